import PyProof.Rows.All
import KE.KDictList
import KE.KFromBytes
import KE.KItem
import KE.KNestM
import KE.KTryMore
import KE.RegKIsAll
import KE.RegKTryMore
import Wide.FinOn
import PyProof.Rows.StrJoin2
import PyProof.SumWalkG
import PyProof.Rows.StrItems
import PyProof.Rows.StrSplit
import PySem.Challenge.RW_padwright_k47_what_is_refused
set_option Elab.async false
set_option linter.all false
set_option maxRecDepth 100000
namespace L2
open PySem PySem.Spec PyProof.Rows
abbrev Key:=Sum Int Str
def keyIs:Key→Value→Bool
 | .inl k,v=>Value.isInt k v
 | .inr x,v=>Value.isStrOf x v
def keyH (w:World):Key→Int
 | .inl k=>hashInt k
 | .inr x=>hashStr w x
theorem keyIs_shape : ∀ {k : Key} {v : Value}, keyIs k v = true → (∃ i t, k = Sum.inl i ∧ v = Value.int i t) ∨ (∃ x t, k = Sum.inr x ∧ v = Value.str x t)
  | .inl i, v, h => by
    obtain ⟨t, e⟩ := Value.isInt_shape (k := i) (v := v) h
    exact .inl ⟨i, t, rfl, e⟩
  | .inr x, v, h => by
    obtain ⟨t, e⟩ := Value.isStrOf_shape (x := x) (v := v) h
    exact .inr ⟨x, t, rfl, e⟩
theorem key_ll (a b:Int):decide ((Sum.inl a:Key)=Sum.inl b)=(a == b):=by
 by_cases e:a=b
 ·subst e;simp
 ·have h : ¬ (Sum.inl a:Key)=Sum.inl b:=fun q=>e (Sum.inl.inj q)
  rw [decide_eq_false h]
  exact (beq_eq_false_iff_ne.mpr e).symm
theorem key_rr (a b:Str):decide ((Sum.inr a:Key)=Sum.inr b)=decide (a=b):=by
 by_cases e:a=b
 ·subst e;simp
 ·have h : ¬ (Sum.inr a:Key)=Sum.inr b:=fun q=>e (Sum.inr.inj q)
  rw [decide_eq_false h,decide_eq_false e]
theorem key_lr (a:Int) (b:Str):decide ((Sum.inl a:Key)=Sum.inr b)=false:=decide_eq_false (fun q=>nomatch q)
theorem key_rl (a:Str) (b:Int):decide ((Sum.inr a:Key)=Sum.inl b)=false:=decide_eq_false (fun q=>nomatch q)
def mixKind (prog:Program) (w:World):PySem.KeyKind prog w Key where
 is:=keyIs
 hash:=keyH w
 inj:=fun v a b ha hb=>by
  rcases keyIs_shape ha with ⟨i,t,rfl,rfl⟩ | ⟨x,t,rfl,rfl⟩
  ·rcases keyIs_shape hb with ⟨j,u,rfl,e⟩ | ⟨y,u,rfl,e⟩
   ·injection e with e1 _;rw [e1]
   ·exact nomatch e
  ·rcases keyIs_shape hb with ⟨j,u,rfl,e⟩ | ⟨y,u,rfl,e⟩
   ·exact nomatch e
   ·injection e with e1 _;rw [e1]
 byValue:=fun k v h=>by
  rcases keyIs_shape h with ⟨i,t,rfl,rfl⟩ | ⟨x,t,rfl,rfl⟩ <;> rfl
 pyHash:=fun hv h=>by
  rcases keyIs_shape hv with ⟨i,t,rfl,rfl⟩ | ⟨x,t,rfl,rfl⟩
  ·exact wpAny_pyHash_int h
  ·exact wpAny_pyHash_str h
 eqBool:=fun hu hv h=>by
  rcases keyIs_shape hu with ⟨i,t,rfl,rfl⟩ | ⟨x,t,rfl,rfl⟩
  ·rcases keyIs_shape hv with ⟨j,u,rfl,rfl⟩ | ⟨y,u,rfl,rfl⟩
   ·rw [key_ll] at h;exact wpAny_eqBool_int h
   ·rw [key_lr] at h;exact SeqAt.EqAt.int_str i t y u _ _ _ _ h
  ·rcases keyIs_shape hv with ⟨j,u,rfl,rfl⟩ | ⟨y,u,rfl,rfl⟩
   ·rw [key_rl] at h;exact SeqAt.EqAt.str_int x t j u _ _ _ _ h
   ·rw [key_rr] at h;exact wpAny_eqBool_str h
 «strs» := fun k x t v h=>by
  rcases keyIs_shape h with ⟨i,u,rfl,e⟩ | ⟨y,u,rfl,e⟩
  ·exact nomatch e
  ·injection e with e1 _
   subst e1
   cases v <;> rfl
inductive V where
 | non | bl (b:Bool) | int (i:Int) | str (x:Str) | byt (b:Array UInt8) | flt (b:UInt64) | ref (a:Addr) | ty (n:String)
 deriving DecidableEq
def RelV:V→Value→Prop
 | .non,u=>u=Value.none
 | .bl b,u=>u=Value.bool b
 | .int i,u=>∃ t,u=Value.int i t
 | .str x,u=>∃ t,u=Value.str x t
 | .byt b,u=>∃ t,u=Value.bytes b t
 | .flt b,u=>∃ t,u=Value.float b t
 | .ref a,u=>u=Value.ref a
 | .ty n,u=>u=Value.type n
abbrev Vals:List V→List Value→Prop:=Paired RelV
theorem Vals.length {xs:List V} {us:List Value} (r:Vals xs us):xs.length=us.length:=Paired.length r
theorem Vals.get : ∀ {xs : List V} {us : List Value} {i : Nat} {x : V}, Vals xs us → xs[i]? = some x → ∃ u, us[i]? = some u ∧ RelV x u
  | _, _, _, _, .nil, e => by simp at e
  | _, _, 0, _, .cons r _, e => by simp at e; subst e; exact ⟨_, rfl, r⟩
  | _, _, i + 1, x, .cons _ t, e => by
    obtain ⟨u, h1, h2⟩ := Vals.get (i := i) (x := x) t (by simpa using e)
    exact ⟨u, by simpa using h1, h2⟩
theorem Vals.set {x:V} {u:Value} (r:RelV x u) : ∀ {xs:List V} {us:List Value} (i:Nat),Vals xs us→Vals (xs.set i x) (us.set i u)
 | _,_,_,.nil=>.nil
 | _,_,0,.cons _ t=>.cons r t
 | _,_,i+1,.cons q t=>.cons q (Vals.set r i t)
theorem Vals.append : ∀ {xs ys:List V} {us ws:List Value},Vals xs us→Vals ys ws→Vals (xs++ys) (us++ws)
 | _,_,_,_,.nil,s=>s
 | _,_,_,_,.cons r t,s=>.cons r (Vals.append t s)
theorem Vals.take : ∀ {xs:List V} {us:List Value} (n:Nat),Vals xs us→Vals (xs.take n) (us.take n)
 | _,_,0,_=>.nil
 | _,_,_+1,.nil=>.nil
 | _,_,n+1,.cons r t=>.cons r (Vals.take n t)
theorem Vals.drop : ∀ {xs:List V} {us:List Value} (n:Nat),Vals xs us→Vals (xs.drop n) (us.drop n)
 | _,_,0,r=>r
 | _,_,_+1,.nil=>.nil
 | _,_,n+1,.cons _ t=>Vals.drop n t
theorem Vals.none_of : ∀ {xs:List V} {us:List Value} {i:Nat},Vals xs us→xs[i]? = none→us[i]? = none:=fun {xs us i} r e=>by
 have h1:=r.length
 have h2:xs.length≤i:=List.getElem?_eq_none_iff.mp e
 exact List.getElem?_eq_none_iff.mpr (by omega)
def RelO:Option V→Option Value→Prop
 | some v,some u=>RelV v u
 | none,none=>True
 | _,_=>False
def KV {κ:Type}:List (κ × V)→List (κ × Value)→Prop:=Paired fun (p:κ × V) (q:κ × Value)=>p.1=q.1∧RelV p.2 q.2
def kV:Key→V
 | .inl i=>.int i
 | .inr x=>.str x
inductive HO where
 | lst (xs:List V)
 | tup (xs:List V)
 | dK (kvs:List (Key × V)) | dT (kvs:List (List Key × V))
 | set (S:Int→Bool) (n:Nat)
 | ins (C dx:Addr) (fs:List (Str × V))
 | own (x:Addr)
 | xd (fs:List (Str × V))
 | met (f x:Addr)
 | rng (lo hi:Int)
 | frz (o:Obj) (u:HO)
 | tbl (ps:Array Value)
 | ext (φ:Heap→Prop)
abbrev Hp:=Addr→Option HO
def upd (H:Hp) (a:Addr) (o:HO):Hp:=fun b=>if b=a then some o else H b
theorem upd_same {H:Hp} {a:Addr} {o:HO}:upd H a o a=some o:=by unfold upd;rw [if_pos rfl]
theorem upd_ne {H:Hp} {a b:Addr} {o:HO} (h:b≠a):upd H a o b=H b:=by unfold upd;rw [if_neg h]
theorem upd_upd {H:Hp} {a:Addr} {o u:HO}:upd (upd H a o) a u=upd H a u:=by
 funext b;unfold upd;split <;> rfl
theorem ne_of {H:Hp} {a b:Addr} {o u:HO} (h:H a=some o) (h':H b=some u) (d:o≠u):a≠b:=by
 intro e;subst e;rw [h] at h';exact d (Option.some.inj h')
theorem ne_of_none {H:Hp} {a b:Addr} {o:HO} (h:H a=some o) (h':H b=none):a≠b:=by
 intro e;subst e;rw [h] at h';cases h'
section
variable (P : Program) (w : World)
def ObjOk (H:Hp) (h:Heap) (a:Addr):HO→Prop
 | .lst xs=>xs.length≤sizeLine ∧ ∃ (its:List Value) (n:Nat),Vals xs its∧h.get? a=some { cls:=.type "list", data:=.seq its.toArray n }
 | .tup xs=>xs.length≤sizeLine ∧ ∃ its:List Value,Vals xs its∧IsTup h a its.toArray
 | .dK kvs=>kvs.length≤sizeLine∧(a == sysModules)=false ∧ ∃ vs,KV kvs vs∧h.DictOf (mixKind P w) a vs
 | .dT kvs=>kvs.length≤sizeLine∧(a == sysModules)=false ∧ ∃ xs:List (List Key × Addr × Value),
   Paired (fun (p:List Key × V) (q:List Key × Addr × Value)=>p.1=q.1∧H q.2.1=some (.tup (p.1.map kV))∧RelV p.2 q.2.2) kvs xs ∧
   ∃ o es ep,h.get? a=some o∧o.ExactDict∧o.data = .dict es ep∧es.toList=xs.map (entryOfKey (tupleKind (mixKind P w)))∧(xs.map (·.1)).Nodup
 | .set S n=>h.SetOf (intKind P w) a S n
 | .ins C dx fs=>H dx=some (.own a)∧fs.length≤1000∧dx≠a∧h.get? a=some (W.instObj C dx) ∧
   ∃ mA,h.Ns1 dx mA∧(∀ f,RelO (fs.lookup f) (mA f))∧PySem.Within mA (fs.map (·.1))
 | .own _=>∃ o,h.get? a=some o
 | .xd fs=>∃ mA,h.Ns1 a mA ∧ ∀ f,RelO (fs.lookup f) (mA f)
 | .rng lo hi=>∃ t u v,h.get? a=some { cls:=.type "range", data:=.fields #[.int lo t,.int hi u,.int 1 v] }
 | .frz o u=>h.get? a=some o∧ObjOk H h a u
 | .tbl ps=>h.get? a=some { cls:=.none,data:=.fields ps }
 | .met f x=>h.get? a=some (W.methodObj (.ref f) (.ref x))
 | .ext φ=>φ h∧(∃ o,h.get? a=some o) ∧ ∀ h1 h2:Heap,φ h1→(∀ o,h1.get? a=some o→h2.get? a=some o)→φ h2
def HOk (H:Hp) (h:Heap):Prop:=∀ a o,H a=some o→ObjOk P w H h a o
end
section
variable {P : Program} {w : World} {H H' : Hp} {h h' : Heap} {a : Addr} {o : HO}
theorem ObjOk.lt (x:ObjOk P w H h a o):a < h.objs.size:=by
 cases o with
 | lst xs=>obtain ⟨_,_,_,_,e⟩:=x;exact Heap.lt_size e
 | tup xs=>obtain ⟨_,_,_,p⟩:=x;exact p.lt
 | dK kvs=>obtain ⟨_,_,_,_,o,_,_,e,_⟩:=x;exact Heap.lt_size e
 | dT kvs=>obtain ⟨_,_,_,_,o,_,_,e,_⟩:=x;exact Heap.lt_size e
 | set S n=>obtain ⟨o,_,_,_,e,_⟩:=x;exact Heap.lt_size e
 | ins C dx fs=>obtain ⟨_,_,_,e,_⟩:=x;exact Heap.lt_size e
 | own y=>obtain ⟨_,e⟩:=x;exact Heap.lt_size e
 | xd fs=>obtain ⟨_,⟨_,_,_,e,_⟩,_⟩:=x;exact Heap.lt_size e
 | rng lo hi=>obtain ⟨_,_,_,e⟩:=x;exact Heap.lt_size e
 | frz ob u=>obtain ⟨e,_⟩:=x;exact Heap.lt_size e
 | tbl ps=>exact Heap.lt_size (show h.get? a=some _ from x)
 | met f y=>exact Heap.lt_size (show h.get? a=some _ from x)
 | ext φ=>obtain ⟨_,⟨_,e⟩,_⟩:=x;exact Heap.lt_size e
theorem Paired.mapP {α β:Type} {F G:α→β→Prop} : ∀ {l₁:List α} {l₂:List β},Paired F l₁ l₂→(∀ a b,F a b→G a b)→Paired G l₁ l₂
 | _,_,.nil,_=>.nil
 | _,_,.cons r t,f=>.cons (f _ _ r) (Paired.mapP t f)
theorem ObjOk.stay (x : ObjOk P w H h a o) (k : ∀ b u, (b = a ∨ H b = some (.own a)) → h.get? b = some u → h'.get? b = some u)
    (ho : ∀ b, H b = some (.own a) → H' b = some (.own a)) (ht : ∀ b xs, H b = some (.tup xs) → H' b = some (.tup xs)) : ObjOk P w H' h' a o := by
  induction o with
  | lst xs => obtain ⟨z, its, n, r, e⟩ := x; exact ⟨z, its, n, r, k _ _ (.inl rfl) e⟩
  | tup xs => obtain ⟨z, its, r, ob, e, c⟩ := x; exact ⟨z, its, r, ob, k _ _ (.inl rfl) e, c⟩
  | dK kvs => obtain ⟨z, y, vs, r, ob, es, ep, e, c⟩ := x; exact ⟨z, y, vs, r, ob, es, ep, k _ _ (.inl rfl) e, c⟩
  | dT kvs =>
    obtain ⟨z, y, xs, r, ob, es, ep, e, c⟩ := x
    exact ⟨z, y, xs, Paired.mapP r fun p q z => ⟨z.1, ht _ _ z.2.1, z.2.2⟩, ob, es, ep, k _ _ (.inl rfl) e, c⟩
  | set S n => obtain ⟨ob, es, ep, t, e, c⟩ := x; exact ⟨ob, es, ep, t, k _ _ (.inl rfl) e, c⟩
  | ins C dx fs =>
    obtain ⟨d, z, ne, e, mA, ⟨od, es, ep, e2, c⟩, r⟩ := x
    exact ⟨ho _ d, z, ne, k _ _ (.inl rfl) e, mA, ⟨od, es, ep, k _ _ (.inr d) e2, c⟩, r⟩
  | own y => obtain ⟨ob, e⟩ := x; exact ⟨ob, k _ _ (.inl rfl) e⟩
  | xd fs => obtain ⟨mA, ⟨od, es, ep, e, c⟩, r⟩ := x; exact ⟨mA, ⟨od, es, ep, k _ _ (.inl rfl) e, c⟩, r⟩
  | rng lo hi => obtain ⟨t, u, v, e⟩ := x; exact ⟨t, u, v, k _ _ (.inl rfl) e⟩
  | frz ob u ih => obtain ⟨e, q⟩ := x; exact ⟨k _ _ (.inl rfl) e, ih q⟩
  | tbl ps =>
    have e : h.get? a = some { cls := .none, data := .fields ps } := x
    show h'.get? a = some { cls := .none, data := .fields ps }
    exact k a _ (.inl rfl) e
  | met f y =>
    have e : h.get? a = some (W.methodObj (.ref f) (.ref y)) := x
    show h'.get? a = some (W.methodObj (.ref f) (.ref y))
    exact k a _ (.inl rfl) e
  | ext φ => obtain ⟨p, ⟨o, e⟩, st⟩ := x; exact ⟨st _ _ p fun o q => k _ _ (.inl rfl) q, ⟨o, k _ _ (.inl rfl) e⟩, st⟩
theorem HOk.lt (x:HOk P w H h) (e:H a=some o):a < h.objs.size:=(x a o e).lt
theorem HOk.fresh (x:HOk P w H h) (e:h.objs.size≤a):H a=none:=by
 cases q:H a with
 | none=>rfl
 | some u=>exact absurd (Nat.lt_of_lt_of_le (x.lt q) e) (Nat.lt_irrefl _)
theorem HOk.kept (x:HOk P w H h) (k : ∀ b u,h.get? b=some u→h'.get? b=some u):HOk P w H h':=fun a o e =>
 (x a o e).stay (fun b u _ q=>k b u q) (fun _ q=>q) fun _ _ q=>q
theorem HOk.laid (x:HOk P w H h) (k : ∀ b u,h.get? b=some u→h'.get? b=some u) (hp:h.objs.size≤a) (new:ObjOk P w (upd H a o) h' a o):HOk P w (upd H a o) h':=fun b u e=>by
 have hn:=x.fresh hp
 by_cases hb:b=a
 ·subst hb;rw [upd_same] at e;cases e;exact new
 ·rw [upd_ne hb] at e
  exact (x b u e).stay (fun c v _ q=>k c v q) (fun c q=>by rw [upd_ne (ne_of_none q hn)];exact q) fun c xs q=>by rw [upd_ne (ne_of_none q hn)];exact q
end
def Rd (H:Hp) (a:Addr) (u:HO):Prop:=H a=some u ∨ ∃ o,H a=some (.frz o u)
theorem Rd.of {H:Hp} {a:Addr} {u:HO} (h:H a=some u):Rd H a u:=.inl h
theorem Rd.ok {P:Program} {w:World} {H:Hp} {h:Heap} {a:Addr} {u:HO} (r:Rd H a u) (x:HOk P w H h):ObjOk P w H h a u:=by
 rcases r with r | ⟨o,r⟩
 ·exact x a u r
 ·obtain ⟨_,q⟩:=x a _ r
  exact q
def Mut:Option HO→Prop
 | some (.lst _)=>True
 | some (.dK _)=>True
 | some (.dT _)=>True
 | some (.set _ _)=>True
 | some (.ins _ _ _)=>True
 | some (.ext _)=>True
 | _=>False
section
variable {P : Program} {w : World} {H : Hp} {h h' : Heap} {x e : Addr} {o' : HO}
theorem HOk.write (ok:HOk P w H h) (mu:Mut (H x)) (he:e=x∨H e=some (.own x)) (k : ∀ b u,b≠e→h.get? b=some u→h'.get? b=some u) (heo : ∃ u,h'.get? e=some u)
  (new:ObjOk P w (upd H x o') h' x o'):HOk P w (upd H x o') h':=fun b u q=>by
 have nown : ∀ c y,H c=some (.own y)→c≠x:=fun c y r z=>by subst z;rw [r] at mu;exact mu
 have ntup : ∀ c xs,H c=some (.tup xs)→c≠x:=fun c xs r z=>by subst z;rw [r] at mu;exact mu
 by_cases hb:b=x
 ·subst hb;rw [upd_same] at q;cases q;exact new
 ·rw [upd_ne hb] at q
  by_cases hbe:b=e
  ·have q':H b=some (.own x):=by
    rcases he with z | z
    ·exact absurd (hbe.trans z) hb
    ·rw [hbe];exact z
   rw [q] at q';cases q'
   obtain ⟨v,hv⟩:=heo
   exact ⟨v,by rw [hbe];exact hv⟩
  ·refine (ok b u q).stay (fun c v hc r=>k c v ?_ r) (fun c r=>by rw [upd_ne (nown c b r)];exact r) fun c xs r=>by rw [upd_ne (ntup c xs r)];exact r
   rcases hc with rfl | hc
   ·exact hbe
   ·rintro rfl
    rcases he with z | z
    ·exact nown c b hc z
    ·rw [hc] at z;cases z;exact hb rfl
end
structure Un (fs ex:List Addr) (H H':Hp) (h h':Heap):Prop where
 keep : ∀ b o,h.get? b=some o→H b=none→b ∉ fs→b ∉ ex→h'.get? b=some o
 slot : ∀ b o,h.get? b=some o→H b=none→b ∈ fs→b ∉ ex → ∃ sl,h'.get? b=some { o with slots:=sl }
 free : ∀ b o,h.get? b=some o→H b=none→b ∉ ex→H' b=none
 there : ∀ b o,h.get? b=some o→b ∉ ex → ∃ o',h'.get? b=some o'
 tups : ∀ b xs,H b=some (.tup xs)→H' b=some (.tup xs)
 frzs : ∀ b o u,H b=some (.frz o u)→H' b=some (.frz o u)
 tbls : ∀ b ps,H b=some (.tbl ps) → ∃ more,H' b=some (.tbl (ps++more))
section
variable {fs fs' ex ex' : List Addr} {H H1 H2 : Hp} {h h1 h2 h' : Heap} {a x e : Addr} {o : HO}
theorem Un.any (u:Un fs ex H H1 h h1) {b:Addr} {ob:Obj} (q:h.get? b=some ob) (n:H b=none) (hx:b ∉ ex) : ∃ sl,h1.get? b=some { ob with slots:=sl }:=by
 by_cases hb:b ∈ fs
 ·exact u.slot b ob q n hb hx
 ·exact ⟨ob.slots,u.keep b ob q n hb hx⟩
theorem Un.trans (a:Un fs ex H H1 h h1) (b:Un fs ex H1 H2 h1 h2):Un fs ex H H2 h h2 where
 keep:=fun c ob q n hc hx=>b.keep c ob (a.keep c ob q n hc hx) (a.free c ob q n hx) hc hx
 slot:=fun c ob q n hc hx=>by
  obtain ⟨sl,e1⟩:=a.slot c ob q n hc hx
  obtain ⟨sl',e2⟩:=b.slot c _ e1 (a.free c ob q n hx) hc hx
  exact ⟨sl',e2⟩
 free:=fun c ob q n hx=>by
  obtain ⟨o',e1⟩:=a.there c ob q hx
  exact b.free c o' e1 (a.free c ob q n hx) hx
 there:=fun c ob q hx=>by
  obtain ⟨o',e1⟩:=a.there c ob q hx
  exact b.there c o' e1 hx
 tups:=fun c xs q=>b.tups c xs (a.tups c xs q)
 frzs:=fun c ob xs q=>b.frzs c ob xs (a.frzs c ob xs q)
 tbls:=fun c ps q=>by
  obtain ⟨m1,e1⟩:=a.tbls c ps q
  obtain ⟨m2,e2⟩:=b.tbls c _ e1
  exact ⟨m1++m2,by rw [e2,Array.append_assoc]⟩
theorem Un.kept (k : ∀ b u,h.get? b=some u→h'.get? b=some u):Un fs ex H H h h':=
 ⟨fun b ob q _ _ _=>k b ob q,fun b ob q _ _ _=>⟨ob.slots,k b ob q⟩,fun _ _ _ n _=>n,fun b ob q _=>⟨ob,k b ob q⟩,fun _ _ q=>q,fun _ _ _ q=>q,fun _ ps q=>⟨#[],by rw [q];simp⟩⟩
theorem Un.refl:Un fs ex H H h h:=Un.kept fun _ _ q=>q
theorem Un.laid (k : ∀ b u,h.get? b=some u→h'.get? b=some u) (hp:h.objs.size≤a) (hn:H a=none):Un fs ex H (upd H a o) h h' where
 keep:=fun b u q _ _ _=>k b u q
 slot:=fun b u q _ _ _=>⟨u.slots,k b u q⟩
 free:=fun b u q n _=>by rw [upd_ne (Nat.ne_of_lt (Nat.lt_of_lt_of_le (Heap.lt_size q) hp))];exact n
 there:=fun b u q _=>⟨u,k b u q⟩
 tups:=fun b xs q=>by rw [upd_ne (ne_of_none q hn)];exact q
 frzs:=fun b u xs q=>by rw [upd_ne (ne_of_none q hn)];exact q
 tbls:=fun b ps q=>⟨#[],by rw [upd_ne (ne_of_none q hn),q];simp⟩
theorem Un.write (mu:Mut (H x)) (he:e=x∨H e=some (.own x)) (k : ∀ b u,b≠e→h.get? b=some u→h'.get? b=some u) (heo : ∃ u,h'.get? e=some u):Un fs ex H (upd H x o) h h':=by
 have hx : ∀ b,H b=none→b≠x:=fun b n z=>by subst z;rw [n] at mu;exact mu
 have hb : ∀ b,H b=none→b≠e:=fun b n z=>by
  subst z
  rcases he with r | r
  ·exact hx b n r
  ·rw [n] at r;cases r
 have hm : ∀ b u,H b=some u → ¬ Mut (some u)→b≠x:=fun b u q nm z=>by subst z;rw [q] at mu;exact nm mu
 refine ⟨fun b u q n _ _=>k b u (hb b n) q,fun b u q n _ _=>⟨u.slots,k b u (hb b n) q⟩,fun b u q n _=>by rw [upd_ne (hx b n)];exact n,fun b u q _=>?_,
  fun b xs q=>by rw [upd_ne (hm b _ q fun z=>z)];exact q,fun b u xs q=>by rw [upd_ne (hm b _ q fun z=>z)];exact q,fun b ps q=>⟨#[],by rw [upd_ne (hm b _ q fun z=>z),q];simp⟩⟩
 by_cases hbe:b=e
 ·subst hbe;exact heo
 ·exact ⟨u,k b u hbe q⟩
theorem Un.mono (u:Un fs ex H H1 h h1) (hs : ∀ b ∈ fs,b ∈ fs') (hx : ∀ b ∈ ex,b ∈ ex'):Un fs' ex' H H1 h h1:=
 ⟨fun b ob q n hb he=>u.keep b ob q n (fun z=>hb (hs b z)) fun z=>he (hx b z),fun _ _ q n _ he=>u.any q n fun z=>he (hx _ z),fun b ob q n he=>u.free b ob q n fun z=>he (hx b z),fun b ob q he=>u.there b ob q fun z=>he (hx b z),u.tups,u.frzs,u.tbls⟩
end
def trk (h:Heap) (H:Hp):List Addr:=(List.range h.objs.size).filter fun a=>(H a).isSome
def hidT (h:Heap) (H:Hp):Heap:=W.hideAll h (trk h H)
theorem hidT_size (h:Heap) (H:Hp):(hidT h H).objs.size=h.objs.size:=W.hideAll_size _ _
theorem hidT_get {h:Heap} {H:Hp} {b:Addr} {o:Obj} (e:h.get? b=some o) (n:H b=none):(hidT h H).get? b=some o:=
 W.hideAll_get _ e fun hm=>by
  have q:(H b).isSome=true:=(List.mem_filter.mp hm).2
  rw [n] at q;simp at q
theorem of_hidT {h : Heap} {H : Hp} {b : Addr} {o : Obj} (e : (hidT h H).get? b = some o) : h.get? b = some o ∧ H b = none := by
  have e' : h.get? b = some o := W.of_hideAll (trk h H) e
  refine ⟨e', ?_⟩
  cases q : H b with
  | none => rfl
  | some x =>
    have hm : b ∈ trk h H := List.mem_filter.mpr ⟨List.mem_range.mpr (Heap.lt_size e'), by simp [q]⟩
    have z : (hidT h H).get? b = none := W.hideAll_none (trk h H) hm
    rw [z] at e; cases e
def allNews (g h:Heap) (L:Addr):List (Addr × Obj):=(List.range h.objs.size).filterMap fun a=>if a=L∨(g.get? a).isSome=true then none else (h.get? a).map fun o=>(a,o)
def rest (g h:Heap) (L d:Addr):List (Addr × Obj):=(allNews g h L).filter fun p=>decide (p.1≠d)
structure Mod (K:W.Frag) (mg:Str→Option Value) (base:Heap):Prop where
 kin:K.In base
 glob:base.Ns mainGlobals mg
 blt : ∃ mb,base.Ns builtinsNs mb ∧ ∀ x:Str,x ≠ "__name__" → mb x=bootBuiltins x
 nolimit:base.NoLimit
structure Cx where
 prog:Program
 w:World
 K:W.Frag
 mg:Str→Option Value
 base:Heap
 A:Around
 N:List Str
 s₀:Shared
 H₀:Hp
 env:Env
 outer:List Env
 stack:List Env
 ex:List Addr
 fn:Str→Bool
 calm:Bool
 pn:List (Addr × Obj)
 xe:Value→Shared→Prop
def frs (l:List Env):List Addr:=l.filterMap (·.frame)
abbrev Cx.fs (X:Cx):List Addr:=frs X.outer
def Vis (sc:Scope) (x:Str):Prop:=sc.names.lookup x=some .local∨sc.names.lookup x=some .cell∨sc.names.lookup x=some .free
def Loc (sc:Scope) (x:Str):Prop:=sc.names.lookup x=some .local∨sc.names.lookup x=some .cell
def Look (env:Env) (h:Heap) (m:Str→Option Value) (x:Str) (u:Value):Prop:=
 (env.kindOf x=some .local∧m x=some u)∨((env.kindOf x=some .cell∨env.kindOf x=some .free) ∧ ∃ c,env.cells.lookup x=some c∧h.IsCell c (some u))
structure Cx.Ok (X:Cx):Prop where
 mod:Mod X.K X.mg X.base
 kind:X.env.scope.kind = .function
 glob:X.env.globals=mainGlobals
 blt:X.env.builtins=builtinsNs
 above:X.s₀.heap.objs.size≤X.env.locals
 inj : ∀ x y c,X.env.cells.lookup x=some c→X.env.cells.lookup y=some c→x=y
 has : ∀ x,(X.env.kindOf x=some .cell∨X.env.kindOf x=some .free) → ∃ c,X.env.cells.lookup x=some c
 cab : ∀ x c,X.fn x=true→X.env.cells.lookup x=some c→X.s₀.heap.objs.size≤c
 hd:X.calm=true→X.A.handled=none
 frames:X.A.frames=some X.stack
 stk:X.stack=X.outer∨(X.stack=X.env::X.outer∧X.env.frame=some X.env.locals)
 exf : ∀ b ∈ X.ex,b≠X.env.locals ∧ ∀ x c,X.env.cells.lookup x=some c→c≠b
 bs : ∀ b o,X.base.get? b=some o→X.s₀.heap.get? b=some o∧X.H₀ b=none
 bsz:X.base.objs.size≤X.s₀.heap.objs.size
 noex : ∀ b o,X.base.get? b=some o→b ∉ X.ex
 exfs : ∀ b ∈ X.ex,b ∉ X.fs
 funs:X.s₀.heap.FunFrames X.base X.outer
 frf : ∀ b ∈ X.fs,X.H₀ b=none
structure Inv (X:Cx) (pins:List (Addr × Obj)) (σ:List (Option V)) (H:Hp) (s:Shared):Prop where
 ok:X.Ok
 os:s.os=X.s₀.os
 bare:AllBare s.gens
 base:Un X.fs X.ex X.H₀ H X.s₀.heap s.heap
 loc : ∃ m,s.heap.Ns X.env.locals m ∧ ∀ (i:Nat) (x:Str) (v:V),X.N[i]? = some x→σ[i]? = some (some v)→Vis X.env.scope x → ∃ u,RelV v u∧Look X.env s.heap m x u
 cell : ∀ x c,X.env.cells.lookup x=some c → ∃ v,s.heap.IsCell c v
 free:H X.env.locals=none
 freeC : ∀ x c,X.env.cells.lookup x=some c→H c=none
 pin : ∀ p ∈ X.pn++pins,s.heap.get? p.1=some p.2∧H p.1=none∧p.1≠X.env.locals∧p.1 ∉ X.fs ∧ ∀ v,p.2.data ≠ .cell v
 hok:HOk X.prog X.w H s.heap
 len:σ.length=X.N.length
section
variable {X : Cx} {pins : List (Addr × Obj)} {σ : List (Option V)} {H H' : Hp} {s : Shared} {h' : Heap}
theorem Cx.Ok.nofr (ok:X.Ok) {b:Addr} {o:Obj} (e:X.base.get? b=some o):b ∉ X.fs:=fun hb=>by
 have:=(ok.funs.mem hb).1
 rw [e] at this;cases this
theorem Inv.bs (I:Inv X pins σ H s) : ∀ b o,X.base.get? b=some o→s.heap.get? b=some o∧H b=none:=fun b o e =>
 ⟨I.base.keep b o (I.ok.bs b o e).1 (I.ok.bs b o e).2 (I.ok.nofr e) (I.ok.noex b o e),I.base.free b o (I.ok.bs b o e).1 (I.ok.bs b o e).2 (I.ok.noex b o e)⟩
theorem Inv.bk (I:Inv X pins σ H s) : ∀ b o,X.base.get? b=some o→s.heap.get? b=some o:=fun b o e=>(I.bs b o e).1
theorem Inv.mod (I:Inv X pins σ H s):Mod X.K X.mg X.base:=I.ok.mod
theorem Inv.kIn (I:Inv X pins σ H s):X.K.In s.heap:=I.ok.mod.kin.keeps I.bk
theorem Inv.nolimit (I:Inv X pins σ H s):s.heap.NoLimit:=I.ok.mod.nolimit.keeps I.bk
theorem Inv.fr (I:Inv X pins σ H s) : ∃ m,Fr X.base X.env.locals s.heap m:=
 let ⟨m,hn,_⟩:=I.loc
 ⟨m,hn,I.bk,Nat.le_trans I.ok.bsz I.ok.above⟩
theorem Inv.lt (I:Inv X pins σ H s):X.env.locals < s.heap.objs.size:=let ⟨_,hn,_⟩:=I.loc;hn.lt
theorem Inv.sz (I:Inv X pins σ H s):X.s₀.heap.objs.size≤s.heap.objs.size:=Nat.le_trans I.ok.above (Nat.le_of_lt I.lt)
theorem Inv.nofs (I:Inv X pins σ H s) {a:Addr} (h:s.heap.objs.size≤a):a ∉ X.fs:=fun hb=>by
 obtain ⟨_,o,ho,_⟩:=I.ok.funs.mem hb
 exact absurd (Nat.lt_of_lt_of_le (Heap.lt_size ho) (Nat.le_trans I.sz h)) (Nat.lt_irrefl _)
theorem Inv.cne (I:Inv X pins σ H s) : ∀ x c,X.env.cells.lookup x=some c→c≠X.env.locals:=fun x c e z=>by
 obtain ⟨v,o,ho,hd⟩:=I.cell x c e
 obtain ⟨m,⟨o',es,ep,ho',hd',_⟩,_⟩:=I.loc
 rw [z,ho'] at ho;cases ho;rw [hd'] at hd;cases hd
theorem Inv.funs (I : Inv X pins σ H s) : s.heap.FunFrames X.base X.outer := by
  have all : ∀ (l : List Env), (∀ b ∈ frs l, b ∈ X.fs) → X.s₀.heap.FunFrames X.base l → s.heap.FunFrames X.base l := by
    intro l
    induction l with
    | nil => intro _ _; trivial
    | cons env r ih =>
      intro hs hl
      obtain ⟨hk, ⟨L, o, hf, hn, ho, hd⟩, hr⟩ := hl
      have hL : L ∈ X.fs := hs L (by unfold frs; rw [List.filterMap_cons, hf]; exact List.mem_cons_self)
      obtain ⟨sl, e⟩ := I.base.slot L o ho (I.ok.frf L hL) hL fun z => I.ok.exfs L z hL
      exact ⟨hk, ⟨L, _, hf, hn, e, hd⟩, ih (fun b hb => hs b (by unfold frs; rw [List.filterMap_cons, hf]; exact List.mem_cons_of_mem _ hb)) hr⟩
  exact all X.outer (fun _ hb => hb) I.ok.funs
theorem Inv.stack (I:Inv X pins σ H s):s.heap.FunFrames X.base X.stack:=by
 rcases I.ok.stk with e | ⟨e,hf⟩
 ·rw [e];exact I.funs
 ·rw [e]
  obtain ⟨m,hn,_⟩:=I.loc
  refine .cons (by rw [I.ok.kind];decide) hf hn ?_ I.funs
  exact Heap.get?_none_of_le (Nat.le_trans I.ok.bsz I.ok.above)
theorem Inv.stkSub (I:Inv X pins σ H s) : ∀ b ∈ frs X.stack,b ∈ X.env.locals::X.fs:=fun b hb=>by
 rcases I.ok.stk with e | ⟨e,hf⟩
 ·rw [e] at hb;exact List.mem_cons_of_mem _ hb
 ·rw [e] at hb
  unfold frs at hb
  rw [List.filterMap_cons,hf] at hb
  exact hb
theorem Inv.stkFree (I:Inv X pins σ H s) : ∀ b ∈ frs X.stack,H b=none:=fun b hb=>by
 rcases List.mem_cons.mp (I.stkSub b hb) with e | hb
 ·rw [e];exact I.free
 ·obtain ⟨_,o,ho,_⟩:=I.ok.funs.mem hb
  exact I.base.free b o ho (I.ok.frf b hb) fun z=>I.ok.exfs b z hb
theorem Inv.step {g':Array GenState} {t':Nat} {d':Drawn} {ch:List Addr} (I:Inv X pins σ H s)
  (hch : ∀ b ∈ ch,(b ∈ X.ex∨X.s₀.heap.objs.size≤b)∧b≠X.env.locals∧(∀ x c,X.env.cells.lookup x=some c→c≠b) ∧ ∀ p ∈ X.pn++pins,p.1≠b)
  (keep : ∀ b o,b≠X.env.locals→b ∉ X.fs→b ∉ ch→s.heap.get? b=some o→H b=none→h'.get? b=some o)
  (slot : ∀ b o,b≠X.env.locals→b ∈ X.fs→b ∉ ch→s.heap.get? b=some o→H b=none → ∃ sl,h'.get? b=some { o with slots:=sl }) (free : ∀ b o,b ∉ ch→s.heap.get? b=some o→H b=none→H' b=none)
  (there : ∀ b o,b ∉ ch→s.heap.get? b=some o → ∃ o',h'.get? b=some o')
  (tups : ∀ b xs,H b=some (.tup xs)→H' b=some (.tup xs)) (frzs : ∀ b o u,H b=some (.frz o u)→H' b=some (.frz o u)) (tbls : ∀ b ps,H b=some (.tbl ps) → ∃ more,H' b=some (.tbl (ps++more)))
  (ns : ∀ m,s.heap.Ns X.env.locals m→h'.Ns X.env.locals m) (hok:HOk X.prog X.w H' h') (hg:AllBare g') :
  Inv X pins σ H' { s with heap:=h',gens:=g',drawn:=d',toks:=t' }:=by
 have neL : ∀ b o,X.s₀.heap.get? b=some o→b≠X.env.locals:=fun b o e=>Nat.ne_of_lt (Nat.lt_of_lt_of_le (Heap.lt_size e) I.ok.above)
 have neC : ∀ b o,X.s₀.heap.get? b=some o→b ∉ X.ex→b ∉ ch:=fun b o e hx hb=>by
  rcases (hch b hb).1 with z | z
  ·exact hx z
  ·exact absurd (Nat.lt_of_lt_of_le (Heap.lt_size e) z) (Nat.lt_irrefl _)
 have cellK : ∀ x c,X.env.cells.lookup x=some c → ∀ v,s.heap.IsCell c v→h'.IsCell c v:=fun x c e v ⟨o,ho,hd⟩=>by
  have nch:c ∉ ch:=fun z=>(hch c z).2.2.1 x c e rfl
  by_cases hc:c ∈ X.fs
  ·obtain ⟨sl,q⟩:=slot c o (I.cne x c e) hc nch ho (I.freeC x c e)
   exact ⟨_,q,hd⟩
  ·exact ⟨o,keep c o (I.cne x c e) hc nch ho (I.freeC x c e),hd⟩
 refine ⟨I.ok,I.os,hg,⟨fun b o e n hb hx=>?_,fun b o e n hb hx=>?_,fun b o e n hx=>?_,fun b o e hx=>?_,fun b xs e=>tups b xs (I.base.tups b xs e),fun b o xs e=>frzs b o xs (I.base.frzs b o xs e),fun b ps e=>?_⟩,?_,fun x c e=>?_,?_,fun x c e=>?_,fun p hp=>?_,hok,I.len⟩
 ·exact keep b o (neL b o e) hb (neC b o e hx) (I.base.keep b o e n hb hx) (I.base.free b o e n hx)
 ·obtain ⟨sl,e1⟩:=I.base.slot b o e n hb hx
  obtain ⟨sl',e2⟩:=slot b _ (neL b o e) hb (neC b o e hx) e1 (I.base.free b o e n hx)
  exact ⟨sl',e2⟩
 ·obtain ⟨o',e1⟩:=I.base.there b o e hx
  exact free b o' (neC b o e hx) e1 (I.base.free b o e n hx)
 ·obtain ⟨o',e1⟩:=I.base.there b o e hx
  exact there b o' (neC b o e hx) e1
 ·obtain ⟨m1,e1⟩:=I.base.tbls b ps e
  obtain ⟨m2,e2⟩:=tbls b _ e1
  exact ⟨m1++m2,by rw [e2,Array.append_assoc]⟩
 ·obtain ⟨m,hn,hl⟩:=I.loc
  refine ⟨m,ns m hn,fun i x v e1 e2 e3=>?_⟩
  obtain ⟨u,r,l⟩:=hl i x v e1 e2 e3
  refine ⟨u,r,?_⟩
  rcases l with l | ⟨k,c,e,z⟩
  ·exact .inl l
  ·exact .inr ⟨k,c,e,cellK x c e _ z⟩
 ·obtain ⟨v,z⟩:=I.cell x c e
  exact ⟨v,cellK x c e v z⟩
 ·obtain ⟨m,⟨o,_,_,ho,_⟩,_⟩:=I.loc
  exact free _ o (fun z=>(hch _ z).2.1 rfl) ho I.free
 ·obtain ⟨v,o,ho,hd⟩:=I.cell x c e
  exact free c o (fun z=>(hch c z).2.2.1 x c e rfl) ho (I.freeC x c e)
 ·obtain ⟨e,n,ne,nf,d⟩:=I.pin p hp
  have nch:p.1 ∉ ch:=fun z=>(hch p.1 z).2.2.2 p hp rfl
  exact ⟨keep p.1 p.2 ne nf nch e n,free p.1 p.2 nch e n,ne,nf,d⟩
theorem Inv.un {t':Nat} (I:Inv X pins σ H s) (u:Un X.fs [] H H' s.heap h') (hok:HOk X.prog X.w H' h'):Inv X pins σ H' { s with heap:=h',toks:=t' }:=by
 obtain ⟨m,⟨o,es,ep,ho,r⟩,_⟩:=id I.loc
 obtain ⟨sl,hL⟩:=u.any ho I.free (by simp)
 exact I.step (g':=s.gens) (d':=s.drawn) (ch:=[]) (fun _ z=>nomatch z) (fun b o _ hb _ e n=>u.keep b o e n hb (by simp)) (fun b o _ hb _ e n=>u.slot b o e n hb (by simp)) (fun b o _ e n=>u.free b o e n (by simp)) (fun b o _ e=>u.there b o e (by simp)) u.tups u.frzs u.tbls (fun m' hm=>by
  obtain ⟨o',es',ep',ho',r'⟩:=hm
  rw [ho] at ho';cases ho'
  exact ⟨_,es',ep',hL,r'⟩) hok I.bare
theorem Inv.call {g':Array GenState} {t':Nat} {d':Drawn} {ch:List Addr} (I:Inv X pins σ H s) (u:Un (frs X.stack) ch H H' s.heap h') (hok:HOk X.prog X.w H' h') (hg:AllBare g')
  (hch : ∀ b ∈ ch,(b ∈ X.ex∨X.s₀.heap.objs.size≤b)∧b≠X.env.locals∧(∀ x c,X.env.cells.lookup x=some c→c≠b) ∧ ∀ p ∈ X.pn++pins,p.1≠b) :
  Inv X pins σ H' { s with heap:=h',gens:=g',drawn:=d',toks:=t' }:=by
 obtain ⟨m,⟨o,es,ep,ho,r⟩,_⟩:=id I.loc
 obtain ⟨sl,hL⟩:=u.any ho I.free fun z=>(hch _ z).2.1 rfl
 exact I.step (ch:=ch) hch (fun b o hL hb hc e n=>u.keep b o e n (fun z=>(List.mem_cons.mp (I.stkSub b z)).elim hL hb) hc) (fun b o _ _ hc e n=>u.any e n hc) (fun b o hc e n=>u.free b o e n hc) (fun b o hc e=>u.there b o e hc) u.tups u.frzs u.tbls (fun m' hm=>by
  obtain ⟨o',es',ep',ho',r'⟩:=hm
  rw [ho] at ho';cases ho'
  exact ⟨_,es',ep',hL,r'⟩) hok hg
theorem Inv.turned {t':Nat} {it:Addr} (I:Inv X pins σ H s) (k : ∀ b o,b≠it→s.heap.get? b=some o→h'.get? b=some o) (hn:H it=none) (hL:it≠X.env.locals)
  (h1:it ∈ X.ex∨X.s₀.heap.objs.size≤it) (h2 : ∀ x c,X.env.cells.lookup x=some c→c≠it) (h3 : ∀ p ∈ X.pn++pins,p.1≠it):Inv X pins σ H { s with heap:=h',toks:=t' }:=by
 have nit : ∀ b u,H b=some u→b≠it:=fun b u e z=>by rw [z,hn] at e;cases e
 refine I.step (g':=s.gens) (d':=s.drawn) (ch:=[it]) (fun b hb=>?_) (fun b o _ _ hc e _=>k b o (fun z=>hc (by simp [z])) e) (fun b o _ _ hc e _=>⟨o.slots,k b o (fun z=>hc (by simp [z])) e⟩) (fun _ _ _ _ n=>n)
  (fun b o hc e=>⟨o,k b o (fun z=>hc (by simp [z])) e⟩) (fun _ _ e=>e) (fun _ _ _ e=>e) (fun b ps e=>⟨#[],by rw [e];simp⟩) (fun m hm=>?_) (fun b u e=>?_) I.bare
 ·have e:b=it:=by simpa using hb
  subst e
  exact ⟨h1,hL,h2,h3⟩
 ·obtain ⟨o,es,ep,ho,r⟩:=hm
  exact ⟨o,es,ep,k _ o (Ne.symm hL) ho,r⟩
 ·refine (I.hok b u e).stay (fun c v hc q=>k c v ?_ q) (fun _ q=>q) fun _ _ q=>q
  rcases hc with z | z
  ·rw [z];exact nit b u e
  ·exact nit c _ z
theorem Inv.tok (I:Inv X pins σ H s) (t:Nat):Inv X pins σ H { s with toks:=t }:=I.un (h':=s.heap) (t':=t) Un.refl I.hok
theorem Inv.kept {t':Nat} (I:Inv X pins σ H s) (k : ∀ b u,s.heap.get? b=some u→h'.get? b=some u):Inv X pins σ H { s with heap:=h',toks:=t' }:=I.un (Un.kept k) (I.hok.kept k)
theorem Inv.laid {a:Addr} {o:HO} {t':Nat} (I:Inv X pins σ H s) (k : ∀ b u,s.heap.get? b=some u→h'.get? b=some u) (hp:s.heap.objs.size≤a) (new:ObjOk X.prog X.w (upd H a o) h' a o) :
  Inv X pins σ (upd H a o) { s with heap:=h',toks:=t' }:=I.un (Un.laid k hp (I.hok.fresh hp)) (I.hok.laid k hp new)
theorem Inv.write {x e:Addr} {o:HO} {t':Nat} (I:Inv X pins σ H s) (mu:Mut (H x)) (he:e=x∨H e=some (.own x)) (k : ∀ b u,b≠e→s.heap.get? b=some u→h'.get? b=some u) (heo : ∃ u,h'.get? e=some u)
  (new:ObjOk X.prog X.w (upd H x o) h' x o):Inv X pins σ (upd H x o) { s with heap:=h',toks:=t' }:=I.un (Un.write mu he k heo) (I.hok.write mu he k heo new)
theorem Inv.weak {σ':List (Option V)} (I:Inv X pins σ H s) (hl:σ'.length=σ.length) (w : ∀ (i:Nat) v,σ'[i]? = some (some v)→σ[i]? = some (some v)):Inv X pins σ' H s:=
 ⟨I.ok,I.os,I.bare,I.base,let ⟨m,hn,hl'⟩:=I.loc;⟨m,hn,fun i x v e1 e2 e3=>hl' i x v e1 (w i v e2) e3⟩,I.cell,I.free,I.freeC,I.pin,I.hok,hl.trans I.len⟩
theorem Inv.pins_of {pins':List (Addr × Obj)} (I:Inv X pins σ H s) (h : ∀ p ∈ pins',s.heap.get? p.1=some p.2∧H p.1=none∧p.1≠X.env.locals∧p.1 ∉ X.fs ∧ ∀ v,p.2.data ≠ .cell v):Inv X pins' σ H s:=
 ⟨I.ok,I.os,I.bare,I.base,I.loc,I.cell,I.free,I.freeC,fun p hp=>(List.mem_append.mp hp).elim (fun z=>I.pin p (List.mem_append_left _ z)) (h p),I.hok,I.len⟩
theorem nodup_ix {N:List Str} (hN:N.Nodup) {i j:Nat} {x:Str} (a:N[i]? = some x) (b:N[j]? = some x):i=j:=by
 obtain ⟨h1,e1⟩:=List.getElem?_eq_some_iff.mp a
 obtain ⟨h2,e2⟩:=List.getElem?_eq_some_iff.mp b
 exact (List.getElem_inj hN).mp (e1.trans e2.symm)
theorem store_ok2 {M:Model} {A:Around} {E:Value→Shared→Prop} {i:Nat} {x:Str} {v:V} {u:Value} {Q:Unit→Shared→Prop} (I:Inv X pins σ H s) (hN:X.N.Nodup) (hi:X.N[i]? = some x) (hx:Loc X.env.scope x) (r:RelV v u)
  (h : ∀ s',Inv X pins (σ.set i (some v)) H s'→(∃ a,Heap.SameBut a s.heap s'.heap∧(a=X.env.locals∨X.env.cells.lookup x=some a))→Q () s') (hf:X.fn x=true∨X.env.scope.names.lookup x=some .local:=by first | exact .inl rfl | exact .inr rfl | assumption):wpAny M A (storeName X.env x u) Q E s:=by
 obtain ⟨m,hn,hl⟩:=id I.loc
 have hcls:(X.env.scope.kind == .class || (X.env.scope.kind == .module && X.env.locals != X.env.globals))=false:=by rw [I.ok.kind];rfl
 have hiσ:i < σ.length:=by rw [I.len];exact (List.getElem?_eq_some_iff.mp hi).1
 have cne:=I.cne
 have tracked : ∀ {a:Addr} {h':Heap},(∃ o,s.heap.get? a=some o∧H a=none)→Heap.SameBut a s.heap h'→HOk X.prog X.w H h':=fun {a h'} ha hs b ob e=>by
  obtain ⟨_,_,hfree⟩:=ha
  refine (I.hok b ob e).stay (fun c w' hc q=>(hs.2 c ?_).trans q) (fun _ q=>q) fun _ _ q=>q
  rintro rfl
  rcases hc with rfl | hc
  ·rw [hfree] at e;cases e
  ·rw [hfree] at hc;cases hc
 rcases hx with hk | hk
 ·refine wpAny_storeName_local hk hn (fun h' hn' hs=>?_) hcls
  obtain ⟨oL,_,_,hoL,_⟩:=id hn
  refine h _ ⟨I.ok,I.os,I.bare,⟨fun b o e n hb hx=>?_,fun b o e n hb hx=>?_,I.base.free,fun b o e hx=>?_,I.base.tups,I.base.frzs,I.base.tbls⟩,⟨_,hn',fun j y v' e1 e2 e3=>?_⟩,fun y c e=>?_,I.free,I.freeC,fun p hp=>?_,tracked ⟨oL,hoL,I.free⟩ hs,by simpa using I.len⟩ ⟨_,hs,.inl rfl⟩
  ·exact (hs.2 b (Nat.ne_of_lt (Nat.lt_of_lt_of_le (Heap.lt_size e) I.ok.above))).trans (I.base.keep b o e n hb hx)
  ·obtain ⟨sl,e1⟩:=I.base.slot b o e n hb hx
   exact ⟨sl,(hs.2 b (Nat.ne_of_lt (Nat.lt_of_lt_of_le (Heap.lt_size e) I.ok.above))).trans e1⟩
  ·obtain ⟨o',e1⟩:=I.base.there b o e hx
   exact ⟨o',(hs.2 b (Nat.ne_of_lt (Nat.lt_of_lt_of_le (Heap.lt_size e) I.ok.above))).trans e1⟩
  ·by_cases hj:j=i
   ·subst hj
    rw [hi] at e1;cases e1
    rw [List.getElem?_set_self hiσ] at e2
    cases e2
    exact ⟨u,r,.inl ⟨hk,by simp⟩⟩
   ·rw [List.getElem?_set_ne (Ne.symm hj)] at e2
    obtain ⟨u',r',q⟩:=hl j y v' e1 e2 e3
    refine ⟨u',r',?_⟩
    rcases q with ⟨k,e⟩ | ⟨k,c,e,z⟩
    ·refine .inl ⟨k,?_⟩
     have:y≠x:=fun e=>hj (nodup_ix hN e1 (e ▸ hi))
     simp [this,e]
    ·exact .inr ⟨k,c,e,z.sameBut hs (cne y c e)⟩
  ·obtain ⟨w',z⟩:=I.cell y c e
   exact ⟨w',z.sameBut hs (cne y c e)⟩
  ·obtain ⟨e,n,ne,nf,d⟩:=I.pin p hp
   exact ⟨(hs.2 p.1 ne).trans e,n,ne,nf,d⟩
 ·have hfn:X.fn x=true:=by
   rcases hf with z | z
   ·exact z
   ·rw [z] at hk;cases hk
  obtain ⟨c,hc⟩:=I.ok.has x (.inl hk)
  obtain ⟨w',z⟩:=I.cell x c hc
  refine wpAny_storeName_cell I.ok.kind hk hc z (fun h' hc' hs=>?_)
  obtain ⟨oc,hoc,hocd⟩:=id z
  refine h { s with heap:=h' } ⟨I.ok,I.os,I.bare,⟨fun b o e n hb hx=>?_,fun b o e n hb hx=>?_,I.base.free,fun b o e hx=>?_,I.base.tups,I.base.frzs,I.base.tbls⟩,⟨m,hn.sameBut hs (Ne.symm (cne x c hc)),fun j y v' e1 e2 e3=>?_⟩,fun y c' e=>?_,I.free,I.freeC,fun p hp=>?_,tracked ⟨oc,hoc,I.freeC x c hc⟩ hs,by simpa using I.len⟩ ⟨c,hs,.inr hc⟩
  ·exact (hs.2 b (Nat.ne_of_lt (Nat.lt_of_lt_of_le (Heap.lt_size e) (I.ok.cab x c hfn hc)))).trans (I.base.keep b o e n hb hx)
  ·obtain ⟨sl,e1⟩:=I.base.slot b o e n hb hx
   exact ⟨sl,(hs.2 b (Nat.ne_of_lt (Nat.lt_of_lt_of_le (Heap.lt_size e) (I.ok.cab x c hfn hc)))).trans e1⟩
  ·obtain ⟨o',e1⟩:=I.base.there b o e hx
   exact ⟨o',(hs.2 b (Nat.ne_of_lt (Nat.lt_of_lt_of_le (Heap.lt_size e) (I.ok.cab x c hfn hc)))).trans e1⟩
  ·by_cases hj:j=i
   ·subst hj
    rw [hi] at e1;cases e1
    rw [List.getElem?_set_self hiσ] at e2
    cases e2
    exact ⟨u,r,.inr ⟨.inl hk,c,hc,hc'⟩⟩
   ·rw [List.getElem?_set_ne (Ne.symm hj)] at e2
    obtain ⟨u',r',q⟩:=hl j y v' e1 e2 e3
    refine ⟨u',r',?_⟩
    rcases q with q | ⟨k,c',e,z'⟩
    ·exact .inl q
    ·refine .inr ⟨k,c',e,z'.sameBut hs ?_⟩
     rintro rfl
     exact hj (nodup_ix hN e1 (I.ok.inj _ _ _ e hc ▸ hi))
  ·by_cases hcc:c'=c
   ·subst hcc;exact ⟨_,hc'⟩
   ·obtain ⟨w2,z2⟩:=I.cell y c' e
    exact ⟨w2,z2.sameBut hs hcc⟩
  ·obtain ⟨e,n,ne,nf,d⟩:=I.pin p hp
   refine ⟨(hs.2 p.1 ?_).trans e,n,ne,nf,d⟩
   intro q
   rw [q,hoc] at e
   have q':oc=p.2:=Option.some.inj e
   exact d w' (by rw [← q'];exact hocd)
theorem store_ok {M:Model} {A:Around} {E:Value→Shared→Prop} {i:Nat} {x:Str} {v:V} {u:Value} {Q:Unit→Shared→Prop} (I:Inv X pins σ H s) (hN:X.N.Nodup) (hi:X.N[i]? = some x) (hx:Loc X.env.scope x) (r:RelV v u)
  (h : ∀ s',Inv X pins (σ.set i (some v)) H s'→Q () s') (hf:X.fn x=true∨X.env.scope.names.lookup x=some .local:=by first | exact .inl rfl | exact .inr rfl | assumption):wpAny M A (storeName X.env x u) Q E s:=
 store_ok2 I hN hi hx r (fun s' I' _=>h s' I') hf
theorem Inv.call' {s':Shared} {ch:List Addr} (I:Inv X pins σ H s) (ho:s'.os=s.os) (u:Un (frs X.stack) ch H H' s.heap s'.heap) (hok:HOk X.prog X.w H' s'.heap) (hg:AllBare s'.gens)
  (hch : ∀ b ∈ ch,(b ∈ X.ex∨X.s₀.heap.objs.size≤b)∧b≠X.env.locals∧(∀ x c,X.env.cells.lookup x=some c→c≠b) ∧ ∀ p ∈ X.pn++pins,p.1≠b):Inv X pins σ H' s':=by
 obtain ⟨h',g',d',t',o'⟩:=s'
 have e:o'=s.os:=ho
 subst e
 exact I.call (g':=g') (t':=t') (d':=d') u hok hg hch
end
abbrev XK:=Value→Option Addr→Hp→Prop
abbrev St:=List (Option V)
abbrev VK:=V→Hp→Prop
abbrev TE:=St→Hp→VK→Prop
abbrev TT:=St→Hp→(Bool→Hp→Prop)→Prop
abbrev TA:=St→Hp→(List V→Hp→Prop)→Prop
structure Ends where
 nx:St→Hp→Prop
 rt:VK
 bk:St→Hp→Prop:=fun _ _=>False
 ct:St→Hp→Prop:=fun _ _=>False
abbrev TS:=Ends→St→Hp→Prop
def EP (X:Cx) (pins:List (Addr × Obj)) (σ:St) (Q:VK) (u:Value) (s':Shared):Prop:=∃ v H',Inv X pins σ H' s'∧RelV v u∧Q v H'
def TP (X:Cx) (pins:List (Addr × Obj)) (σ:St) (Q:Bool→Hp→Prop) (b:Bool) (s':Shared):Prop:=∃ H',Inv X pins σ H' s'∧Q b H'
def AP (X:Cx) (pins:List (Addr × Obj)) (σ:St) (Q:List V→Hp→Prop) (us:List Value) (s':Shared):Prop:=∃ vs H',Inv X pins σ H' s'∧Vals vs us∧Q vs H'
def SP (X:Cx) (pins:List (Addr × Obj)) (D:Ends) (f:Flow) (s':Shared):Prop:=
 match f with
 | .next=>∃ σ' H',Inv X pins σ' H' s'∧D.nx σ' H'
 | .brk=>∃ σ' H',Inv X pins σ' H' s'∧D.bk σ' H'
 | .cont=>∃ σ' H',Inv X pins σ' H' s'∧D.ct σ' H'
 | .ret u=>∃ v σ' H',Inv X pins σ' H' s'∧RelV v u∧D.rt v H'
def PE (X:Cx) (e:Expr) (t:TE):Prop:=
 ∀ (pins:List (Addr × Obj)) (s:Shared) (σ:St) (H:Hp) (Q:VK),Inv X pins σ H s→t σ H Q→wpAny (model X.prog X.w) X.A (eval e X.env) (EP X pins σ Q) X.xe s
def PT (X:Cx) (e:Expr) (t:TT):Prop:=
 ∀ (pins:List (Addr × Obj)) (s:Shared) (σ:St) (H:Hp) (Q:Bool→Hp→Prop),Inv X pins σ H s→t σ H Q→wpAny (model X.prog X.w) X.A (isTrue e X.env (eval e X.env)) (TP X pins σ Q) X.xe s
def PW (X:Cx) (e:Expr) (t:TT):Prop:=
 ∀ (whole:Sem Value) (pins:List (Addr × Obj)) (s:Shared) (σ:St) (H:Hp) (Q:Bool→Hp→Prop),Inv X pins σ H s→t σ H Q→wpAny (model X.prog X.w) X.A (isTrue e X.env whole) (TP X pins σ Q) X.xe s
theorem PW.pt {X:Cx} {e:Expr} {t:TT} (h:PW X e t):PT X e t:=h _
def PA (X:Cx) (es:List Expr) (t:TA):Prop:=
 ∀ (pos:Pos) (pins:List (Addr × Obj)) (s:Shared) (σ:St) (H:Hp) (Q:List V→Hp→Prop),Inv X pins σ H s→t σ H Q→wpAny (model X.prog X.w) X.A (spliced (backTo pos (starEach es X.env))) (AP X pins σ Q) X.xe s
def PS (X:Cx) (st:Stmt) (t:TS):Prop:=
 ∀ (pins:List (Addr × Obj)) (s:Shared) (σ:St) (H:Hp) (D:Ends),Inv X pins σ H s→t D σ H→wpAny (model X.prog X.w) X.A (exec st X.env) (SP X pins D) X.xe s
def PSs (X:Cx) (st:List Stmt) (t:TS):Prop:=
 ∀ (pins:List (Addr × Obj)) (s:Shared) (σ:St) (H:Hp) (D:Ends),Inv X pins σ H s→t D σ H→wpAny (model X.prog X.w) X.A (execs st X.env) (SP X pins D) X.xe s
theorem thn {α:Type} {t:Sem α} {Q Q':α→Shared→Prop} {M:Model} {A:Around} {E:Value→Shared→Prop} {s:Shared} (h:wpAny M A t Q E s) (hQ : ∀ a s,Q a s→Q' a s):wpAny M A t Q' E s:=wpAny_mono h hQ fun _ _ x=>x
section
variable {X : Cx}
theorem bin {a b:Expr} {ta tb:TE} (ha:PE X a ta) (hb:PE X b tb) {pins:List (Addr × Obj)} {s:Shared} {σ:St} {H:Hp} {R:V→V→Hp→Prop} (I:Inv X pins σ H s) (h:ta σ H fun x H1=>tb σ H1 fun y H2=>R x y H2)
  {α:Type} {Q:α→Shared→Prop} {f:Value→Value→Sem α}
  (hf : ∀ v u s2 x y H2,Inv X pins σ H2 s2→RelV x v→RelV y u→R x y H2→wpAny (model X.prog X.w) X.A (f v u) Q X.xe s2) :
  wpAny (model X.prog X.w) X.A (eval a X.env) (fun v s₁=>wpAny (model X.prog X.w) X.A (eval b X.env) (fun u s₂=>wpAny (model X.prog X.w) X.A (f v u) Q X.xe s₂) X.xe s₁) X.xe s:=by
 refine thn (ha pins s σ H _ I h) fun v s1 ⟨x,H1,I1,r1,q1⟩=>?_
 refine thn (hb pins s1 σ H1 _ I1 q1) fun u s2 ⟨y,H2,I2,r2,q2⟩=>?_
 exact hf v u s2 x y H2 I2 r1 r2 q2
def tVar (i:Nat):TE:=fun σ H Q=>∃ v,σ[i]? = some (some v)∧Q v H
def tC (v:V):TE:=fun _ H Q=>Q v H
theorem pe_var {i:Nat} {x:Str} {pos:Pos} (hN:X.N[i]? = some x) (hv:Vis X.env.scope x) (hd:(x == ("__debug__" : Str))=false:=by decide) (hcd:(x == ("__classdict__" : Str))=false:=by decide):PE X (.Name x pos) (tVar i):=by
 intro pins s σ H Q I h
 obtain ⟨v,e,h⟩:=h
 obtain ⟨m,hn,hl⟩:=I.loc
 obtain ⟨u,r,l⟩:=hl i x v hN e hv
 have fin:EP X pins σ Q u s:=⟨v,H,I,r,h⟩
 rcases l with ⟨hk,hm⟩ | ⟨hk,c,hc,hcell⟩
 ·exact wpAny_Name (wpAny_loadName_local I.ok.kind hk hn hm fin) hd
 ·rcases hk with hk | hk
  ·exact wpAny_Name (wpAny_loadName_cell I.ok.kind hk hc hcell fin) hd
  ·exact wpAny_Name (wpAny_loadName_free I.ok.kind hk hc hcell fin hcd) hd
theorem pe_int {i j pos}:PE X (.Constant (.int i) j pos) (tC (.int i)):=fun _ _ _ H _ I h=>wpAny_Constant_int ⟨.int i,H,I.tok _,⟨_,rfl⟩,h⟩
theorem pe_bl {b j pos}:PE X (.Constant (.bool b) j pos) (tC (.bl b)):=fun _ _ _ H _ I h=>Constant_bool ⟨.bl b,H,I,rfl,h⟩
theorem pe_non {j pos}:PE X (.Constant .none j pos) (tC .non):=fun _ _ _ H _ I h=>Constant_none ⟨.non,H,I,rfl,h⟩
theorem pe_str {x j pos}:PE X (.Constant (.str x) j pos) (tC (.str x)):=fun _ _ _ H _ I h=>Calls.Constant_str ⟨.str x,H,I.tok _,⟨_,rfl⟩,h⟩
def Gl (X:Cx) (x:Str):Prop:=X.env.kindOf x=some .globalImplicit
theorem ld_glob {E:Value→Shared→Prop} {pins:List (Addr × Obj)} {s:Shared} {σ:St} {H:Hp} {x:Str} {u:Value} {pos:Pos} {Q:Value→Shared→Prop} (I:Inv X pins σ H s) (hg:Gl X x) (hm:X.mg x=some u) (h:Q u s)
  (hd:(x == ("__debug__" : Str))=false:=by decide):wpAny (model X.prog X.w) X.A (eval (.Name x pos) X.env) Q E s:=
 Calls.Name_function_global I.ok.kind hg (Calls.loadGlobal_global (by rw [I.ok.glob];exact I.mod.glob.keeps I.bk) hm h) hd
theorem ld_blt {E:Value→Shared→Prop} {pins:List (Addr × Obj)} {s:Shared} {σ:St} {H:Hp} {x:Str} {u:Value} {pos:Pos} {Q:Value→Shared→Prop} (I:Inv X pins σ H s) (hg:Gl X x) (hm:X.mg x=none) (hv:bootBuiltins x=some u) (h:Q u s)
  (hn:x ≠ "__name__" := by decide) (hd:(x == ("__debug__" : Str))=false:=by decide):wpAny (model X.prog X.w) X.A (eval (.Name x pos) X.env) Q E s:=by
 obtain ⟨mb,h1,h2⟩:=I.mod.blt
 exact Calls.Name_function_global I.ok.kind hg (Calls.loadGlobal_builtin (by rw [I.ok.glob];exact I.mod.glob.keeps I.bk) hm (by rw [I.ok.blt];exact h1.keeps I.bk) ((h2 x hn).trans hv) h) hd
theorem pe_glob {x:Str} {v:V} {u:Value} {pos:Pos} (hg:Gl X x) (hm:X.mg x=some u) (r:RelV v u) (hd:(x == ("__debug__" : Str))=false:=by decide):PE X (.Name x pos) (tC v):=
 fun _ _ _ H _ I h=>ld_glob I hg hm ⟨v,H,I,r,h⟩ hd
theorem pe_bltn {x:Str} {v:V} {u:Value} {pos:Pos} (hg:Gl X x) (hm:X.mg x=none) (hv:bootBuiltins x=some u) (r:RelV v u) (hn:x ≠ "__name__" := by decide) (hd:(x == ("__debug__" : Str))=false:=by decide):PE X (.Name x pos) (tC v):=
 fun _ _ _ H _ I h=>ld_blt I hg hm hv ⟨v,H,I,r,h⟩ hn hd
variable {a b : Expr} {ta tb : TE} {pos : Pos}
def PC (X:Cx) (op:CmpOp) (a b:Expr) (t:TE):Prop:=
 ∀ (pins:List (Addr × Obj)) (s:Shared) (σ:St) (H:Hp) (Q:VK),Inv X pins σ H s→t σ H Q →
  wpAny (model X.prog X.w) X.A (eval a X.env) (fun v s₁=>wpAny (model X.prog X.w) X.A (eval b X.env) (fun u s₂=>wpAny (model X.prog X.w) X.A (compareOp op v u) (EP X pins σ Q) X.xe s₂) X.xe s₁) X.xe s
theorem nobehind (b:Expr) {op:CmpOp} (h:op ≠ .In) (h2:op ≠ .NotIn):behindInMarks op b=false:=by
 have e1:(op == CmpOp.In)=false:=by cases op <;> first | rfl | exact absurd rfl h
 have e2:(op == CmpOp.NotIn)=false:=by cases op <;> first | rfl | exact absurd rfl h2
 cases b <;> simp [behindInMarks,e1,e2]
def tB (t:TE):TT:=fun σ H Q=>t σ H fun x H1=>∃ c,x = .bl c∧Q c H1
theorem pt_cmp {op:CmpOp} {t:TE} (h:PC X op a b t) (h1:behindInMarks op b=false:=by first | exact nobehind _ (by decide) (by decide) | rfl):PT X (.Compare a [op] [b] pos) (tB t):=by
 intro pins s σ H Q I hw
 refine wpAny_isTrue_Compare1 (thn (h pins s σ H _ I hw) fun v s1 h1=>thn h1 fun u s2 h2=>thn h2 fun c s3 ⟨x,H1,I1,r1,q1⟩=>?_) h1
 obtain ⟨d,rfl,q⟩:=q1
 cases r1
 exact wpAny_truthy_bool ⟨H1,I1,q⟩
theorem pt_val {e:Expr} {t:TE} (h:PE X e t) (he : ∀ whole,isTrue e X.env whole=(do let v ← whole;standAt e.pos;holding [v] (truthy v)):=by intro _;rfl):PT X e (tB t):=by
 intro pins s σ H Q I hw
 refine isTrue_plain (thn (h pins s σ H _ I hw) fun v s1 ⟨x,H1,I1,r1,q1⟩=>?_) (he _)
 obtain ⟨d,rfl,q⟩:=q1
 cases r1
 exact wpAny_truthy_bool ⟨H1,I1,q⟩
variable {tA tB' : TT} {rest : List Expr}
def tAnd (t u:TT):TT:=fun σ H Q=>t σ H fun c H1=>if c=true then u σ H1 Q else Q false H1
def tOr (t u:TT):TT:=fun σ H Q=>t σ H fun c H1=>if c=true then Q true H1 else u σ H1 Q
def tNot (t:TT):TT:=fun σ H Q=>t σ H fun c H1=>Q (!c) H1
theorem pw_and1 (ha:PT X a tA):PW X (.BoolOp .And [a] pos) tA:=by
 intro wh pins s σ H Q I h
 refine isTrue_and (thn (ha pins s σ H Q I h) fun c s1 e=>?_)
 cases c with
 | true=>exact isTrue_and_nil e
 | false=>exact e
theorem pw_or1 (ha:PT X a tA):PW X (.BoolOp .Or [a] pos) tA:=by
 intro wh pins s σ H Q I h
 refine isTrue_or (thn (ha pins s σ H Q I h) fun c s1 e=>?_)
 cases c with
 | false=>exact isTrue_or_nil e
 | true=>exact e
theorem pw_and (ha:PT X a tA) (hb:PW X (.BoolOp .And (b::rest) pos) tB'):PW X (.BoolOp .And (a::b::rest) pos) (tAnd tA tB'):=by
 intro wh pins s σ H Q I h
 refine isTrue_and (thn (ha pins s σ H _ I h) fun c s1 ⟨H1,I1,q1⟩=>?_)
 cases c with
 | true=>exact hb wh pins s1 σ H1 Q I1 q1
 | false=>exact ⟨H1,I1,q1⟩
theorem pw_or (ha:PT X a tA) (hb:PW X (.BoolOp .Or (b::rest) pos) tB'):PW X (.BoolOp .Or (a::b::rest) pos) (tOr tA tB'):=by
 intro wh pins s σ H Q I h
 refine isTrue_or (thn (ha pins s σ H _ I h) fun c s1 ⟨H1,I1,q1⟩=>?_)
 cases c with
 | true=>exact ⟨H1,I1,q1⟩
 | false=>exact hb wh pins s1 σ H1 Q I1 q1
theorem pt_not (ha:PT X a tA):PT X (.UnaryOp .Not a pos) (tNot tA):=by
 intro pins s σ H Q I h
 exact isTrue_not (ha pins s σ H (fun c H1=>Q (!c) H1) I h)
def tAndV (ta tb:TE):TE:=fun σ H Q=>ta σ H fun x H1=>∃ c,x = .bl c∧if c=true then tb σ H1 Q else Q (.bl false) H1
def tOrV (ta tb:TE):TE:=fun σ H Q=>ta σ H fun x H1=>∃ c,x = .bl c∧if c=true then Q (.bl true) H1 else tb σ H1 Q
def tNotV (ta:TE):TE:=fun σ H Q=>ta σ H fun x H1=>∃ c,x = .bl c∧Q (.bl (!c)) H1
theorem pe_one {op} {t:TE} (h:PE X a t):PE X (.BoolOp op [a] pos) t:=fun pins s σ H Q I hw=>BoolOp_one (h pins s σ H Q I hw)
theorem pe_and (ha:PE X a ta) (hb:PE X (.BoolOp .And (b::rest) pos) tb):PE X (.BoolOp .And (a::b::rest) pos) (tAndV ta tb):=by
 intro pins s σ H Q I h
 refine BoolOp_and (thn (ha pins s σ H _ I h) fun v s1 ⟨x,H1,I1,r1,q1⟩=>?_)
 obtain ⟨c,rfl,q1⟩:=q1
 cases r1
 refine wpAny_truthy_bool ?_
 cases c with
 | true=>exact hb pins s1 σ H1 Q I1 q1
 | false=>exact ⟨.bl false,H1,I1,rfl,q1⟩
theorem pe_or (ha:PE X a ta) (hb:PE X (.BoolOp .Or (b::rest) pos) tb):PE X (.BoolOp .Or (a::b::rest) pos) (tOrV ta tb):=by
 intro pins s σ H Q I h
 refine BoolOp_or (thn (ha pins s σ H _ I h) fun v s1 ⟨x,H1,I1,r1,q1⟩=>?_)
 obtain ⟨c,rfl,q1⟩:=q1
 cases r1
 refine wpAny_truthy_bool ?_
 cases c with
 | false=>exact hb pins s1 σ H1 Q I1 q1
 | true=>exact ⟨.bl true,H1,I1,rfl,q1⟩
theorem pe_not (ha:PE X a ta):PE X (.UnaryOp .Not a pos) (tNotV ta):=by
 intro pins s σ H Q I h
 refine UnaryOp_ (thn (ha pins s σ H _ I h) fun v s1 ⟨x,H1,I1,r1,q1⟩=>?_)
 obtain ⟨c,rfl,q1⟩:=q1
 cases r1
 exact not_of (wpAny_truthy_bool ⟨.bl (!c),H1,I1,rfl,q1⟩)
end
def SqL (K:W.Frag) (H:Hp) (a:Addr) (xs:List V):Prop:=
 Rd H a (.lst xs) ∨
  ∃ (o:Obj) (its:Array Value) (n:Nat),K.lookup a=some o∧o.cls = .type "list" ∧ o.dict=none∧o.data = .seq its n∧its.size≤sizeLine∧Vals xs its.toList
def SqT (K:W.Frag) (H:Hp) (a:Addr) (xs:List V):Prop:=
 Rd H a (.tup xs) ∨
  ∃ (o:Obj) (its:Array Value) (n:Nat),K.lookup a=some o∧o.cls = .type "tuple" ∧ o.data = .seq its n∧its.size≤sizeLine∧Vals xs its.toList
def absV:Value→Option V
 | .none=>some .non
 | .bool b=>some (.bl b)
 | .int i _=>some (.int i)
 | .str x _=>some (.str x)
 | .bytes b _=>some (.byt b)
 | .float b _=>some (.flt b)
 | .ref a=>some (.ref a)
 | .type n=>some (.ty n)
 | _=>none
theorem RelV.abs {x:V} {u:Value} (r:RelV x u):absV u=some x:=by
 cases x with
 | non=>cases r;rfl
 | bl _=>cases r;rfl
 | int _=>obtain ⟨t,rfl⟩:=r;rfl
 | str _=>obtain ⟨t,rfl⟩:=r;rfl
 | byt _=>obtain ⟨t,rfl⟩:=r;rfl
 | flt _=>obtain ⟨t,rfl⟩:=r;rfl
 | ref _=>cases r;rfl
 | ty _=>cases r;rfl
theorem RelV.inj {x y:V} {u:Value} (r:RelV x u) (q:RelV y u):x=y:=Option.some.inj (r.abs.symm.trans q.abs)
theorem Vals.inj : ∀ {xs ys:List V} {us:List Value},Vals xs us→Vals ys us→xs=ys
 | _,_,_,.nil,.nil=>rfl
 | _,_,_,.cons r t,.cons r' t'=>by rw [r.inj r',Vals.inj t t']
section
variable {X : Cx} {pins : List (Addr × Obj)} {σ : St} {H : Hp} {s : Shared} {a : Addr} {xs ys : List V}
theorem SqL.of {K:W.Frag} (h:H a=some (.lst xs)):SqL K H a xs:=.inl (.inl h)
theorem SqT.of {K:W.Frag} (h:H a=some (.tup xs)):SqT K H a xs:=.inl (.inl h)
theorem Inv.list (I:Inv X pins σ H s) (h:SqL X.K H a xs) : ∃ its:List Value,Vals xs its∧PlainL s.heap a its.toArray∧xs.length≤sizeLine:=by
 rcases h with h | ⟨o,its,n,hk,hc,hd,hs,hz,r⟩
 ·obtain ⟨z,its,n,r,e⟩:=h.ok I.hok
  exact ⟨its,r,⟨_,n,e,rfl,rfl,rfl⟩,z⟩
 ·refine ⟨its.toList,r,⟨o,n,I.kIn a o hk,hc,hd,by simpa using hs⟩,?_⟩
  have e:=r.length
  simp only [Array.length_toList] at e
  omega
theorem Inv.tuple (I:Inv X pins σ H s) (h:SqT X.K H a xs) : ∃ its:List Value,Vals xs its∧IsTup s.heap a its.toArray∧xs.length≤sizeLine:=by
 rcases h with h | ⟨o,its,n,hk,hc,hs,hz,r⟩
 ·obtain ⟨z,its,r,p⟩:=h.ok I.hok
  exact ⟨its,r,p,z⟩
 ·refine ⟨its.toList,r,⟨o,I.kIn a o hk,hc,n,by simpa using hs⟩,?_⟩
  have e:=r.length
  simp only [Array.length_toList] at e
  omega
theorem Inv.list_inj (I:Inv X pins σ H s) (h:SqL X.K H a xs) (h':SqL X.K H a ys):xs=ys:=by
 obtain ⟨its,r,⟨o,n,e,_,_,d⟩,_⟩:=I.list h
 obtain ⟨its',r',⟨o',n',e',_,_,d'⟩,_⟩:=I.list h'
 rw [e] at e';cases e'
 rw [d] at d'
 injection d' with d1 _
 have:its=its':=by simpa using congrArg Array.toList d1
 subst this
 exact r.inj r'
theorem Inv.tuple_inj (I:Inv X pins σ H s) (h:SqT X.K H a xs) (h':SqT X.K H a ys):xs=ys:=by
 obtain ⟨its,r,⟨o,e,_,n,d⟩,_⟩:=I.tuple h
 obtain ⟨its',r',⟨o',e',_,n',d'⟩,_⟩:=I.tuple h'
 rw [e] at e';cases e'
 rw [d] at d'
 injection d' with d1 _
 have:its=its':=by simpa using congrArg Array.toList d1
 subst this
 exact r.inj r'
end
abbrev Cx.wish (X:Cx) (E:Value→Shared→Prop):Cx:={ X with xe:=E }
abbrev Cx.nox (X:Cx):Cx:=X.wish fun _ _=>False
theorem Cx.Ok.wish {X:Cx} (ok:X.Ok) (E:Value→Shared→Prop):(X.wish E).Ok:=
 ⟨ok.mod,ok.kind,ok.glob,ok.blt,ok.above,ok.inj,ok.has,ok.cab,ok.hd,ok.frames,ok.stk,ok.exf,ok.bs,ok.bsz,ok.noex,ok.exfs,ok.funs,ok.frf⟩
theorem Cx.Ok.unwish {X:Cx} {E:Value→Shared→Prop} (ok:(X.wish E).Ok):X.Ok:=
 ⟨ok.mod,ok.kind,ok.glob,ok.blt,ok.above,ok.inj,ok.has,ok.cab,ok.hd,ok.frames,ok.stk,ok.exf,ok.bs,ok.bsz,ok.noex,ok.exfs,ok.funs,ok.frf⟩
section
variable {X : Cx} {pins : List (Addr × Obj)} {σ : St} {H : Hp} {s : Shared} {E : Value → Shared → Prop}
theorem Inv.wish (I:Inv X pins σ H s) (E:Value→Shared→Prop):Inv (X.wish E) pins σ H s:=⟨I.ok.wish E,I.os,I.bare,I.base,I.loc,I.cell,I.free,I.freeC,I.pin,I.hok,I.len⟩
theorem Inv.unwish (I:Inv (X.wish E) pins σ H s):Inv X pins σ H s:=⟨I.ok.unwish,I.os,I.bare,I.base,I.loc,I.cell,I.free,I.freeC,I.pin,I.hok,I.len⟩
theorem SP.unwish {D:Ends} {f:Flow} {s':Shared} (h:SP (X.wish E) pins D f s'):SP X pins D f s':=by
 cases f with
 | next=>obtain ⟨σ',H',I,q⟩:=h;exact ⟨σ',H',I.unwish,q⟩
 | brk=>obtain ⟨σ',H',I,q⟩:=h;exact ⟨σ',H',I.unwish,q⟩
 | cont=>obtain ⟨σ',H',I,q⟩:=h;exact ⟨σ',H',I.unwish,q⟩
 | ret u=>obtain ⟨v,σ',H',I,r,q⟩:=h;exact ⟨v,σ',H',I.unwish,r,q⟩
theorem PE.nox {e:Expr} {t:TE} (h:PE X.nox e t):PE X e t:=fun pins s σ H Q I hw =>
 wpAny_mono (h pins s σ H Q (I.wish _) hw) (fun _ _ ⟨v,H',I',r,q⟩=>⟨v,H',I'.unwish,r,q⟩) fun _ _ z=>False.elim z
theorem PT.nox {e:Expr} {t:TT} (h:PT X.nox e t):PT X e t:=fun pins s σ H Q I hw =>
 wpAny_mono (h pins s σ H Q (I.wish _) hw) (fun _ _ ⟨H',I',q⟩=>⟨H',I'.unwish,q⟩) fun _ _ z=>False.elim z
theorem PSs.nox {st:List Stmt} {t:TS} (h:PSs X.nox st t):PSs X st t:=fun pins s σ H D I hw =>
 wpAny_mono (h pins s σ H D (I.wish _) hw) (fun _ _ q=>q.unwish) fun _ _ z=>False.elim z
end
section
variable {X : Cx} {st : Stmt} {rest : List Stmt} {t u : TS} {e : Expr} {te : TE} {pos : Pos}
def tNext:TS:=fun D σ H=>D.nx σ H
def tSeq (t u:TS):TS:=fun D σ H=>t { D with nx:=u D } σ H
theorem pss_nil:PSs X [] tNext:=fun _ _ σ H _ I h=>wpAny_execs_nil ⟨σ,H,I,h⟩
theorem pss_cons (h1 : PS X st t) (h2 : PSs X rest u) : PSs X (st :: rest) (tSeq t u) := by
  intro pins s σ H D I h
  refine wpAny_execs_cons (thn (h1 pins s σ H { D with nx := u D } I h) fun f s1 q => ?_)
  cases f with
  | next =>
    obtain ⟨σ', H', I', q⟩ := q
    exact h2 pins s1 σ' H' D I' q
  | ret v => exact q
  | brk => exact q
  | cont => exact q
theorem pss_one (h1:PS X st t):PSs X [st] t:=by
 intro pins s σ H D I h
 refine wpAny_execs_cons (thn (h1 pins s σ H D I h) fun f s1 q=>?_)
 cases f with
 | next=>exact wpAny_execs_nil q
 | ret v=>exact q
 | brk=>exact q
 | cont=>exact q
theorem Inv.quiet {pins:List (Addr × Obj)} {σ:St} {H:Hp} {s:Shared} (I:Inv X pins σ H s):interactive X.env=false:=by simp [interactive,I.ok.kind]
def tDrop (te:TE):TS:=fun D σ H=>te σ H fun _ H1=>D.nx σ H1
theorem ps_expr (he:PE X e te) (hs:swapsWith e none pos.line X.env=pure false:=by rfl):PS X (.Expr e pos) (tDrop te):=by
 intro pins s σ H D I h
 exact wpAny_Expr_any (thn (he pins s σ H _ I h) fun v s1 ⟨x,H1,I1,r1,q1⟩=>⟨σ,H1,I1,q1⟩) I.quiet hs
def tRet (te:TE):TS:=fun D σ H=>te σ H D.rt
theorem ps_ret (he:PE X e te):PS X (.Return (some e) pos) (tRet te):=by
 intro pins s σ H D I h
 exact wpAny_Return_some (thn (he pins s σ H _ I h) fun v s1 ⟨x,H1,I1,r1,q1⟩=>⟨x,σ,H1,I1,r1,q1⟩)
def tIfS (c:TT) (t u:TS):TS:=fun D σ H=>c σ H fun b H1=>if b=true then t D σ H1 else u D σ H1
theorem ps_if {c:Expr} {a b:List Stmt} {tc:TT} (hc:PT X c tc) (ha:PSs X a t) (hb:PSs X b u):PS X (.If c a b pos) (tIfS tc t u):=by
 intro pins s σ H D I h
 refine wpAny_If (thn (hc pins s σ H _ I h) fun d s1 ⟨H1,I1,q1⟩=>?_)
 cases d with
 | true=>exact ha pins s1 σ H1 D I1 q1
 | false=>exact hb pins s1 σ H1 D I1 q1
end
abbrev TG:=V→St→Hp→(St→Hp→Prop)→Prop
abbrev TGs:=List V→St→Hp→(St→Hp→Prop)→Prop
def PG (X:Cx) (target:Expr) (t:TG):Prop:=
 ∀ (pins:List (Addr × Obj)) (s:Shared) (σ:St) (H:Hp) (v:V) (u:Value) (Q:St→Hp→Prop),Inv X pins σ H s→RelV v u→t v σ H Q →
  wpAny (model X.prog X.w) X.A (assign target X.env u) (fun _ s'=>∃ σ' H',Inv X pins σ' H' s'∧Q σ' H') X.xe s
def PGs (X:Cx) (ts:List Expr) (t:TGs):Prop:=
 ∀ (pins:List (Addr × Obj)) (s:Shared) (σ:St) (H:Hp) (vs:List V) (us:List Value) (Q:St→Hp→Prop),Inv X pins σ H s→Vals vs us→t vs σ H Q →
  wpAny (model X.prog X.w) X.A (assignInOrder ((assignEach ts X.env).map (·.2)) us) (fun _ s'=>∃ σ' H',Inv X pins σ' H' s'∧Q σ' H') X.xe s
section
variable {X : Cx} {pos : Pos}
def gName (i:Nat):TG:=fun v σ H Q=>Q (σ.set i (some v)) H
theorem pg_name {i:Nat} {x:Str} (hN:X.N.Nodup) (hi:X.N[i]? = some x) (hx:Loc X.env.scope x) (hf:X.fn x=true∨X.env.scope.names.lookup x=some .local:=by first | exact .inl rfl | exact .inr rfl | assumption):PG X (.Name x pos) (gName i):=by
 intro pins s σ H v u Q I r h
 exact wpAny_assign_Name (store_ok I hN hi hx r (fun s' I'=>⟨_,H,I',h⟩) hf)
def gNil:TGs:=fun vs σ H Q=>vs=[]∧Q σ H
def gCons (t:TG) (u:TGs):TGs:=fun vs σ H Q=>∃ v r,vs=v::r∧t v σ H fun σ' H'=>u r σ' H' Q
theorem pgs_nil:PGs X [] gNil:=by
 intro pins s σ H vs us Q I r h
 obtain ⟨e,h⟩:=h
 subst e
 cases r
 exact assignInOrder_nil ⟨σ,H,I,h⟩
theorem pgs_cons {e : Expr} {es : List Expr} {t : TG} {u : TGs} (h1 : PG X e t) (h2 : PGs X es u)
    (hs : (assignEach (e :: es) X.env).map (·.2) = assign e X.env :: (assignEach es X.env).map (·.2) := by rfl) : PGs X (e :: es) (gCons t u) := by
  intro pins s σ H vs us Q I r h
  obtain ⟨v, vr, e1, h⟩ := h
  subst e1
  cases r with
  | cons r rr =>
    rw [hs]
    refine assignInOrder_cons (thn (h1 pins s σ H _ _ _ I r h) fun _ s1 ⟨σ1, H1, I1, q1⟩ => ?_)
    exact h2 pins s1 σ1 H1 _ _ Q I1 rr q1
def gTup (K:W.Frag) (n:Nat) (t:TGs):TG:=fun v σ H Q=>∃ a xs,v = .ref a∧SqT K H a xs∧xs.length=n∧t xs σ H Q
theorem pg_tup {es:List Expr} {k:Nat} {t:TGs} {n:Nat} (hc:X.calm=true) (h:PGs X es t)
  (hn:(assignEach es X.env).length=n:=by rfl) (hst:(assignEach es X.env).findIdx? (·.1)=none:=by rfl):PG X (.Tuple es k pos) (gTup X.K n t):=by
 intro pins s σ H v u Q I r hw
 obtain ⟨a,xs,e1,hq,hl,hw⟩:=hw
 subst e1
 cases r
 obtain ⟨its,rv,ht,hz⟩:=I.tuple hq
 refine assign_Tuple_tuple (I.ok.hd hc) ht (by simp [hn,← hl,rv.length]) hst fun h' hx=>?_
 have I1:Inv X pins σ H { s with heap:=h' }:=I.kept (t':=s.toks) fun b o e=>hx b o (Nat.ne_of_lt (Heap.lt_size e)) e
 exact h pins _ σ H xs _ Q I1 (by simpa using rv) hw
def tAsg (te:TE) (g:TG):TS:=fun D σ H=>te σ H fun x H1=>g x σ H1 D.nx
theorem ps_asg {tg e:Expr} {te:TE} {g:TG} (he:PE X e te) (hg:PG X tg g) (hs:swapsWithSole [tg] e pos.line X.env=pure false:=by rfl) (hw:swappedStores [tg] e X.env=pure none:=by rfl)
  (h1:(assignEach [tg] X.env).map (·.2)=[assign tg X.env]:=by rfl):PS X (.Assign [tg] e pos) (tAsg te g):=by
 intro pins s σ H D I h
 refine wpAny_Assign_stores (thn (he pins s σ H _ I h) fun v s1 ⟨x,H1,I1,r1,q1⟩=>?_) hs hw
 rw [h1]
 exact thn (hg pins s1 σ H1 x v _ I1 r1 q1) fun _ s2 q=>q
theorem ps_set {i:Nat} {x:Str} {e:Expr} {te:TE} {pos':Pos} (hN:X.N.Nodup) (hi:X.N[i]? = some x) (hx:Loc X.env.scope x) (he:PE X e te) (hs:swapsWith e (some (.Name x pos')) pos.line X.env=pure false:=by rfl) (hf:X.fn x=true∨X.env.scope.names.lookup x=some .local:=by first | exact .inl rfl | exact .inr rfl | assumption) :
  PS X (.Assign [.Name x pos'] e pos) (tAsg te (gName i)):=by
 intro pins s σ H D I h
 refine wpAny_Assign_Name (thn (he pins s σ H _ I h) fun v s1 ⟨y,H1,I1,r1,q1⟩=>?_) hs
 exact store_ok I1 hN hi hx r1 (fun s2 I2=>⟨_,H1,I2,q1⟩) hf
def tPar (i j:Nat) (ta:TA):TS:=fun D σ H=>ta σ H fun vs H1=>∃ v w,vs=[v,w]∧D.nx ((σ.set i (some v)).set j (some w)) H1
theorem ps_par {i j : Nat} {x y : Str} {a b : Expr} {ta : TA} {px py pt : Pos} {kt k2 pt2} (hc : X.calm = true) (hN : X.N.Nodup) (hi : X.N[i]? = some x) (hj : X.N[j]? = some y) (hij : i ≠ j)
    (hx : X.env.scope.names.lookup x = some .local) (hy : X.env.scope.names.lookup y = some .local) (ha : PA X [a, b] ta)
    (hw : swappedStores [.Tuple [.Name x px, .Name y py] kt pt] (.Tuple [a, b] k2 pt2) X.env = pure (some [x, y]))
    (hs : swapsWithSole [.Tuple [.Name x px, .Name y py] kt pt] (.Tuple [a, b] k2 pt2) pos.line X.env = pure false := by rfl) :
    PS X (.Assign [.Tuple [.Name x px, .Name y py] kt pt] (.Tuple [a, b] k2 pt2) pos) (tPar i j ta) := by
  intro pins s σ H D I h
  rw [exec_Assign_arm]
  refine wpAny_bind (wpAny_standAt ?_)
  rw [hs]
  refine wpAny_bind (wpAny_pure ?_)
  rw [if_neg (by decide)]
  refine wpAny_bind (Tuple_ (thn (ha _ pins s σ H _ I h) fun us s1 ⟨vs, H1, I1, r1, q1⟩ => ?_))
  obtain ⟨v, w, e1, q1⟩ := q1
  subst e1
  obtain ⟨u1, u2, rfl, rv, rw'⟩ : ∃ u1 u2, us = [u1, u2] ∧ RelV v u1 ∧ RelV w u2 := by
    cases r1 with
    | cons p q =>
      cases q with
      | cons p' q' =>
        cases q'
        exact ⟨_, _, rfl, p, p'⟩
  refine wpAny_newObj_type ?_ (by show 2 ≤ sizeLine; decide)
  have I2 : Inv X pins σ H1 { s1 with heap := s1.heap.push { cls := .type "tuple", data := .seq [u1, u2].toArray } } := I1.kept (t' := s1.toks) fun b o e => Heap.get?_push_of_some _ e
  rw [hw]
  refine wpAny_bind (wpAny_pure ?_)
  show wpAny (model X.prog X.w) X.A (do rule "assign.swapped-stores"; let items ← unpackItems (.ref s1.heap.objs.size) 2 none; assignInOrder [fun v => bindName X.env y v, fun v => bindName X.env x v] items.reverse; pure Flow.next) _ _ _
  refine wpAny_bind (wpAny_rule (wpAny_bind (unpackItems_tuple (items := #[u1, u2]) (I.ok.hd hc) (IsTup.new s1.heap _) fun h' hx' => ?_)))
  have I3 := I2.kept (h' := h') (t' := s1.toks) fun b o e => hx' b o (Nat.ne_of_lt (Heap.lt_size e)) e
  show wpAny _ _ (assignInOrder [fun v => bindName X.env y v, fun v => bindName X.env x v] [u2, u1] >>= fun _ => pure Flow.next) _ _ _
  refine wpAny_bind (assignInOrder_cons (wpAny_bindName (store_ok I3 hN hj (.inl hy) rw' (fun s2 I4 => ?_) (.inr hy))))
  refine assignInOrder_cons (wpAny_bindName (store_ok I4 hN hi (.inl hx) rv (fun s3 I5 => assignInOrder_nil (wpAny_pure ?_)) (.inr hx)))
  rw [List.set_comm _ _ (Ne.symm hij)] at I5
  exact ⟨_, H1, I5, q1⟩
end
section
variable {X : Cx} {pos : Pos}
def tWhile (c:TT) (tb:TS):TS:=fun D σ H=>∃ W:Nat→St→Hp→Prop,(∃ m,W m σ H) ∧ ∀ m σ H,W m σ H →
 c σ H fun b H1=>if b=true then ∃ N:St→Hp→Prop,(∀ σ' H',N σ' H' → ∃ m',m' < m∧W m' σ' H')∧tb { D with nx:=N,ct:=N,bk:=D.nx } σ H1 else D.nx σ H1
theorem ps_while {c : Expr} {body : List Stmt} {tc : TT} {tb : TS} (hp : PassesOwn (model X.prog X.w) X.A X.env X.xe) (hc : PT X c tc) (hb : PSs X body tb) : PS X (.While c body [] pos) (tWhile tc tb) := by
  intro pins s σ H D I h
  obtain ⟨W, ⟨m0, w0⟩, turn⟩ := h
  refine wpAny_While (codeAny_whileLoop (fun n s' => ∃ σ' H', Inv X pins σ' H' s' ∧ W n σ' H') ?_ m0 ⟨σ, H, I, w0⟩)
  rintro n s1 ⟨σ1, H1, I1, w1⟩
  refine wpAny_passesOwn hp (thn (hc pins s1 σ1 H1 _ I1 (turn n σ1 H1 w1)) fun b s2 ⟨H2, I2, q2⟩ => ?_)
  cases b with
  | true =>
    obtain ⟨N, hN, q2⟩ := q2
    rw [if_pos rfl]
    refine wpAny_passesOwn hp (thn (hb pins s2 σ1 H2 _ I2 q2) fun f s3 q3 => ?_)
    cases f with
    | next =>
      obtain ⟨σ3, H3, I3, n3⟩ := q3
      obtain ⟨m', hm, w3⟩ := hN σ3 H3 n3
      exact ⟨m', hm, σ3, H3, I3, w3⟩
    | cont =>
      obtain ⟨σ3, H3, I3, n3⟩ := q3
      obtain ⟨m', hm, w3⟩ := hN σ3 H3 n3
      exact ⟨m', hm, σ3, H3, I3, w3⟩
    | brk => exact q3
    | ret v => exact q3
  | false =>
    rw [if_neg Bool.false_ne_true]
    exact wpAny_execs_nil ⟨σ1, H2, I2, q2⟩
end
structure It where
 go:Nat→Hp→Prop
 yld:Nat→Hp→V→Hp→Prop
 stop:Nat→Hp→Prop
def FpOk (X:Cx) (pins:List (Addr × Obj)) (H:Hp) (b:Addr):Prop:=
 H b=none∧b≠X.env.locals∧b ∉ X.fs∧(b ∈ X.ex∨X.s₀.heap.objs.size≤b)∧(∀ x c,X.env.cells.lookup x=some c→c≠b) ∧ ∀ p ∈ X.pn++pins,p.1≠b
theorem Inv.fpOk {X:Cx} {pins:List (Addr × Obj)} {σ:St} {H H':Hp} {s:Shared} {b:Addr} (I:Inv X pins σ H s) (hb:s.heap.objs.size≤b) (hn:H' b=none):FpOk X pins H' b:=by
 refine ⟨hn,Nat.ne_of_gt (Nat.lt_of_lt_of_le I.lt hb),I.nofs hb,.inr (Nat.le_trans I.sz hb),fun x c e z=>?_,fun p hp z=>?_⟩
 ·obtain ⟨v,q⟩:=I.cell x c e
  exact absurd (Nat.lt_of_lt_of_le q.lt (by rw [z];exact hb)) (Nat.lt_irrefl _)
 ·exact absurd (Nat.lt_of_lt_of_le (Heap.lt_size (I.pin p hp).1) (by rw [z];exact hb)) (Nat.lt_irrefl _)
structure Turn (P:Program) (w:World) (K:W.Frag) (tg:Expr) (J:It) (fp:List Addr) (it:Addr) (tn:Nat→Heap→Prop):Prop where
 mem:it ∈ fp
 obj : ∀ i h,tn i h → ∀ b ∈ fp,∃ o,h.get? b=some o ∧ ∀ v,o.data ≠ .cell v
 keep : ∀ i h h',tn i h→(∀ b ∈ fp,∀ o,h.get? b=some o→h'.get? b=some o)→tn i h'
 item : ∀ (X:Cx),X.prog=P→X.w=w→X.K=K→X.calm=true → ∀ (i:Nat) (pins:List (Addr × Obj)) (s:Shared) (σ:St) (H:Hp) (E:Value→Shared→Prop),Inv X pins σ H s→(∀ b ∈ fp,FpOk X pins H b)→tn i s.heap→J.go i H →
  wpAny (model P w) X.A (pyNext (.ref it)) (fun r s1=>∃ u,r=some u ∧
   wpAny (model P w) X.A (letOwnedTupleGo tg (.ref it) u) (fun _ s2=>∃ x H',Inv X pins σ H' s2∧RelV x u∧J.yld i H x H'∧tn (i+1) s2.heap ∧ ∀ b ∈ fp,H' b=none) E s1) E s
 done : ∀ (X:Cx),X.prog=P→X.w=w→X.K=K→X.calm=true → ∀ (i:Nat) (pins:List (Addr × Obj)) (s:Shared) (σ:St) (H:Hp) (E:Value→Shared→Prop),Inv X pins σ H s→(∀ b ∈ fp,FpOk X pins H b)→tn i s.heap→J.stop i H →
  wpAny (model P w) X.A (pyNext (.ref it)) (fun r s1=>r=none∧Inv X pins σ H s1) E s
 self : ∀ (A:Around) (i:Nat) (s:Shared) (Q:Value→Shared→Prop) (E:Value→Shared→Prop),tn i s.heap→Q (.ref it) s→wpAny (model P w) A (pyIter (.ref it)) Q E s
abbrev TI:=St→Hp→(It→Hp→Prop)→Prop
def PIE (X:Cx) (pins:List (Addr × Obj)) (σ:St) (tg:Expr) (R:It→Hp→Prop) (itv:Value) (s2:Shared):Prop:=
 ∃ (it:Addr) (fp:List Addr) (tn:Nat→Heap→Prop) (J:It) (H':Hp),itv = .ref it∧Inv X pins σ H' s2∧Turn X.prog X.w X.K tg J fp it tn∧tn 0 s2.heap∧(∀ b ∈ fp,FpOk X pins H' b)∧R J H'
def PI (X:Cx) (tg iter:Expr) (wi:TI):Prop:=
 ∀ (pins:List (Addr × Obj)) (s:Shared) (σ:St) (H:Hp) (R:It→Hp→Prop),Inv X pins σ H s→wi σ H R →
  wpAny (model X.prog X.w) X.A (eval iter X.env) (fun v s1=>wpAny (model X.prog X.w) X.A (pyIter v) (PIE X pins σ tg R) X.xe s1) X.xe s
theorem go_of {M : Model} {A : Around} {E : Value → Shared → Prop} {s : Shared} {tg : Expr} {it : Addr} {u : Value} {o : Obj} {n : String} {vs : Array Value} {Q : Unit → Shared → Prop} (ho : s.heap.get? it = some o) (hc : o.cls = .type n) (hd : o.data = .fields vs)
    (hn : ["enumerate", "zip", "dict_itemiterator", "dict_reverseitemiterator", "odict_iterator", "itertools.zip_longest", "itertools.pairwise"].contains n = false) (hQ : Q () s) : wpAny M A (letOwnedTupleGo tg (.ref it) u) Q E s := by
  unfold letOwnedTupleGo
  cases tg <;> first
    | exact wpAny_pure hQ
    | (cases u <;> first
        | exact wpAny_pure hQ
        | (refine wpAny_bind (wpAny_load ho ?_)
           rw [hc, hd]
           show wpAny M A (if (["enumerate", "zip", "dict_itemiterator", "dict_reverseitemiterator", "odict_iterator", "itertools.zip_longest", "itertools.pairwise"].contains n && vs[0]? == some (rawInt _)) = true then _ else _) Q E s
           rw [if_neg (by intro h; rw [hn, Bool.false_and] at h; cases h)]
           exact wpAny_pure hQ))
def Itl (K:W.Frag) (a:Addr):It:=
 ⟨fun i H=>∃ xs x,SqL K H a xs∧xs[i]? = some x,fun i H x H'=>H'=H ∧ ∀ xs,SqL K H a xs→xs[i]? = some x,fun i H=>∃ xs,SqL K H a xs∧xs.length≤i⟩
def Itt (K:W.Frag) (a:Addr):It:=
 ⟨fun i H=>∃ xs x,SqT K H a xs∧xs[i]? = some x,fun i H x H'=>H'=H ∧ ∀ xs,SqT K H a xs→xs[i]? = some x,fun i H=>∃ xs,SqT K H a xs∧xs.length≤i⟩
def Itr (lo:Int) (n:Nat):It:=⟨fun i _=>i < n,fun i H x H'=>H'=H∧x = .int (lo+i),fun i _=>n≤i⟩
theorem turn_list {P:Program} {w:World} {K:W.Frag} {tg:Expr} (a it:Addr):Turn P w K tg (Itl K a) [it] it (fun i h=>h.IsListIter it a i) where
 mem:=by simp
 obj:=fun i h st b hb=>by
  have e:b=it:=by simpa using hb
  subst e
  obtain ⟨o,e,c,d⟩:=st
  exact ⟨o,e,fun v z=>by rw [d] at z;cases z⟩
 keep:=fun i h h' st k=>st.at fun o e=>k it (by simp) o e
 item:=by
  intro X hP hw hK hc i pins s σ H E I hf st hg
  subst hP hw hK
  obtain ⟨xs,x,hq,hx⟩:=hg
  obtain ⟨its,rv,p,hz⟩:=I.list hq
  obtain ⟨u,hu,ru⟩:=rv.get hx
  obtain ⟨f0,f1,f2,f3,f4,f5⟩:=hf it (by simp)
  refine wpAny_pyNext_list_item st p.isList (x:=u) (by simpa using hu) fun h' st' sb=>?_
  have I1:Inv X pins σ H { s with heap:=h' }:=I.turned (t':=s.toks) (fun b o hb e=>(sb.2 b hb).trans e) f0 f1 f3 f4 f5
  obtain ⟨o,e,c,d⟩:=id st'
  exact ⟨u,rfl,go_of (s:={ s with heap:=h' }) e c d (by decide) ⟨x,H,I1,ru,⟨rfl,fun ys hy=>by rw [I.list_inj hy hq];exact hx⟩,st',fun b hb=>(hf b hb).1⟩⟩
 done:=by
  intro X hP hw hK hc i pins s σ H E I hf st hg
  subst hP hw hK
  obtain ⟨xs,hq,hx⟩:=hg
  obtain ⟨its,rv,p,hz⟩:=I.list hq
  obtain ⟨f0,f1,f2,f3,f4,f5⟩:=hf it (by simp)
  have hl:=rv.length
  exact wpAny_pyNext_list_end (I.ok.hd hc) st p.isList (by simp;omega) fun h' eb=>⟨rfl,I.turned (t':=s.toks) (fun b o hb e=>eb b o hb e) f0 f1 f3 f4 f5⟩
 self:=fun _ _ _ _ _ st h=>wpAny_pyIter_listiter st h
theorem turn_tuple {P:Program} {w:World} {K:W.Frag} {tg:Expr} (a it:Addr):Turn P w K tg (Itt K a) [it] it (fun i h=>h.IsTupleIter it a i) where
 mem:=by simp
 obj:=fun i h st b hb=>by
  have e:b=it:=by simpa using hb
  subst e
  obtain ⟨o,e,c,d⟩:=st
  exact ⟨o,e,fun v z=>by rw [d] at z;cases z⟩
 keep:=fun i h h' st k=>st.at fun o e=>k it (by simp) o e
 item:=by
  intro X hP hw hK hc i pins s σ H E I hf st hg
  subst hP hw hK
  obtain ⟨xs,x,hq,hx⟩:=hg
  obtain ⟨its,rv,p,hz⟩:=I.tuple hq
  obtain ⟨u,hu,ru⟩:=rv.get hx
  obtain ⟨f0,f1,f2,f3,f4,f5⟩:=hf it (by simp)
  refine wpAny_pyNext_tuple_item st (show s.heap.IsTuple a its.toArray from p) (x:=u) (by simpa using hu) fun h' st' sb=>?_
  have I1:Inv X pins σ H { s with heap:=h' }:=I.turned (t':=s.toks) (fun b o hb e=>(sb.2 b hb).trans e) f0 f1 f3 f4 f5
  obtain ⟨o,e,c,d⟩:=id st'
  exact ⟨u,rfl,go_of (s:={ s with heap:=h' }) e c d (by decide) ⟨x,H,I1,ru,⟨rfl,fun ys hy=>by rw [I.tuple_inj hy hq];exact hx⟩,st',fun b hb=>(hf b hb).1⟩⟩
 done:=by
  intro X hP hw hK hc i pins s σ H E I hf st hg
  subst hP hw hK
  obtain ⟨xs,hq,hx⟩:=hg
  obtain ⟨its,rv,p,hz⟩:=I.tuple hq
  obtain ⟨f0,f1,f2,f3,f4,f5⟩:=hf it (by simp)
  have hl:=rv.length
  exact wpAny_pyNext_tuple_end (I.ok.hd hc) st (show s.heap.IsTuple a its.toArray from p) (by simp;omega) fun h' eb=>⟨rfl,I.turned (t':=s.toks) (fun b o hb e=>eb b o hb e) f0 f1 f3 f4 f5⟩
 self:=fun _ _ _ _ _ st h=>wpAny_pyIter_tupleiter st h
theorem turn_range {P:Program} {w:World} {K:PySem.W.Frag} {tg:Expr} (it:Addr) (lo:Int) (n:Nat):Turn P w K tg (Itr lo n) [it] it (fun i h=>IsRangeIter h it (lo+(i:Nat)*1) ((n:Int) - (i:Nat)) 1) where
 mem:=by simp
 obj:=fun i h st b hb=>by
  have e:b=it:=by simpa using hb
  subst e
  exact ⟨_,st,fun v z=>by
   have z':Data.fields _=Data.cell v:=z
   cases z'⟩
 keep:=fun i h h' st k=>k it (by simp) _ st
 item:=by
  intro X hP hw hK hc i pins s σ H E I hf st hg
  subst hP hw hK
  obtain ⟨f0,f1,f2,f3,f4,f5⟩:=hf it (by simp)
  have W:=Walks.range (prog:=X.prog) (w:=X.w) (I.ok.hd hc) it lo 1 n
  refine W.item i s _ _ hg st fun v h' tk hv st' kk=>?_
  obtain ⟨t,rfl⟩:=hv
  have I1:Inv X pins σ H { s with heap:=h',toks:=tk }:=I.turned (fun b o hb e=>kk b o (by simpa using hb) e) f0 f1 f3 f4 f5
  refine ⟨_,rfl,go_of (s:={ s with heap:=h',toks:=tk }) (n:="range_iterator") st' rfl rfl (by decide) ⟨.int (lo+i),H,I1,⟨t,?_⟩,⟨rfl,rfl⟩,st',fun b hb=>(hf b hb).1⟩⟩
  rw [Int.mul_one]
 done:=by
  intro X hP hw hK hc i pins s σ H E I hf st hg
  subst hP hw hK
  obtain ⟨f0,f1,f2,f3,f4,f5⟩:=hf it (by simp)
  exact wpAny_pyNext_range_end (I.ok.hd hc) st (by have:n≤i:=hg;omega) fun h' eb=>⟨rfl,I.turned (t':=s.toks) (fun b o hb e=>eb b o hb e) f0 f1 f3 f4 f5⟩
 self:=fun _ _ _ _ _ st h=>wpAny_pyIter_rangeiter st h
section
variable {X : Cx} {tg : Expr}
def iTup (K:W.Frag) (tl:TE):TI:=fun σ H R=>tl σ H fun x H1=>∃ a,x = .ref a∧(∃ xs,SqT K H1 a xs)∧R (Itt K a) H1
theorem pi_tup {l:Expr} {tl:TE} (hl:PE X l tl):PI X tg l (iTup X.K tl):=by
 intro pins s σ H R I h
 refine thn (hl pins s σ H _ I h) fun v s1 ⟨x,H1,I1,r1,q1⟩=>?_
 obtain ⟨a,e,⟨xs,hq⟩,q⟩:=q1
 subst e
 cases r1
 obtain ⟨its,rv,p,hz⟩:=I1.tuple hq
 refine wpAny_pyIter_tuple (show s1.heap.IsTuple a its.toArray from p) ?_
 refine ⟨s1.heap.objs.size,[s1.heap.objs.size],_,_,H1,rfl,I1.kept (t':=s1.toks) fun b o e=>Heap.get?_push_of_some _ e,turn_tuple a _,⟨_,Heap.get?_push_size _ rfl,rfl,rfl⟩,fun b hb=>?_,q⟩
 have e:b=s1.heap.objs.size:=by simpa using hb
 subst e
 exact I1.fpOk (Nat.le_refl _) (I1.hok.fresh (Nat.le_refl _))
theorem range_it {pins:List (Addr × Obj)} {σ:St} {H:Hp} {s:Shared} {R:It→Hp→Prop} {E:Value→Shared→Prop} {lo hi:Int} {t u v:Tok} {tk:Nat} (I:Inv X pins σ H s) (h1 : -(2 ^ 62)≤lo) (h2:lo < 2 ^ 62) (h3 : -(2 ^ 62)≤hi) (h4:hi < 2 ^ 62)
  (q:R (Itr lo (hi - lo).toNat) H):wpAny (model X.prog X.w) X.A (pyIter (.ref s.heap.objs.size)) (PIE X pins σ tg R) E { s with heap:=s.heap.push { cls:=.type "range", data:=.fields #[.int lo t,.int hi u,.int 1 v] },toks:=tk }:=by
 refine wpAny_pyIter_range (IsRange.new ..) (small_one h1 h2 h3 h4) ?_
 have I1:Inv X pins σ H { s with heap:=s.heap.push { cls:=.type "range", data:=.fields #[.int lo t,.int hi u,.int 1 v] },toks:=tk }:=I.kept fun b o e=>Heap.get?_push_of_some _ e
 refine ⟨(s.heap.push { cls:=.type "range", data:=.fields #[.int lo t,.int hi u,.int 1 v] }).objs.size,[(s.heap.push { cls:=.type "range", data:=.fields #[.int lo t,.int hi u,.int 1 v] }).objs.size],_,_,H,rfl,
  I1.kept (t':=tk) fun b o e=>Heap.get?_push_of_some _ e,turn_range _ lo (hi - lo).toNat,?_,fun b hb=>?_,q⟩
 ·have e1:lo+((0:Nat):Int)*1=lo:=by simp
  have e2:(((hi - lo).toNat:Nat):Int) - ((0:Nat):Int)=Builtin.Range.rangeSize lo hi 1:=by rw [rangeSize_one];split <;> omega
  show IsRangeIter _ _ (lo+((0:Nat):Int)*1) ((((hi - lo).toNat:Nat):Int) - ((0:Nat):Int)) 1
  rw [e1,e2]
  exact Heap.get?_push_size _ rfl
 ·have e:b=(s.heap.push { cls:=.type "range", data:=.fields #[.int lo t,.int hi u,.int 1 v] }).objs.size:=by simpa using hb
  subst e
  exact I1.fpOk (Nat.le_refl _) (I1.hok.fresh (Nat.le_refl _))
def iRng1 (ta:TA):TI:=fun σ H R=>ta σ H fun vs H1=>∃ j:Int,vs=[.int j] ∧ -(2 ^ 62)≤j∧j < 2 ^ 62∧R (Itr 0 j.toNat) H1
def iRng2 (ta:TA):TI:=fun σ H R=>ta σ H fun vs H1=>∃ i j:Int,vs=[.int i,.int j]∧(-(2 ^ 62)≤i∧i < 2 ^ 62 ∧ -(2 ^ 62)≤j∧j < 2 ^ 62)∧R (Itr i (j - i).toNat) H1
theorem pi_range1 {a : Expr} {ta : TA} {p pos : Pos} (hg : Gl X "range") (hm : X.mg "range" = none) (ha : PA X [a] ta) (hs : starEach [a] X.env = [(false, eval a X.env)] := by rfl) : PI X tg (.Call (.Name "range" p) [a] [] pos) (iRng1 ta) := by
  intro pins s σ H R I h
  refine Call_ (ld_blt I hg hm boot_range (PyProof.Rows.callWith_type1 (thn (ha pos pins s σ H _ I h) fun us s1 ⟨vs, H1, I1, r1, q1⟩ => ?_) hs rfl))
  obtain ⟨j, e, q1, q2, q⟩ := q1
  subst e
  cases r1 with
  | cons r rr =>
    cases rr
    obtain ⟨t, rfl⟩ := r
    exact call_range_1 (range_it I1 (by omega) (by omega) q1 q2 (by simpa using q))
theorem pi_range2 {a b : Expr} {ta : TA} {p pos : Pos} (hg : Gl X "range") (hm : X.mg "range" = none) (ha : PA X [a, b] ta) (hs : starEach [a, b] X.env = [(false, eval a X.env), (false, eval b X.env)] := by rfl) (hs2 : starEach [b] X.env = [(false, eval b X.env)] := by rfl) :
    PI X tg (.Call (.Name "range" p) [a, b] [] pos) (iRng2 ta) := by
  intro pins s σ H R I h
  refine Call_ (ld_blt I hg hm boot_range (PyProof.Rows.callWith_type1 (thn (ha pos pins s σ H _ I h) fun us s1 ⟨vs, H1, I1, r1, q1⟩ => ?_) (by rw [hs, hs2]) (by rw [hs2]; rfl)))
  obtain ⟨i, j, e, ⟨q1, q2, q3, q4⟩, q⟩ := q1
  subst e
  cases r1 with
  | cons r rr =>
    cases rr with
    | cons r' rr =>
      cases rr
      obtain ⟨t, rfl⟩ := r
      obtain ⟨t', rfl⟩ := r'
      exact call_range_2 (range_it I1 q1 q2 q3 q4 q)
def tFor (wi:TI) (g:TG) (tb:TS):TS:=fun D σ H=>wi σ H fun J H1=>∃ W:Nat→Nat→St→Hp→Prop,(∃ m,W 0 m σ H1) ∧ ∀ i m σ H,W i m σ H →
 (J.stop i H∧D.nx σ H)∨(J.go i H ∧ ∃ N:St→Hp→Prop,(∀ σ' H',N σ' H' → ∃ m',m' < m∧W (i+1) m' σ' H') ∧ ∀ x H',J.yld i H x H'→g x σ H' fun σ2 H2=>tb { D with nx:=N,ct:=N,bk:=D.nx } σ2 H2)
def pinsAt (fp:List Addr) (h:Heap):List (Addr × Obj):=fp.filterMap fun b=>(h.get? b).map fun o=>(b,o)
theorem mem_pinsAt {fp:List Addr} {h:Heap} {b:Addr} {o:Obj} (hb:b ∈ fp) (e:h.get? b=some o):(b,o) ∈ pinsAt fp h:=List.mem_filterMap.mpr ⟨b,hb,by rw [e];rfl⟩
theorem of_pinsAt {fp : List Addr} {h : Heap} {p : Addr × Obj} (hp : p ∈ pinsAt fp h) : p.1 ∈ fp ∧ h.get? p.1 = some p.2 := by
  obtain ⟨b, hb, e⟩ := List.mem_filterMap.mp hp
  cases q : h.get? b with
  | none => rw [q] at e; cases e
  | some o =>
    rw [q] at e
    have e' : (b, o) = p := Option.some.inj e
    subst e'
    exact ⟨hb, q⟩
theorem Inv.pinned {pins:List (Addr × Obj)} {σ:St} {H:Hp} {s:Shared} {fp:List Addr} (I:Inv X pins σ H s) (hf : ∀ b ∈ fp,FpOk X pins H b) (ho : ∀ b ∈ fp,∃ o,s.heap.get? b=some o ∧ ∀ v,o.data ≠ .cell v):Inv X (pins++pinsAt fp s.heap) σ H s:=
 I.pins_of fun p hp=>(List.mem_append.mp hp).elim (fun z=>I.pin p (List.mem_append_right _ z)) fun z=>by
  obtain ⟨hb,e⟩:=of_pinsAt z
  obtain ⟨f0,f1,f2,_⟩:=hf p.1 hb
  obtain ⟨o,e',d⟩:=ho p.1 hb
  rw [e] at e';cases e'
  exact ⟨e,f0,f1,f2,d⟩
theorem Inv.unpinned {pins pl:List (Addr × Obj)} {σ:St} {H:Hp} {s:Shared} (I:Inv X (pins++pl) σ H s):Inv X pins σ H s:=I.pins_of fun p hp=>I.pin p (List.mem_append_right _ (List.mem_append_left _ hp))
theorem ps_for {iter:Expr} {body:List Stmt} {wi:TI} {g:TG} {tb:TS} {pos:Pos} (hp:PassesOwn (model X.prog X.w) X.A X.env X.xe) (hc:X.calm=true) (hi:PI X tg iter wi) (hg:PG X tg g) (hb:PSs X body tb)
  (hs : ∀ x,foldedSetIterable iter X.env x=pure x:=by intro _;rfl):PS X (.For tg iter body [] pos) (tFor wi g tb):=by
 intro pins s σ H D I h
 refine wpAny_For (thn (hi pins s σ H _ I h) fun v s1 h1=>thn h1 fun itv s2 h2=>?_) hs
 obtain ⟨it,fp,tn,J,H2,e,I2,T,st2,f2,W,⟨m0,w0⟩,turn⟩:=h2
 subst e
 have stat : ∀ {H':Hp},(∀ b ∈ fp,H' b=none) → ∀ b ∈ fp,FpOk X pins H' b:=fun hn b hb=>⟨hn b hb,(f2 b hb).2⟩
 refine codeAny_forLoop_any (fun n s'=>∃ i σ' H',Inv X pins σ' H' s'∧tn i s'.heap∧(∀ b ∈ fp,H' b=none)∧W i n σ' H') ?_ m0 ⟨0,σ,H2,I2,st2,fun b hb=>(f2 b hb).1,w0⟩
 rintro n s3 ⟨i,σ3,H3,I3,st3,fr3,w3⟩
 rcases turn i n σ3 H3 w3 with ⟨stop,qn⟩ | ⟨go,N,hN,step⟩
 ·refine wpAny_passesOwn hp (thn (T.done X rfl rfl rfl hc i pins s3 σ3 H3 X.xe I3 (stat fr3) st3 stop) fun r s4 ⟨hr,I4⟩=>?_)
  subst hr
  exact wpAny_execs_nil ⟨σ3,H3,I4,qn⟩
 ·refine wpAny_passesOwn hp (thn (T.item X rfl rfl rfl hc i pins s3 σ3 H3 X.xe I3 (stat fr3) st3 go) fun r s4 ⟨u,hr,h4⟩=>?_)
  subst hr
  refine wpAny_passesOwn hp (thn h4 fun _ s5 ⟨x,H5,I5,r5,y5,st5,fr5⟩=>?_)
  have I5':=I5.pinned (stat fr5) (T.obj _ _ st5)
  refine wpAny_passesOwn hp (thn (hg _ s5 σ3 H5 x u _ I5' r5 (step x H5 y5)) fun _ s6 ⟨σ6,H6,I6,q6⟩=>?_)
  refine wpAny_passesOwn hp (thn (hb _ s6 σ6 H6 _ I6 q6) fun f s7 q7=>?_)
  have again : ∀ {σ7:St} {H7:Hp},Inv X (pins++pinsAt fp s5.heap) σ7 H7 s7→N σ7 H7 → ∃ m,m < n ∧ ∃ i σ' H',Inv X pins σ' H' s7∧tn i s7.heap∧(∀ b ∈ fp,H' b=none)∧W i m σ' H':=fun {σ7 H7} I7 n7=>by
   obtain ⟨m',hm,w7⟩:=hN σ7 H7 n7
   refine ⟨m',hm,i+1,σ7,H7,I7.unpinned,T.keep _ _ _ st5 fun b hb o e=>(I7.pin (b,o) (List.mem_append_right _ (List.mem_append_right _ (mem_pinsAt hb e)))).1,fun b hb=>?_,w7⟩
   obtain ⟨o,e,d⟩:=T.obj _ _ st5 b hb
   exact (I7.pin (b,o) (List.mem_append_right _ (List.mem_append_right _ (mem_pinsAt hb e)))).2.1
  cases f with
  | next=>obtain ⟨σ7,H7,I7,n7⟩:=q7;exact again I7 n7
  | cont=>obtain ⟨σ7,H7,I7,n7⟩:=q7;exact again I7 n7
  | brk=>obtain ⟨σ7,H7,I7,q7⟩:=q7;exact ⟨σ7,H7,I7.unpinned,q7⟩
  | ret v=>obtain ⟨x7,σ7,H7,I7,r7,q7⟩:=q7;exact ⟨x7,σ7,H7,I7.unpinned,r7,q7⟩
end
theorem for_list {K:PySem.W.Frag} {a:Addr} {xs:List V} {g:TG} {tb:TS} {D:Ends} {σ:St} {H:Hp} (Pv:Nat→St→Hp→Prop) (h0:Pv 0 σ H) (hl : ∀ i σ H,i≤xs.length→Pv i σ H→SqL K H a xs)
  (hs : ∀ i x σ H,xs[i]? = some x→Pv i σ H→g x σ H fun σ2 H2=>tb { D with nx:=Pv (i+1),ct:=Pv (i+1),bk:=D.nx } σ2 H2) (hd : ∀ σ H,Pv xs.length σ H→D.nx σ H) :
  ∃ W:Nat→Nat→St→Hp→Prop,(∃ m,W 0 m σ H) ∧ ∀ i m σ H,W i m σ H →
   ((Itl K a).stop i H∧D.nx σ H)∨((Itl K a).go i H ∧ ∃ N:St→Hp→Prop,(∀ σ' H',N σ' H' → ∃ m',m' < m∧W (i+1) m' σ' H') ∧ ∀ x H',(Itl K a).yld i H x H'→g x σ H' fun σ2 H2=>tb { D with nx:=N,ct:=N,bk:=D.nx } σ2 H2):=by
 refine ⟨fun i m σ H=>m=xs.length - i∧i≤xs.length∧Pv i σ H,⟨xs.length,by simp,Nat.zero_le _,h0⟩,?_⟩
 rintro i m σ H ⟨rfl,hi,p⟩
 have q:=hl i σ H hi p
 by_cases hlt:i < xs.length
 ·refine .inr ⟨⟨xs,xs[i],q,by simp [hlt]⟩,Pv (i+1),fun σ' H' p'=>⟨xs.length - (i+1),by omega,rfl,hlt,p'⟩,fun x H' y=>?_⟩
  obtain ⟨e,y⟩:=y
  subst e
  exact hs i x σ _ (y xs q) p
 ·have e:i=xs.length:=by omega
  subst e
  exact .inl ⟨⟨xs,q,Nat.le_refl _⟩,hd σ H p⟩
theorem for_tup {K:PySem.W.Frag} {a:Addr} {xs:List V} {g:TG} {tb:TS} {D:Ends} {σ:St} {H:Hp} (Pv:Nat→St→Hp→Prop) (h0:Pv 0 σ H) (hl : ∀ i σ H,i≤xs.length→Pv i σ H→SqT K H a xs)
  (hs : ∀ i x σ H,xs[i]? = some x→Pv i σ H→g x σ H fun σ2 H2=>tb { D with nx:=Pv (i+1),ct:=Pv (i+1),bk:=D.nx } σ2 H2) (hd : ∀ σ H,Pv xs.length σ H→D.nx σ H) :
  ∃ W:Nat→Nat→St→Hp→Prop,(∃ m,W 0 m σ H) ∧ ∀ i m σ H,W i m σ H →
   ((Itt K a).stop i H∧D.nx σ H)∨((Itt K a).go i H ∧ ∃ N:St→Hp→Prop,(∀ σ' H',N σ' H' → ∃ m',m' < m∧W (i+1) m' σ' H') ∧ ∀ x H',(Itt K a).yld i H x H'→g x σ H' fun σ2 H2=>tb { D with nx:=N,ct:=N,bk:=D.nx } σ2 H2):=by
 refine ⟨fun i m σ H=>m=xs.length - i∧i≤xs.length∧Pv i σ H,⟨xs.length,by simp,Nat.zero_le _,h0⟩,?_⟩
 rintro i m σ H ⟨rfl,hi,p⟩
 have q:=hl i σ H hi p
 by_cases hlt:i < xs.length
 ·refine .inr ⟨⟨xs,xs[i],q,by simp [hlt]⟩,Pv (i+1),fun σ' H' p'=>⟨xs.length - (i+1),by omega,rfl,hlt,p'⟩,fun x H' y=>?_⟩
  obtain ⟨e,y⟩:=y
  subst e
  exact hs i x σ _ (y xs q) p
 ·have e:i=xs.length:=by omega
  subst e
  exact .inl ⟨⟨xs,q,Nat.le_refl _⟩,hd σ H p⟩
theorem for_range {lo:Int} {n:Nat} {g:TG} {tb:TS} {D:Ends} {σ:St} {H:Hp} (Pv:Nat→St→Hp→Prop) (h0:Pv 0 σ H)
  (hs : ∀ i σ H,i < n→Pv i σ H→g (.int (lo+i)) σ H fun σ2 H2=>tb { D with nx:=Pv (i+1),ct:=Pv (i+1),bk:=D.nx } σ2 H2) (hd : ∀ σ H,Pv n σ H→D.nx σ H) :
  ∃ W:Nat→Nat→St→Hp→Prop,(∃ m,W 0 m σ H) ∧ ∀ i m σ H,W i m σ H →
   ((Itr lo n).stop i H∧D.nx σ H)∨((Itr lo n).go i H ∧ ∃ N:St→Hp→Prop,(∀ σ' H',N σ' H' → ∃ m',m' < m∧W (i+1) m' σ' H') ∧ ∀ x H',(Itr lo n).yld i H x H'→g x σ H' fun σ2 H2=>tb { D with nx:=N,ct:=N,bk:=D.nx } σ2 H2):=by
 refine ⟨fun i m σ H=>m=n - i∧i≤n∧Pv i σ H,⟨n,by simp,Nat.zero_le _,h0⟩,?_⟩
 rintro i m σ H ⟨rfl,hi,p⟩
 by_cases hlt:i < n
 ·refine .inr ⟨hlt,Pv (i+1),fun σ' H' p'=>⟨n - (i+1),by omega,rfl,hlt,p'⟩,fun x H' y=>?_⟩
  obtain ⟨e,y⟩:=y
  subst e y
  exact hs i σ _ hlt p
 ·have e:i=n:=by omega
  subst e
  exact .inl ⟨Nat.le_refl _,hd σ H p⟩
abbrev R2:=V→V→Hp→VK→Prop
def OpR (X:Cx) (f:Value→Value→Sem Value) (r:R2):Prop:=
 ∀ (pins:List (Addr × Obj)) (s:Shared) (σ:St) (H:Hp) (x y:V) (v u:Value) (Q:VK),Inv X pins σ H s→RelV x v→RelV y u→r x y H Q →
  wpAny (model X.prog X.w) X.A (f v u) (EP X pins σ Q) X.xe s
def UnR (X:Cx) (f:Value→Sem Value) (r:V→Hp→VK→Prop):Prop:=
 ∀ (pins:List (Addr × Obj)) (s:Shared) (σ:St) (H:Hp) (x:V) (v:Value) (Q:VK),Inv X pins σ H s→RelV x v→r x H Q →
  wpAny (model X.prog X.w) X.A (f v) (EP X pins σ Q) X.xe s
def CallR (X:Cx) (f:Value) (r:List V→Hp→VK→Prop):Prop:=
 ∀ (pins:List (Addr × Obj)) (s:Shared) (σ:St) (H:Hp) (xs:List V) (us:List Value) (Q:VK),Inv X pins σ H s→Vals xs us→r xs H Q →
  wpAny (model X.prog X.w) X.A (call f us) (EP X pins σ Q) X.xe s
def tOp (r:R2) (ta tb:TE):TE:=fun σ H Q=>ta σ H fun x H1=>tb σ H1 fun y H2=>r x y H2 Q
def tUn (r:V→Hp→VK→Prop) (ta:TE):TE:=fun σ H Q=>ta σ H fun x H1=>r x H1 Q
def rI (C:Int→Int→Prop) (g:Int→Int→V):R2:=fun x y H Q=>∃ i j,x = .int i∧y = .int j∧C i j∧Q (g i j) H
def rI0 (g:Int→Int→V):R2:=fun x y H Q=>∃ i j,x = .int i∧y = .int j∧Q (g i j) H
def rU (g:Int→V):V→Hp→VK→Prop:=fun x H Q=>∃ i,x = .int i∧Q (g i) H
section
variable {X : Cx} {a b c : Expr} {ta tb tc : TE} {pos : Pos}
theorem binT (ha:PE X a ta) (hb:PE X b tb) {pins:List (Addr × Obj)} {s:Shared} {σ:St} {H:Hp} {R:V→V→Hp→Prop} (I:Inv X pins σ H s)
  (h:ta σ H fun x H1=>tb σ H1 fun y H2=>R x y H2) {Q:Value→Shared→Prop} {f:Value→Value→Sem Value}
  (hf : ∀ v u s2 x y H2,Inv X pins σ H2 s2→RelV x v→RelV y u→R x y H2→wpAny (model X.prog X.w) X.A (f v u) Q X.xe s2) :
  wpAny (model X.prog X.w) X.A (eval a X.env) (fun v s₁=>wpAny (model X.prog X.w) X.A (eval b X.env) (fun u s₂=>wpAny (model X.prog X.w) X.A (f v u) Q X.xe s₂) X.xe s₁) X.xe s:=by
 refine thn (ha pins s σ H _ I h) fun v s1 ⟨x,H1,I1,r1,q1⟩=>?_
 refine thn (hb pins s1 σ H1 _ I1 q1) fun u s2 ⟨y,H2,I2,r2,q2⟩=>?_
 exact hf v u s2 x y H2 I2 r1 r2 q2
theorem pe_op {op:Operator} {r:R2} (ho:OpR X (binaryOp op) r) (ha:PE X a ta) (hb:PE X b tb):PE X (.BinOp a op b pos) (tOp r ta tb):=by
 intro pins s σ H Q I h
 exact wpAny_BinOp (binT ha hb I h fun v u s2 x y H2 I2 rx ry q=>ho pins s2 σ H2 x y v u Q I2 rx ry q)
theorem pe_un {op:UnaryOp} {r:V→Hp→VK→Prop} (ho:UnR X (unaryOp op) r) (ha:PE X a ta):PE X (.UnaryOp op a pos) (tUn r ta):=by
 intro pins s σ H Q I h
 exact UnaryOp_ (thn (ha pins s σ H _ I h) fun v s1 ⟨x,H1,I1,r1,q1⟩=>ho pins s1 σ H1 x v Q I1 r1 q1)
theorem opI {f:Value→Value→Sem Value} {C:Int→Int→Prop} {g:Int→Int→Int}
  (rule : ∀ (i j:Int) (t u:Tok) (s:Shared) (Q:Value→Shared→Prop) (E:Value→Shared→Prop),C i j→Q (.int (g i j) s.toks) { s with toks:=s.toks+1 }→wpAny (model X.prog X.w) X.A (f (.int i t) (.int j u)) Q E s) :
  OpR X f (rI C fun i j=>.int (g i j)):=by
 intro pins s σ H x y v u Q I rx ry h
 obtain ⟨i,j,rfl,rfl,hc,q⟩:=h
 obtain ⟨t,rfl⟩:=rx
 obtain ⟨t',rfl⟩:=ry
 exact rule i j t t' s _ _ hc ⟨.int (g i j),H,I.tok _,⟨_,rfl⟩,q⟩
theorem opI0 {f:Value→Value→Sem Value} {g:Int→Int→Int}
  (rule : ∀ (i j:Int) (t u:Tok) (s:Shared) (Q:Value→Shared→Prop) (E:Value→Shared→Prop),Q (.int (g i j) s.toks) { s with toks:=s.toks+1 }→wpAny (model X.prog X.w) X.A (f (.int i t) (.int j u)) Q E s) :
  OpR X f (rI0 fun i j=>.int (g i j)):=by
 intro pins s σ H x y v u Q I rx ry h
 obtain ⟨i,j,rfl,rfl,q⟩:=h
 obtain ⟨t,rfl⟩:=rx
 obtain ⟨t',rfl⟩:=ry
 exact rule i j t t' s _ _ ⟨.int (g i j),H,I.tok _,⟨_,rfl⟩,q⟩
theorem opB0 {f:Value→Value→Sem Value} {g:Int→Int→Bool}
  (rule : ∀ (i j:Int) (t u:Tok) (s:Shared) (Q:Value→Shared→Prop) (E:Value→Shared→Prop),Q (.bool (g i j)) s→wpAny (model X.prog X.w) X.A (f (.int i t) (.int j u)) Q E s) :
  OpR X f (rI0 fun i j=>.bl (g i j)):=by
 intro pins s σ H x y v u Q I rx ry h
 obtain ⟨i,j,rfl,rfl,q⟩:=h
 obtain ⟨t,rfl⟩:=rx
 obtain ⟨t',rfl⟩:=ry
 exact rule i j t t' s _ _ ⟨.bl (g i j),H,I,rfl,q⟩
def CPow (i j:Int):Prop:=0≤j∧j≤1000000∧i.natAbs < 2 ^ 64
def CMul (i j:Int):Prop:=(-(2 ^ 64) < i∧i < 2 ^ 64)∨(-(2 ^ 64) < j∧j < 2 ^ 64)
theorem CMul.ok {i j:Int} (h:CMul i j):IntMulOk i j:=by
 rcases h with ⟨h1,h2⟩ | ⟨h1,h2⟩
 ·exact .of_left (intBits_le_64 h1 h2)
 ·exact .of_right (intBits_le_64 h1 h2)
theorem two_pow_nn (k:Nat):(0:Int)≤2 ^ k:=by
 rw [two_pow_cast]
 exact Int.natCast_nonneg _
theorem op_add:OpR X (binaryOp .Add) (rI0 fun i j=>.int (i+j)):=opI0 fun _ _ _ _ _ _ _ q=>add_int q
theorem op_sub:OpR X (binaryOp .Sub) (rI0 fun i j=>.int (i - j)):=opI0 fun _ _ _ _ _ _ _ q=>sub_int q
theorem op_mod:OpR X (binaryOp .Mod) (rI (fun _ j=>0 < j) fun i j=>.int (i % j)):=opI fun i j _ _ _ _ _ hc q=>by
 have h1:(0:Int) < j:=hc
 exact mod_int' (by omega) (by rw [Int.fmod_eq_emod_of_nonneg i (by omega)];exact q)
theorem op_pow:OpR X (binaryOp .Pow) (rI CPow fun i j=>.int (i ^ j.toNat)):=opI fun _ _ _ _ _ _ _ hc q=>pow_int_small hc.1 hc.2.1 hc.2.2 q
theorem op_shr:OpR X (binaryOp .RShift) (rI (fun _ j=>0≤j) fun i j=>.int (i / 2 ^ j.toNat)):=opI fun i j _ _ _ _ _ hc q =>
 rshift_int hc (by rw [Int.fdiv_eq_ediv_of_nonneg i (two_pow_nn _)];exact q)
theorem unI {f:Value→Sem Value} {g:Int→Int}
  (rule : ∀ (i:Int) (t:Tok) (s:Shared) (Q:Value→Shared→Prop) (E:Value→Shared→Prop),Q (.int (g i) s.toks) { s with toks:=s.toks+1 }→wpAny (model X.prog X.w) X.A (f (.int i t)) Q E s) :
  UnR X f (rU fun i=>.int (g i)):=by
 intro pins s σ H x v Q I rx h
 obtain ⟨i,rfl,q⟩:=h
 obtain ⟨t,rfl⟩:=rx
 exact rule i t s _ _ ⟨.int (g i),H,I.tok _,⟨_,rfl⟩,q⟩
theorem un_neg:UnR X (unaryOp .USub) (rU fun i=>.int (-i)):=unI fun _ _ _ _ _ q=>neg_int q
end
def scal:V→V→Bool
 | .non,.non=>true | .non,.int _=>true | .int _,.non=>true | .non,.bl _=>true | .bl _,.non=>true | .non,.str _=>true | .str _,.non=>true
 | .int _,.int _=>true | .bl _,.bl _=>true | .str _,.str _=>true | .byt _,.byt _=>true
 | .int _,.str _=>true | .str _,.int _=>true | .bl _,.str _=>true | .str _,.bl _=>true
 | _,_=>false
def rEq:R2:=fun x y H Q=>scal x y=true∧Q (.bl (decide (x=y))) H
def rNe:R2:=fun x y H Q=>scal x y=true∧Q (.bl (!decide (x=y))) H
theorem dec_int {i j:Int}:decide (V.int i=V.int j)=(i == j):=by
 rw [Bool.eq_iff_iff]
 simp
theorem dec_bl {i j:Bool}:decide (V.bl i=V.bl j)=(i == j):=by
 rw [Bool.eq_iff_iff]
 simp
theorem dec_str {i j:Str}:decide (V.str i=V.str j)=(i == j):=by
 rw [Bool.eq_iff_iff]
 simp
theorem dec_byt {i j:Array UInt8}:decide (V.byt i=V.byt j)=(i.toList == j.toList):=by
 rw [Bool.eq_iff_iff]
 cases i
 cases j
 simp
section
variable {X : Cx} {a b c : Expr} {ta tb tc : TE} {pos : Pos}
theorem fin_bl {pins:List (Addr × Obj)} {σ:St} {H:Hp} {s:Shared} {Q:VK} {k k':Bool} (I:Inv X pins σ H s) (q:Q (.bl k) H) (e:k=k'):EP X pins σ Q (.bool k') s:=by
 subst e
 exact ⟨.bl k,H,I,rfl,q⟩
theorem op_eq : OpR X (compareOp .Eq) rEq := by
  intro pins s σ H x y v u Q I rx ry h
  obtain ⟨hs, q⟩ := h
  cases x with
  | non =>
    cases rx
    cases y with
    | non => cases ry; exact PySem.EqNone.eq_none_none (fin_bl I q (by simp))
    | bl j => cases ry; exact PySem.EqNone.eq_none_bool (fin_bl I q (by simp))
    | int j => obtain ⟨t', rfl⟩ := ry; exact PySem.EqNone.eq_none_int (fin_bl I q (by simp))
    | str j => obtain ⟨t', rfl⟩ := ry; exact PySem.EqNone.eq_none_str (fin_bl I q (by simp))
    | _ => exact absurd (show false = true from hs) Bool.false_ne_true
  | bl i =>
    cases rx
    cases y with
    | non => cases ry; exact PySem.EqNone.eq_bool_none (fin_bl I q (by simp))
    | bl j => cases ry; exact eq_bool (fin_bl I q dec_bl)
    | str j => obtain ⟨t', rfl⟩ := ry; exact PySem.EqMixed.eq_bool_str (fin_bl I q (by simp))
    | _ => exact absurd (show false = true from hs) Bool.false_ne_true
  | int i =>
    obtain ⟨t, rfl⟩ := rx
    cases y with
    | non => cases ry; exact PySem.EqNone.eq_int_none (fin_bl I q (by simp))
    | int j => obtain ⟨t', rfl⟩ := ry; exact eq_int (fin_bl I q dec_int)
    | str j => obtain ⟨t', rfl⟩ := ry; exact PySem.EqMixed.eq_int_str (fin_bl I q (by simp))
    | _ => exact absurd (show false = true from hs) Bool.false_ne_true
  | str i =>
    obtain ⟨t, rfl⟩ := rx
    cases y with
    | non => cases ry; exact PySem.EqNone.eq_str_none (fin_bl I q (by simp))
    | bl j => cases ry; exact PySem.EqMixed.eq_str_bool (fin_bl I q (by simp))
    | int j => obtain ⟨t', rfl⟩ := ry; exact PySem.EqMixed.eq_str_int (fin_bl I q (by simp))
    | str j => obtain ⟨t', rfl⟩ := ry; exact eq_str (fin_bl I q dec_str)
    | _ => exact absurd (show false = true from hs) Bool.false_ne_true
  | byt i =>
    obtain ⟨t, rfl⟩ := rx
    cases y with
    | byt j => obtain ⟨t', rfl⟩ := ry; exact W.eq_bytes (fin_bl I q dec_byt)
    | _ => exact absurd (show false = true from hs) Bool.false_ne_true
  | _ => cases y <;> exact absurd (show false = true from hs) Bool.false_ne_true
theorem op_ne : OpR X (compareOp .NotEq) rNe := by
  intro pins s σ H x y v u Q I rx ry h
  obtain ⟨hs, q⟩ := h
  cases x with
  | non =>
    cases rx
    cases y with
    | non => cases ry; exact PySem.EqNone.ne_none_none (fin_bl I q (by simp))
    | bl j => cases ry; exact PySem.EqNone.ne_none_bool (fin_bl I q (by simp))
    | int j => obtain ⟨t', rfl⟩ := ry; exact PySem.EqNone.ne_none_int (fin_bl I q (by simp))
    | str j => obtain ⟨t', rfl⟩ := ry; exact PySem.EqNone.ne_none_str (fin_bl I q (by simp))
    | _ => exact absurd (show false = true from hs) Bool.false_ne_true
  | bl i =>
    cases rx
    cases y with
    | non => cases ry; exact PySem.EqNone.ne_bool_none (fin_bl I q (by simp))
    | bl j => cases ry; exact ne_bool (fin_bl I q (congrArg not dec_bl))
    | str j => obtain ⟨t', rfl⟩ := ry; exact PySem.EqMixed.ne_bool_str (fin_bl I q (by simp))
    | _ => exact absurd (show false = true from hs) Bool.false_ne_true
  | int i =>
    obtain ⟨t, rfl⟩ := rx
    cases y with
    | non => cases ry; exact PySem.EqNone.ne_int_none (fin_bl I q (by simp))
    | int j => obtain ⟨t', rfl⟩ := ry; exact ne_int (fin_bl I q (congrArg not dec_int))
    | str j => obtain ⟨t', rfl⟩ := ry; exact PySem.EqMixed.ne_int_str (fin_bl I q (by simp))
    | _ => exact absurd (show false = true from hs) Bool.false_ne_true
  | str i =>
    obtain ⟨t, rfl⟩ := rx
    cases y with
    | non => cases ry; exact PySem.EqNone.ne_str_none (fin_bl I q (by simp))
    | bl j => cases ry; exact PySem.EqMixed.ne_str_bool (fin_bl I q (by simp))
    | int j => obtain ⟨t', rfl⟩ := ry; exact PySem.EqMixed.ne_str_int (fin_bl I q (by simp))
    | str j => obtain ⟨t', rfl⟩ := ry; exact ne_str (fin_bl I q (congrArg not dec_str))
    | _ => exact absurd (show false = true from hs) Bool.false_ne_true
  | byt i =>
    obtain ⟨t, rfl⟩ := rx
    cases y with
    | byt j => obtain ⟨t', rfl⟩ := ry; exact W.ne_bytes (fin_bl I q (congrArg not dec_byt))
    | _ => exact absurd (show false = true from hs) Bool.false_ne_true
  | _ => cases y <;> exact absurd (show false = true from hs) Bool.false_ne_true
theorem op_lt:OpR X (compareOp .Lt) (rI0 fun i j=>.bl (decide (i < j))):=opB0 fun _ _ _ _ _ _ _ q=>lt_int q
theorem op_le:OpR X (compareOp .LtE) (rI0 fun i j=>.bl (decide (i≤j))):=opB0 fun _ _ _ _ _ _ _ q=>le_int q
theorem op_gt:OpR X (compareOp .Gt) (rI0 fun i j=>.bl (decide (j < i))):=opB0 fun _ _ _ _ _ _ _ q=>gt_int q
theorem op_ge:OpR X (compareOp .GtE) (rI0 fun i j=>.bl (decide (j≤i))):=opB0 fun _ _ _ _ _ _ _ q=>ge_int q
theorem op_in_str:OpR X (compareOp .In) (fun x y H Q=>∃ i j,x = .str i∧y = .str j∧Q (.bl (!(Builtin.Str.occurrences j i 0 j.length 1).isEmpty)) H):=by
 intro pins s σ H x y v u Q I rx ry h
 obtain ⟨i,j,rfl,rfl,q⟩:=h
 obtain ⟨t,rfl⟩:=rx
 obtain ⟨t',rfl⟩:=ry
 exact in_str (fin_bl I q rfl)
theorem op_isN:OpR X (compareOp .Is) (fun x y H Q=>y = .non∧Q (.bl (decide (x = .non))) H):=by
 intro pins s σ H x y v u Q I rx ry h
 obtain ⟨rfl,q⟩:=h
 cases ry
 refine is_none_gen (fin_bl I q ?_)
 cases x <;> first
  | (cases rx;rfl)
  | (obtain ⟨t,rfl⟩:=rx;rfl)
theorem OpR.or {f:Value→Value→Sem Value} {r r':R2} (h:OpR X f r) (h':OpR X f r'):OpR X f (fun x y H Q=>r x y H Q∨r' x y H Q):=by
 intro pins s σ H x y v u Q I rx ry q
 rcases q with q | q
 ·exact h pins s σ H x y v u Q I rx ry q
 ·exact h' pins s σ H x y v u Q I rx ry q
theorem nomark (b:Expr) {op:CmpOp} (h:op ≠ .In:=by decide) (h2:op ≠ .NotIn:=by decide):behindInMarks op b=false:=by
 have e1:(op == CmpOp.In)=false:=by cases op <;> first | rfl | exact absurd rfl h
 have e2:(op == CmpOp.NotIn)=false:=by cases op <;> first | rfl | exact absurd rfl h2
 cases b <;> simp [behindInMarks,e1,e2]
theorem pe_cmpR {op:CmpOp} {r:R2} (ho:OpR X (compareOp op) r) (ha:PE X a ta) (hb:PE X b tb) (hm:behindInMarks op b=false):PE X (.Compare a [op] [b] pos) (tOp r ta tb):=by
 intro pins s σ H Q I h
 exact wpAny_Compare1 (binT ha hb I h fun v u s2 x y H2 I2 rx ry q=>ho pins s2 σ H2 x y v u Q I2 rx ry q) hm
def tTest (t:TE):TT:=fun σ H Q=>t σ H fun x H'=>∃ k,x = .bl k∧Q k H'
theorem pt_cmpR {op:CmpOp} {r:R2} (ho:OpR X (compareOp op) r) (ha:PE X a ta) (hb:PE X b tb) (hm:behindInMarks op b=false):PT X (.Compare a [op] [b] pos) (tTest (tOp r ta tb)):=by
 intro pins s σ H Q I h
 refine wpAny_isTrue_Compare1 (thn (ha pins s σ H _ I h) fun v s1 ⟨x,H1,I1,r1,q1⟩=>thn (hb pins s1 σ H1 _ I1 q1) fun u s2 ⟨y,H2,I2,r2,q2⟩ =>
  thn (ho pins s2 σ H2 x y v u _ I2 r1 r2 q2) fun c s3 ⟨z,H3,I3,r3,k,e,q3⟩=>?_) hm
 subst e
 cases r3
 exact wpAny_truthy_bool ⟨H3,I3,q3⟩
def tChain (r r':R2) (ta tb tc:TE):TE:=fun σ H Q=>ta σ H fun x H1=>tb σ H1 fun y H2=>r x y H2 fun z H3=>∃ k,z = .bl k ∧
 (if k=true then tc σ H3 fun w' H4=>r' y w' H4 Q else Q (.bl false) H3)
theorem pt_chain {op op' : CmpOp} {r r' : R2} (ho : OpR X (compareOp op) r) (ho' : OpR X (compareOp op') r') (ha : PE X a ta) (hb : PE X b tb) (hc : PE X c tc)
    (hm : lastMarks [op, op'] [b, c] = false := by with_unfolding_all rfl) : PT X (.Compare a [op, op'] [b, c] pos) (tTest (tChain r r' ta tb tc)) := by
  intro pins s σ H Q I h
  refine isTrue_chain (thn (ha pins s σ H _ I h) fun v s1 ⟨x, H1, I1, r1, q1⟩ => test_link (thn (hb pins s1 σ H1 _ I1 q1) fun u s2 ⟨y, H2, I2, r2, q2⟩ =>
    thn (ho pins s2 σ H2 x y v u _ I2 r1 r2 q2) fun d s3 ⟨z, H3, I3, r3, k, e, q3⟩ => ?_)) hm
  subst e
  cases r3
  refine wpAny_truthy_bool ?_
  cases k with
  | false =>
    obtain ⟨k', e', q'⟩ := q3
    cases e'
    exact ite_ff ⟨H3, I3, q'⟩
  | true =>
    refine ite_tt (test_last (thn (hc pins s3 σ H3 _ I3 q3) fun w' s4 ⟨z', H4, I4, r4, q4⟩ => thn (ho' pins s4 σ H4 y z' u w' _ I4 r2 r4 q4) fun d' s5 ⟨z2, H5, I5, r5, k2, e2, q5⟩ => ?_))
    subst e2
    cases r5
    exact wpAny_truthy_bool ⟨H5, I5, q5⟩
theorem line63:(sizeLine:Nat) < 2 ^ 63:=by rw [sizeLine_eq];decide
theorem op_add_str:OpR X (binaryOp .Add) (fun x y H Q=>∃ i j,x = .str i∧y = .str j∧i.length+j.length≤sizeLine∧Q (.str (i++j)) H):=by
 intro pins s σ H x y v u Q I rx ry h
 obtain ⟨i,j,rfl,rfl,hz,q⟩:=h
 obtain ⟨t,rfl⟩:=rx
 obtain ⟨t',rfl⟩:=ry
 exact add_str (fun t' tk=>⟨.str (i++j),H,I.tok _,⟨_,rfl⟩,q⟩) hz
theorem vals1 {x:V} {us:List Value} (r:Vals [x] us) : ∃ u,us=[u]∧RelV x u:=by
 cases r with
 | cons r1 r2=>cases r2;exact ⟨_,rfl,r1⟩
theorem vals2 {x y : V} {us : List Value} (r : Vals [x, y] us) : ∃ u w', us = [u, w'] ∧ RelV x u ∧ RelV y w' := by
  cases r with
  | cons r1 r2 =>
    cases r2 with
    | cons r3 r4 => cases r4; exact ⟨_, _, rfl, r1, r3⟩
theorem call_abs:CallR X (.builtin "abs") (fun xs H Q=>∃ i,xs=[.int i]∧Q (.int (if i < 0 then -i else i)) H):=by
 intro pins s σ H xs us Q I r h
 obtain ⟨i,rfl,q⟩:=h
 obtain ⟨u,rfl,t,rfl⟩:=vals1 r
 exact call_abs_int fun u tk=>⟨.int (if i < 0 then -i else i),H,I.tok _,⟨_,rfl⟩,q⟩
theorem call_max2 (hc:X.calm=true):CallR X (.builtin "max") (fun xs H Q=>∃ i j,xs=[.int i,.int j]∧Q (.int (if j > i then j else i)) H):=by
 intro pins s σ H xs us Q I r h
 obtain ⟨i,j,rfl,q⟩:=h
 obtain ⟨u,w',rfl,⟨t,rfl⟩,⟨t',rfl⟩⟩:=vals2 r
 refine max_two_ints (I.ok.hd hc) fun h' tk k=>⟨_,H,I.kept k,?_,q⟩
 by_cases hj:j > i
 ·rw [if_pos hj,if_pos hj];exact ⟨_,rfl⟩
 ·rw [if_neg hj,if_neg hj];exact ⟨_,rfl⟩
theorem call_min2 (hc:X.calm=true):CallR X (.builtin "min") (fun xs H Q=>∃ i j,xs=[.int i,.int j]∧Q (.int (if j < i then j else i)) H):=by
 intro pins s σ H xs us Q I r h
 obtain ⟨i,j,rfl,q⟩:=h
 obtain ⟨u,w',rfl,⟨t,rfl⟩,⟨t',rfl⟩⟩:=vals2 r
 refine min_two_ints (I.ok.hd hc) fun h' tk k=>⟨_,H,I.kept k,?_,q⟩
 by_cases hj:j < i
 ·rw [if_pos hj,if_pos hj];exact ⟨_,rfl⟩
 ·rw [if_neg hj,if_neg hj];exact ⟨_,rfl⟩
theorem call_int1:CallR X (.type "int") (fun xs H Q=>(∃ i,xs=[.int i]∧Q (.int i) H) ∨ ∃ k,xs=[.bl k]∧Q (.int (if k then 1 else 0)) H):=by
 intro pins s σ H xs us Q I r h
 rcases h with ⟨i,rfl,q⟩ | ⟨k,rfl,q⟩
 ·obtain ⟨u,rfl,t,rfl⟩:=vals1 r
  exact call_int_int ⟨.int i,H,I,⟨_,rfl⟩,q⟩
 ·obtain ⟨u,rfl,r1⟩:=vals1 r
  cases r1
  exact call_int_bool ⟨.int (if k then 1 else 0),H,I.tok _,⟨_,rfl⟩,q⟩
end
structure ObjM (h:Heap) (x dx C:Addr) (mA:Str→Option Value):Prop where
 obj:h.get? x=some (W.instObj C dx)
 ns:h.Ns1 dx mA
 ne:dx≠x
theorem lookIn_ns {h:Heap} {dx:Addr} {mA:Str→Option Value} (n:h.Ns1 dx mA) : ∃ od,h.get? dx=some od ∧ ∀ name,W.lookIn name od=some (mA name):=by
 obtain ⟨o,es,ep,ho,hd,hk,_,hm⟩:=n
 refine ⟨o,ho,fun name=>?_⟩
 have e:=hm name
 unfold nsFind findBy at e
 rw [← Array.find?_toList] at e
 unfold W.lookIn
 rw [hd]
 dsimp only
 split
 ·rename_i y q
  rw [q] at e
  exact congrArg some e
 ·rename_i q
  rw [q] at e
  have a:es.toList.any (·.refKey)=false:=by
   rw [List.any_eq_false]
   intro y hy
   obtain ⟨z,t,hkey⟩:=hk y (Array.mem_toList_iff.mp hy)
   simp [DictEntry.refKey,hkey]
  have a' : ¬ es.toList.any (·.refKey)=true:=by rw [a];exact Bool.false_ne_true
  rw [if_neg a']
  exact congrArg some e
theorem ObjM.look {h:Heap} {x dx C:Addr} {mA:Str→Option Value} (I:ObjM h x dx C mA) : ∃ od,W.InstAt h x (W.instObj C dx) C (some od) ∧ ∀ name,W.lookIn name od=some (mA name):=
 let ⟨od,ho,hl⟩:=lookIn_ns I.ns
 ⟨od,⟨I.obj,rfl,rfl,ho⟩,hl⟩
section
variable {prog : Program} {w : World} {A : Around} {E : Value → Shared → Prop} {s : Shared} {K : W.Frag} {x dx C f : Addr} {mA : Str → Option Value} {name : Str} {v : Value}
theorem get_map {expr:Bool} {Q:Value→Shared→Prop} (X:K.In s.heap) (I:ObjM s.heap x dx C mA) (hg:W.plainGet K C name=true) (hh:W.hasDictIn K C=true)
  (ha:W.findIn K (.ref C) name=some none) (hv:mA name=some v) (hv':W.handedIn v=true) (h:Q v { s with toks:=s.toks+1 }) :
  wpAny (model prog w) A (getAttr (.ref x) name expr) Q E s:=by
 obtain ⟨od,J,hl⟩:=I.look
 exact W.get_value X J (W.plainGet_of hg).1 (W.findObj_own hh ha rfl (by rw [hl,hv])) hv' h
theorem get_meth {pl:Sem Bool} {Q:Value × List Value→Shared→Prop} (X:K.In s.heap) (I:ObjM s.heap x dx C mA) (hg:W.plainGet K C name=true)
  (hf:W.findIn K (.ref C) name=some (some (.ref f))) (ht:W.isFn K (.ref f)=true) (hv:mA name=none) (h:Q (.ref f,[.ref x]) s) :
  wpAny (model prog w) A (getMethod (.ref x) name pl) Q E s:=by
 obtain ⟨od,J,hl⟩:=I.look
 exact W.method_fn X J (W.plainGet_of hg).1 (W.plainGet_of hg).2 hf (beq_iff_eq.mp ht) (by show (W.lookIn name od).map (·.isSome)=some false;rw [hl,hv];rfl) h
theorem set_map {ns:List Str} {Q:Unit→Shared→Prop} (X:K.In s.heap) (I:ObjM s.heap x dx C mA)
  (hs:W.findIn K (.ref C) "__setattr__" = some (some (.builtin "object.__setattr__"))) (hp:W.plainOver K C=true) (ht:W.takerIn K C name=some none) (hh:W.hasDictIn K C=true)
  (hw:PySem.Within mA ns) (hsz:ns.length≤sizeLine)
  (h : ∀ h',ObjM h' x dx C (fun y=>if y=name then some v else mA y)→Heap.SameBut dx s.heap h'→Q () { s with heap:=h',toks:=s.toks+2 }) :
  wpAny (model prog w) A (setAttr (.ref x) name v) Q E s:=by
 obtain ⟨od,J,hl⟩:=I.look
 refine W.set_plain X J hs (W.osa_open (s:={ s with toks:=s.toks+1 }) (r:=none) X J hp ht fun b=>?_)
 obtain ⟨cd,hc,hd'⟩:=W.any_some hh
 have hx:s.heap.get? x=some ⟨.ref C,some dx,.plain,#[]⟩:=I.obj
 refine wpAny_bind (wpAny_pure (wpAny_bind (wpAny_bind (wpAny_loadPart hx (wpAny_bind (W.Looks.here (s:={ s with toks:=s.toks+1 }) (W.looks_clsIn X hc) ?_))))))
 rw [hd']
 refine wpAny_pure (a:=some dx) (wpAny_bind (wpAny_pure (wpAny_bind ?_)))
 refine wpAny_nsSet1 (s:={ s with toks:=s.toks+1 }) I.ns fun h' hn2 hs2=>?_
 obtain ⟨oD,esD,epD,hoD,hdD,hcD⟩:=hn2.count (PySem.Within.cons name v hw)
 refine wpAny_bind (wpAny_lookBehind hoD (by rw [hdD];exact pastItsLine_dict (Nat.le_trans hcD (by rw [List.length_cons];omega))) ?_)
 exact wpAny_pure (h _ ⟨(hs2.2 _ (Ne.symm I.ne)).trans I.obj,hn2,I.ne⟩ hs2)
theorem make_map {R:Result→Shared→Prop} {vs:List Value} {kw:List (Str × Value)} (X:K.In s.heap) (hm:W.makesIn K C=true)
  (hi:W.findIn K (.ref C) "__init__" = some (some (.ref f))) (hf:W.typeIn K (.ref f)=some (.type "function"))
  (h:codeAny (model prog w) (A.under (.builtin "type.__call__" ⟨.ref C::vs,kw⟩)) (.call (.ref f) ⟨.ref (s.heap.objs.size+1)::vs,kw⟩) (W.InitBack (s.heap.objs.size+1) R)
   { s with heap:=(s.heap.push W.emptyDict).push (W.instObj C s.heap.objs.size) }) :
  codeAny (model prog w) A (.call (.ref C) ⟨vs,kw⟩) R s:=by
 obtain ⟨hh,g,d,t,os⟩:=s
 exact W.make_core (W.makes_of X hm) (W.looks_findIn X hi) (fun self=>W.bind_fn X self hf) (.inl rfl) h
end
def putF (f:Str) (v:V):List (Str × V)→List (Str × V)
 | []=>[(f,v)]
 | (g,x)::r=>if g=f then (g,v)::r else (g,x)::putF f v r
theorem lookup_putF (f g : Str) (v : V) : ∀ fs : List (Str × V), (putF f v fs).lookup g = if g = f then some v else fs.lookup g
  | [] => by
    show List.lookup g [(f, v)] = _
    by_cases h : g = f
    · have hb : (g == f) = true := beq_iff_eq.mpr h
      simp only [List.lookup, hb, if_pos h]
    · have hb : (g == f) = false := beq_eq_false_iff_ne.mpr h
      simp only [List.lookup, hb, if_neg h]
  | (k, x) :: r => by
    have ih := lookup_putF f g v r
    rw [show putF f v ((k, x) :: r) = (if k = f then (k, v) :: r else (k, x) :: putF f v r) from rfl]
    by_cases hk : k = f
    · rw [if_pos hk]
      by_cases h : g = k
      · have hb : (g == k) = true := beq_iff_eq.mpr h
        simp only [List.lookup, hb, if_pos (h.trans hk)]
      · have hb : (g == k) = false := beq_eq_false_iff_ne.mpr h
        simp only [List.lookup, hb, if_neg (fun e : g = f => h (e.trans hk.symm))]
    · rw [if_neg hk]
      by_cases h : g = k
      · have hb : (g == k) = true := beq_iff_eq.mpr h
        simp only [List.lookup, hb, if_neg (fun e : g = f => hk (h.symm.trans e))]
      · have hb : (g == k) = false := beq_eq_false_iff_ne.mpr h
        simp only [List.lookup, hb]
        exact ih
theorem keys_putF (f : Str) (v : V) : ∀ fs : List (Str × V), f ∈ (putF f v fs).map (·.1) ∧ ∀ g, g ∈ fs.map (·.1) → g ∈ (putF f v fs).map (·.1)
  | [] => ⟨by simp [putF], fun g h => by simp at h⟩
  | (k, x) :: r => by
    obtain ⟨i1, i2⟩ := keys_putF f v r
    rw [show putF f v ((k, x) :: r) = (if k = f then (k, v) :: r else (k, x) :: putF f v r) from rfl]
    by_cases hk : k = f
    · rw [if_pos hk]
      subst hk
      exact ⟨by simp, fun g h => by simpa using h⟩
    · rw [if_neg hk]
      refine ⟨?_, fun g h => ?_⟩
      · rw [List.map_cons]
        exact List.mem_cons_of_mem _ i1
      · rw [List.map_cons] at h ⊢
        rcases List.mem_cons.mp h with e | e
        · exact List.mem_cons.mpr (.inl e)
        · exact List.mem_cons_of_mem _ (i2 g e)
theorem length_putF (f : Str) (v : V) : ∀ fs : List (Str × V), (putF f v fs).length ≤ fs.length + 1
  | [] => by simp [putF]
  | (k, x) :: r => by
    have ih := length_putF f v r
    rw [show putF f v ((k, x) :: r) = (if k = f then (k, v) :: r else (k, x) :: putF f v r) from rfl]
    by_cases hk : k = f
    · rw [if_pos hk, List.length_cons, List.length_cons]; omega
    · rw [if_neg hk, List.length_cons, List.length_cons]; omega
theorem RelO.some_of {v:V} {o:Option Value} (r:RelO (some v) o) : ∃ u,o=some u∧RelV v u:=by
 cases o with
 | none=>exact (show False from r).elim
 | some u=>exact ⟨u,rfl,r⟩
theorem RelO.none_of {o:Option Value} (r:RelO none o):o=none:=by
 cases o with
 | none=>rfl
 | some u=>exact (show False from r).elim
theorem handed_of {v:V} {u:Value} (r:RelV v u):W.handedIn u=true:=by
 cases v with
 | non=>cases (show u=Value.none from r);rfl
 | bl b=>cases (show u=Value.bool b from r);rfl
 | int i=>obtain ⟨t,e⟩:=(show ∃ t,u=Value.int i t from r);cases e;rfl
 | str x=>obtain ⟨t,e⟩:=(show ∃ t,u=Value.str x t from r);cases e;rfl
 | byt b=>obtain ⟨t,e⟩:=(show ∃ t,u=Value.bytes b t from r);cases e;rfl
 | flt b=>obtain ⟨t,e⟩:=(show ∃ t,u=Value.float b t from r);cases e;rfl
 | ref a=>cases (show u=Value.ref a from r);rfl
 | ty n=>cases (show u=Value.type n from r);rfl
section
variable {P : Program} {w : World} {H H' : Hp} {h h' : Heap} {a C dx : Addr} {fs fs' : List (Str × V)}
theorem ins_get (hok:HOk P w H h) (e:H a=some (.ins C dx fs)) : ∃ mA,ObjM h a dx C mA∧(∀ f,RelO (fs.lookup f) (mA f))∧PySem.Within mA (fs.map (·.1))∧fs.length≤1000∧H dx=some (.own a):=by
 obtain ⟨d,z,ne,ob,mA,n,r,q⟩:=(show ObjOk P w H h a (.ins C dx fs) from hok a _ e)
 exact ⟨mA,⟨ob,n,ne⟩,r,q,z,d⟩
end
structure Cls (K:W.Frag) (C:Addr):Prop where
 pg:W.plainGet K C Str.empty=true
 hd:W.hasDictIn K C=true
 po:W.plainOver K C=true
 sa:W.findIn K (.ref C) "__setattr__" = some (some (.builtin "object.__setattr__"))
theorem Cls.get {K:W.Frag} {C:Addr} (c:Cls K C) (f:Str):W.plainGet K C f=true:=c.pg
def NoAttr (K:W.Frag) (C:Addr) (f:Str):Prop:=W.findIn K (.ref C) f=some none
theorem NoAttr.taker {K:W.Frag} {C:Addr} {f:Str} (n:NoAttr K C f):W.takerIn K C f=some none:=by
 unfold W.takerIn
 rw [show W.findIn K (.ref C) f=some none from n]
 rfl
structure Con (K:W.Frag) (C:Addr) (f:Str) (v:V) (u:Value):Prop where
 at_:W.findIn K (.ref C) f=some (some u)
 rel:RelV v u
 get:W.specialIn K u "__get__" = some none
 cp:W.copiedNames.contains f=false
structure Meth (K:W.Frag) (C:Addr) (m:Str) (f:Addr):Prop where
 at_:W.findIn K (.ref C) m=some (some (.ref f))
 fn:W.isFn K (.ref f)=true
 kp:W.keepIn K (.ref f)=true
section
variable {X : Cx} {pins : List (Addr × Obj)} {σ : St} {H : Hp} {s : Shared} {a C dx : Addr} {fs : List (Str × V)} {f : Str} {v : V} {A : Around} {E : Value → Shared → Prop}
theorem getattr_ok {b:Bool} {Q:Value→Shared→Prop} (I:Inv X pins σ H s) (e:H a=some (.ins C dx fs)) (c:Cls X.K C) (n:NoAttr X.K C f) (l:fs.lookup f=some v)
  (h : ∀ u s',Inv X pins σ H s'→RelV v u→Q u s'):wpAny (model X.prog X.w) A (getAttr (.ref a) f b) Q E s:=by
 obtain ⟨mA,O,r,_,_,_⟩:=ins_get I.hok e
 obtain ⟨u,hu,ru⟩:=RelO.some_of (v:=v) (o:=mA f) (by rw [← l];exact r f)
 exact get_map I.kIn O (c.get f) c.hd n hu (handed_of ru) (h u _ (I.tok _) ru)
theorem getmeth_ok {m:Str} {g:Addr} {pl:Sem Bool} {Q:Value × List Value→Shared→Prop} (I:Inv X pins σ H s) (e:H a=some (.ins C dx fs)) (c:Cls X.K C) (k:Meth X.K C m g) (l:fs.lookup m=none)
  (h:Q (.ref g,[.ref a]) s):wpAny (model X.prog X.w) A (getMethod (.ref a) m pl) Q E s:=by
 obtain ⟨mA,O,r,_,_,_⟩:=ins_get I.hok e
 have hn:mA m=none:=RelO.none_of (by rw [← l];exact r m)
 exact get_meth I.kIn O (c.get m) k.at_ k.fn hn h
theorem setattr_ok {y:V} {u:Value} {Q:Unit→Shared→Prop} (I:Inv X pins σ H s) (e:H a=some (.ins C dx fs)) (c:Cls X.K C) (n:NoAttr X.K C f) (hl:fs.length < 1000) (ry:RelV y u)
  (h : ∀ s',Inv X pins σ (upd H a (.ins C dx (putF f y fs))) s'→Q () s'):wpAny (model X.prog X.w) A (setAttr (.ref a) f u) Q E s:=by
 obtain ⟨mA,O,r,wi,_,ho⟩:=ins_get I.hok e
 have hz:(fs.map (·.1)).length≤sizeLine:=by rw [List.length_map,sizeLine_eq];omega
 refine set_map I.kIn O c.sa c.po n.taker c.hd wi hz fun h' O' sb=>h _ ?_
 have hd : ∃ o,h'.get? dx=some o:=let ⟨o,_,_,e',_⟩:=O'.ns;⟨o,e'⟩
 refine I.write (x:=a) (e:=dx) (by rw [e];exact True.intro) (.inr ho) (fun b q hb z=>(sb.2 b hb).trans z) hd ?_
 refine ⟨by rw [upd_ne O.ne];exact ho,?_,O.ne,O'.obj,_,O'.ns,fun g=>?_,fun g hg=>?_⟩
 ·have:=length_putF f y fs;omega
 ·show RelO ((putF f y fs).lookup g) (if g=f then some u else mA g)
  rw [lookup_putF]
  by_cases q:g=f
  ·rw [if_pos q,if_pos q];exact ry
  ·rw [if_neg q,if_neg q];exact r g
 ·by_cases q:g=f
  ·rw [q];exact (keys_putF f y fs).1
  ·refine (keys_putF f y fs).2 g (wi g fun z=>hg ?_)
   show (if g=f then some u else mA g)=none
   rw [if_neg q];exact z
theorem Inv.made (I:Inv X pins σ H s):Inv X pins σ (upd (upd H s.heap.objs.size (.own (s.heap.objs.size+1))) (s.heap.objs.size+1) (.ins C s.heap.objs.size []))
  { s with heap:=(s.heap.push W.emptyDict).push (W.instObj C s.heap.objs.size) }:=by
 have e1:(s.heap.push W.emptyDict).get? s.heap.objs.size=some W.emptyDict:=Heap.get?_push_size s.heap rfl
 have e2:((s.heap.push W.emptyDict).push (W.instObj C s.heap.objs.size)).get? (s.heap.objs.size+1)=some (W.instObj C s.heap.objs.size):=by
  have:=Heap.get?_push_size (s.heap.push W.emptyDict) (o:=W.instObj C s.heap.objs.size) rfl
  rwa [Heap.size_push] at this
 have e3:(s.heap.push W.emptyDict).Ns s.heap.objs.size (fun _=>none):=⟨W.emptyDict,#[],_,e1,rfl,(fun e he=>absurd he (by simp)),fun _=>rfl⟩
 have I1:=I.laid (a:=s.heap.objs.size) (o:=.own (s.heap.objs.size+1)) (h':=s.heap.push W.emptyDict) (t':=s.toks) (fun b u q=>Heap.get?_push_of_some _ q) (Nat.le_refl _) ⟨_,e1⟩
 refine I1.laid (a:=s.heap.objs.size+1) (o:=.ins C s.heap.objs.size []) (t':=s.toks) (fun b u q=>Heap.get?_push_of_some _ q) (Nat.le_of_eq (Heap.size_push _ _)) ?_
 have ne:s.heap.objs.size≠s.heap.objs.size+1:=Nat.ne_of_lt (Nat.lt_succ_self _)
 refine ⟨by rw [upd_ne ne,upd_same],Nat.zero_le _,ne,e2,fun _=>none,(Heap.Ns1.of_empty e3).at fun o q=>Heap.get?_push_of_some _ q,fun _=>True.intro,fun y hy=>absurd rfl hy⟩
theorem attr_of {prog:Program} {w:World} {env:Env} {e:Expr} {f:Str} {pos:Pos} {s:Shared} {Q:Value→Shared→Prop} (hb:attributeBase e f env (eval e env)=eval e env)
  (h:wpAny (model prog w) A (eval e env) (fun o s₁=>wpAny (model prog w) A (getAttr o f true) Q E s₁) E s):wpAny (model prog w) A (eval (.Attribute e f pos) env) Q E s:=
 Attribute_any_ h (by rw [arm_eval_Attribute,hb])
end
def tFld (K:W.Frag) (ta:TE) (f:Str):TE:=fun σ H Q=>ta σ H fun x H1=>∃ a C dx fs v,x = .ref a∧H1 a=some (.ins C dx fs)∧Cls K C∧NoAttr K C f∧fs.lookup f=some v∧Q v H1
def sFld (K:W.Frag) (ta tv:TE) (f:Str):TS:=fun D σ H=>tv σ H fun y H1=>ta σ H1 fun x H2=>∃ a C dx fs,x = .ref a∧H2 a=some (.ins C dx fs)∧Cls K C∧NoAttr K C f∧fs.length < 1000 ∧
 D.nx σ (upd H2 a (.ins C dx (putF f y fs)))
section
variable {X : Cx} {o e value : Expr} {f : Str} {pos pos' tpos : Pos} {ta tv : TE}
theorem pe_fld (he:PE X e ta) (hb:attributeBase e f X.env (eval e X.env)=eval e X.env):PE X (.Attribute e f pos) (tFld X.K ta f):=by
 intro pins s σ H Q I h
 refine attr_of hb (thn (he pins s σ H _ I h) fun u s1 ⟨x,H1,I1,rx,a,C,dx,fs,v,ex,ea,c,n,l,q⟩=>?_)
 subst ex
 obtain rfl:u=Value.ref a:=rx
 exact getattr_ok I1 ea c n l fun u' s2 I2 ru=>⟨v,H1,I2,ru,q⟩
theorem ps_fld (ha:PE X o ta) (hv:PE X value tv) (hs:swapsWith value (some (.Attribute o f pos')) pos.line X.env=pure false):PS X (.Assign [.Attribute o f pos'] value pos) (sFld X.K ta tv f):=by
 intro pins s σ H D I h
 refine plainObj_wpAny_Assign_Attribute (thn (hv pins s σ H _ I h) fun u s1 ⟨y,H1,I1,ry,q⟩=>thn (ha pins s1 σ H1 _ I1 q) fun ov s2 ⟨x,H2,I2,rx,a,C,dx,fs,ex,ea,c,n,l,q2⟩=>?_) hs
 subst ex
 obtain rfl:ov=Value.ref a:=rx
 exact setattr_ok I2 ea c n l ry fun s3 I3=>⟨σ,_,I3,q2⟩
theorem methcall_of {pl:Sem Bool} {m:Str} {apos:Pos} {args:List Expr} {pins:List (Addr × Obj)} {s:Shared} {σ:St} {H:Hp} {Q:Value→Shared→Prop} {te:TE} (he:PE X e te) (I:Inv X pins σ H s)
  (h:te σ H fun x H1=>∃ a C dx fs g,x = .ref a∧H1 a=some (.ins C dx fs)∧Cls X.K C∧Meth X.K C m g∧fs.lookup m=none ∧
   ∀ s1,Inv X pins σ H1 s1→wpAny (model X.prog X.w) X.A (callWith pos (.ref g) [.ref a] (backTo pos (starEach args X.env)) (backToKw pos (keywordEach [] X.env))) Q X.xe s1)
  (ht:eval (.Call (.Attribute e m apos) args [] pos) X.env=(do
   let ov ← eval e X.env
   standAt apos.atName
   let (f,first) ← holding [ov] (getMethod ov m pl)
   callWith pos f first (backTo pos (starEach args X.env)) (backToKw pos (keywordEach [] X.env)))) :
  wpAny (model X.prog X.w) X.A (eval (.Call (.Attribute e m apos) args [] pos) X.env) Q X.xe s:=by
 refine W.methodCall_KW (pl:=pl) (thn (he pins s σ H _ I h) fun u s1 ⟨x,H1,I1,rx,a,C,dx,fs,g,ex,ea,c,k,l,q⟩=>?_) ht
 subst ex
 obtain rfl:u=Value.ref a:=rx
 exact getmeth_ok I1 ea c k l (q s1 I1)
end
section
variable {X : Cx} {pins : List (Addr × Obj)} {σ : St} {H : Hp} {s : Shared} {A : Around} {E : Value → Shared → Prop} {Q : Value → Shared → Prop} {c : Value} {b : Bool}
inductive TyOf (K:W.Frag) (H:Hp):V→Value→Prop where
 | non:TyOf K H .non (.type "NoneType")
 | bl (x:Bool):TyOf K H (.bl x) (.type "bool")
 | int (i:Int):TyOf K H (.int i) (.type "int")
 | str (x:Str):TyOf K H (.str x) (.type "str")
 | flt (x:UInt64):TyOf K H (.flt x) (.type "float")
 | lst {a:Addr} {xs:List V} (e:H a=some (.lst xs)):TyOf K H (.ref a) (.type "list")
 | frz {a:Addr} {o:Obj} {xs:List V} (e:H a=some (.frz o (.lst xs))):TyOf K H (.ref a) (.type "list")
 | tup {a:Addr} {xs:List V} (e:H a=some (.tup xs)):TyOf K H (.ref a) (.type "tuple")
 | dK {a:Addr} {kvs:List (Key × V)} (e:H a=some (.dK kvs)):TyOf K H (.ref a) (.type "dict")
 | dT {a:Addr} {kvs:List (List Key × V)} (e:H a=some (.dT kvs)):TyOf K H (.ref a) (.type "dict")
 | ins {a C dx:Addr} {fs:List (Str × V)} (e:H a=some (.ins C dx fs)) (cl:Cls K C) (ha:W.findIn K (.ref C) "__class__" = some (some (.builtin "object.__class__")))
   (hn:W.specialIn K (.builtin "object.__class__") "__get__" = some (some (.builtin "getset_descriptor.__get__"))) (htk:W.takesIn K (.builtin "object.__class__")=some true)
   (hm:W.mroIn K C (.type "object")=some true):TyOf K H (.ref a) (.ref C)
theorem isinst_ok {x : V} {u t : Value} (I : Inv X pins σ H s) (rx : RelV x u) (ty : TyOf X.K H x t) (e : W.kitOne X.K t c = some b) (h : ∀ tk, Q (.bool b) { s with toks := tk }) :
    wpAny (model X.prog X.w) A (call (.builtin "isinstance") [u, c]) Q E s := by
  cases ty with
  | non => cases (show u = Value.none from rx); exact W.kia_one W.kitx_none I.kIn True.intro e (fun z => nomatch z) h
  | bl y => cases (show u = Value.bool y from rx); exact W.kia_one W.kitx_bool I.kIn True.intro e (fun z => nomatch z) h
  | int i => obtain ⟨t, q⟩ := (show ∃ t, u = Value.int i t from rx); cases q; exact W.kia_one W.kitx_int I.kIn True.intro e (fun z => nomatch z) h
  | str y => obtain ⟨t, q⟩ := (show ∃ t, u = Value.str y t from rx); cases q; exact W.kia_one W.kitx_str I.kIn True.intro e (fun z => nomatch z) h
  | flt y => obtain ⟨t, q⟩ := (show ∃ t, u = Value.float y t from rx); cases q; exact W.kia_one W.kitx_float I.kIn True.intro e (fun z => nomatch z) h
  | @lst a xs ea =>
    cases (show u = Value.ref a from rx)
    obtain ⟨_, _, n, _, h1⟩ := (show ObjOk X.prog X.w H s.heap a (.lst xs) from I.hok a _ ea)
    exact W.kia_one W.kitx_list I.kIn ⟨_, h1, rfl⟩ e (fun z => nomatch z) h
  | @frz a ob xs ea =>
    cases (show u = Value.ref a from rx)
    obtain ⟨_, _, _, n, _, h1⟩ := (show ObjOk X.prog X.w H s.heap a (.frz ob (.lst xs)) from I.hok a _ ea)
    exact W.kia_one W.kitx_list I.kIn ⟨_, h1, rfl⟩ e (fun z => nomatch z) h
  | @tup a xs ea =>
    cases (show u = Value.ref a from rx)
    obtain ⟨_, _, _, p⟩ := (show ObjOk X.prog X.w H s.heap a (.tup xs) from I.hok a _ ea)
    obtain ⟨o, h1, h2, _⟩ := p
    exact W.kia_one W.kitx_tuple I.kIn ⟨o, h1, h2⟩ e (fun z => nomatch z) h
  | @dK a kvs ea =>
    cases (show u = Value.ref a from rx)
    obtain ⟨_, _, vs, _, p⟩ := (show ObjOk X.prog X.w H s.heap a (.dK kvs) from I.hok a _ ea)
    obtain ⟨o, es, ep, h1, h2, _⟩ := p
    exact W.kia_one W.kitx_dict I.kIn ⟨o, h1, h2.1⟩ e (fun z => nomatch z) h
  | @dT a kvs ea =>
    cases (show u = Value.ref a from rx)
    obtain ⟨_, _, xs, _, o, es, ep, h1, h2, _⟩ := (show ObjOk X.prog X.w H s.heap a (.dT kvs) from I.hok a _ ea)
    exact W.kia_one W.kitx_dict I.kIn ⟨o, h1, h2.1⟩ e (fun z => nomatch z) h
  | @ins a C dx fs ea cl ha hn htk hm =>
    cases (show u = Value.ref a from rx)
    obtain ⟨mA, O, _⟩ := ins_get I.hok ea
    obtain ⟨od, J, _⟩ := O.look
    exact W.kia_one (W.kitx_own (cl.get _) cl.hd ha hn htk hm) I.kIn J e (fun z => nomatch z) h
end
structure Room (k:Nat) (A:Around):Prop where
 hd:A.handled=none
 dp:A.depth+3*k+5 < recursionLimit
 un:A.units+16*k+200 < cLine
theorem Room.mono {j k:Nat} {A:Around} (r:Room k A) (h:j≤k):Room j A:=⟨r.hd,by have:=r.dp;omega,by have:=r.un;omega⟩
theorem Room.deeper {k:Nat} {A:Around} (r:Room (k+1) A) (env:Env):Room k (A.deeper env):=
 ⟨r.hd,by have:=r.dp;show A.depth+1+3*k+5 < _;omega,by have:=r.un;show A.units+3+16*k+200 < _;omega⟩
theorem Room.in1 {k:Nat} {A:Around} (r:Room (k+1) A):Room k A.in1:=
 ⟨r.hd,by have:=r.dp;show A.depth+3*k+5 < _;omega,by have:=r.un;show A.units+1+16*k+200 < _;omega⟩
theorem make_depth {A:Around} {C:Addr} {us:List Value} {kw:List (Str × Value)}:(A.under (.builtin "type.__call__" ⟨.ref C::us,kw⟩)).depth=A.depth+1:=by
 first | rfl | simp [Around.under,Code.weight,Code.isCreation,Code.isGuard,Code.isCaller,Code.frames,Code.isFrame,guardIds]
theorem make_units {A:Around} {C:Addr} {us:List Value} {kw:List (Str × Value)}:(A.under (.builtin "type.__call__" ⟨.ref C::us,kw⟩)).units=A.units+1:=by
 first | rfl | simp [Around.under,Code.cUnits,Code.frames,Code.isFrame]
theorem Room.make {k:Nat} {A:Around} (r:Room (k+1) A) (C:Addr) (us:List Value) (kw:List (Str × Value)):Room k (A.under (.builtin "type.__call__" ⟨.ref C::us,kw⟩)):=
 ⟨r.hd,by have:=r.dp;rw [make_depth];omega,by have:=r.un;rw [make_units];omega⟩
theorem Room.depth {k:Nat} {A:Around} (r:Room k A):A.depth < recursionLimit:=by have:=r.dp;omega
theorem Room.units {k:Nat} {A:Around} (r:Room k A):A.units+64 < cLine:=by have:=r.un;omega
def tNil:TA:=fun _ H Q=>Q [] H
def tCons (ta:TE) (tr:TA):TA:=fun σ H Q=>ta σ H fun x H1=>tr σ H1 fun xs H2=>Q (x::xs) H2
section
variable {X : Cx} {e : Expr} {es : List Expr} {te : TE} {t : TA} {pos : Pos}
theorem pa_nil:PA X [] tNil:=fun _ _ _ _ H Q I h=>Calls.spliced_nil ⟨[],H,I,.nil,h⟩
theorem pa_cons (ha:PE X e te) (hr:PA X es t) (hs:starEach (e::es) X.env=(false,eval e X.env)::starEach es X.env:=by rfl):PA X (e::es) (tCons te t):=by
 intro pos pins s σ H Q I h
 rw [hs]
 show wpAny _ _ (spliced ((false,eval e X.env)::backTo pos (starEach es X.env))) _ _ s
 refine Calls.spliced_cons (thn (ha pins s σ H _ I h) fun u s1 ⟨x,H1,I1,r1,q1⟩=>?_)
 exact thn (hr pos pins s1 σ H1 _ I1 q1) fun us s2 ⟨xs,H2,I2,r2,q2⟩=>⟨x::xs,H2,I2,.cons r1 r2,q2⟩
def tTup (t:TA):TE:=fun σ H Q=>t σ H fun xs H1=>xs.length≤sizeLine ∧ ∀ p,H1 p=none→Q (.ref p) (upd H1 p (.tup xs))
def tLst (t:TA):TE:=fun σ H Q=>t σ H fun xs H1=>xs.length≤sizeLine ∧ ∀ p,H1 p=none→Q (.ref p) (upd H1 p (.lst xs))
theorem pe_tup {x1} (h:PA X es t):PE X (.Tuple es x1 pos) (tTup t):=by
 intro pins s σ H Q I hq
 refine wpAny_Tuple_spliced (thn (h pos pins s σ H _ I hq) fun us s1 ⟨xs,H1,I1,r,z,q⟩=>⟨by rw [← r.length];exact z,?_⟩)
 have hf:H1 s1.heap.objs.size=none:=I1.hok.fresh (Nat.le_refl _)
 refine ⟨.ref s1.heap.objs.size,upd H1 s1.heap.objs.size (.tup xs),I1.laid (t':=s1.toks) (fun b u e=>Heap.get?_push_of_some _ e) (Nat.le_refl _) ?_,rfl,q _ hf⟩
 exact ⟨z,us,r,⟨_,Heap.get?_push_size _ rfl,rfl,_,rfl⟩⟩
theorem pe_lst (h:PA X es t):PE X (.List es pos) (tLst t):=by
 intro pins s σ H Q I hq
 refine wpAny_List_spliced (thn (h pos pins s σ H _ I hq) fun us s1 ⟨xs,H1,I1,r,z,q⟩=>⟨by rw [← r.length];exact z,?_⟩)
 have hf:H1 s1.heap.objs.size=none:=I1.hok.fresh (Nat.le_refl _)
 refine ⟨.ref s1.heap.objs.size,upd H1 s1.heap.objs.size (.lst xs),I1.laid (t':=s1.toks) (fun b u e=>Heap.get?_push_of_some _ e) (Nat.le_refl _) ?_,rfl,q _ hf⟩
 exact ⟨z,us,0,r,Heap.get?_push_size _ rfl⟩
end
abbrev Sp:=List V→Hp→VK→XK→Prop
abbrev CXT:=List Env→Hp→Shared→XK→Value→Shared→Prop
structure Env0 (P:Program) (w:World) (K:W.Frag) (mg:Str→Option Value) (base:Heap) (A:Around) (outer:List Env) (s:Shared) (H:Hp):Prop where
 frames:A.frames=some outer
 mod:Mod K mg base
 bs : ∀ b o,base.get? b=some o→s.heap.get? b=some o∧H b=none
 bsz:base.objs.size≤s.heap.objs.size
 funs:s.heap.FunFrames base outer
 frf : ∀ b ∈ frs outer,H b=none
 hok:HOk P w H s.heap
 bare:AllBare s.gens
def CE (outer:List Env) (P:Program) (w:World) (H:Hp) (s:Shared) (Q:VK) (u:Value) (s':Shared):Prop:=
 ∃ v H',s'.os=s.os∧AllBare s'.gens∧Un (frs outer) [] H H' s.heap s'.heap∧HOk P w H' s'.heap∧RelV v u∧Q v H'
def CR (CX:CXT) (outer:List Env) (P:Program) (w:World) (H:Hp) (s:Shared) (Q:VK) (E:XK) (r:Result) (s':Shared):Prop:=
 match r with
 | .ok (.ret u)=>CE outer P w H s Q u s'
 | .ok _=>False
 | .error e=>CX outer H s E e s'
structure FnOk (P:Program) (w:World) (K:W.Frag) (mg:Str→Option Value) (base:Heap) (CX:CXT) (k:Nat) (f:Addr) (fd:FuncData) (ps:List Str) (sp:Sp):Prop where
 len : ∀ vs H Q E,sp vs H Q E→vs.length=ps.length
 run : ∀ (A:Around) (outer:List Env) (s:Shared) (H:Hp) (args:Args) (us:List Value) (vs:List V) (Q:VK) (E:XK),Room k A→Env0 P w K mg base A outer s H→BindsTo s fd args (ps.zip us)→Vals vs us→sp vs H Q E →
  codeAny (model P w) A (.call (.ref f) args) (CR CX outer P w H s Q E) s
theorem FnOk.mono {P:Program} {w:World} {K:W.Frag} {mg:Str→Option Value} {base:Heap} {CX:CXT} {j k:Nat} {f:Addr} {fd:FuncData} {ps:List Str} {sp:Sp} (F:FnOk P w K mg base CX j f fd ps sp) (h:j≤k) :
  FnOk P w K mg base CX k f fd ps sp:=⟨F.len,fun A outer s H args us vs Q E hr=>F.run A outer s H args us vs Q E (hr.mono h)⟩
theorem FnOk.imp {P:Program} {w:World} {K:W.Frag} {mg:Str→Option Value} {base:Heap} {CX:CXT} {k:Nat} {f:Addr} {fd:FuncData} {ps:List Str} {sp sp':Sp} (F:FnOk P w K mg base CX k f fd ps sp)
  (h : ∀ vs H Q E,sp' vs H Q E→sp vs H Q E):FnOk P w K mg base CX k f fd ps sp':=
 ⟨fun vs H Q E q=>F.len vs H Q E (h _ _ _ _ q),fun A outer s H args us vs Q E hr he hb hv hs=>F.run A outer s H args us vs Q E hr he hb hv (h _ _ _ _ hs)⟩
theorem Env0.make {P:Program} {w:World} {K:W.Frag} {mg:Str→Option Value} {base:Heap} {A:Around} {outer:List Env} {s:Shared} {H:Hp} (e:Env0 P w K mg base A outer s H) (C:Addr) (us:List Value) (kw:List (Str × Value)) :
  Env0 P w K mg base (A.under (.builtin "type.__call__" ⟨.ref C::us,kw⟩)) outer s H:=⟨by first | exact e.frames | (simpa [Around.under,Code.envs,Code.isFrame,pushEnvs] using e.frames),e.mod,e.bs,e.bsz,e.funs,e.frf,e.hok,e.bare⟩
theorem Env0.in1 {P:Program} {w:World} {K:W.Frag} {mg:Str→Option Value} {base:Heap} {A:Around} {outer:List Env} {s:Shared} {H:Hp} (e:Env0 P w K mg base A outer s H) :
  Env0 P w K mg base A.in1 outer s H:=⟨e.frames,e.mod,e.bs,e.bsz,e.funs,e.frf,e.hok,e.bare⟩
section
variable {X : Cx} {pins : List (Addr × Obj)} {σ : St} {H : Hp} {s s' : Shared}
theorem Inv.env0 (I:Inv X pins σ H s):Env0 X.prog X.w X.K X.mg X.base X.A X.stack s H:=
 ⟨I.ok.frames,I.ok.mod,I.bs,Nat.le_trans I.ok.bsz I.sz,I.stack,I.stkFree,I.hok,I.bare⟩
theorem Inv.after {Q:VK} {u:Value} (I:Inv X pins σ H s) (h:CE X.stack X.prog X.w H s Q u s'):EP X pins σ Q u s':=by
 obtain ⟨v,H',os,bare,un,hok,r,q⟩:=h
 obtain ⟨hh,g,d,t,os'⟩:=s'
 obtain rfl:os'=s.os:=os
 exact ⟨v,H',I.call (h':=hh) (g':=g) (d':=d) (t':=t) (ch:=[]) un hok bare (fun b z=>absurd z (by simp)),r,q⟩
end
def tCall (sp:Sp) (dvs:List V) (E:XK) (t:TA):TE:=fun σ H Q=>t σ H fun vs H1=>sp (vs++dvs) H1 Q E
def tMeth (C:Addr) (m:Str) (sp:Sp) (dvs:List V) (E:XK) (ta:TE) (t:TA):TE:=fun σ H Q=>ta σ H fun x H1=>∃ a dx fs,x = .ref a∧H1 a=some (.ins C dx fs)∧fs.lookup m=none ∧
 t σ H1 fun vs H2=>sp (x::(vs++dvs)) H2 Q E
def tMake (C:Addr) (sp:Sp) (dvs:List V) (E:XK) (t:TA):TE:=fun σ H Q=>t σ H fun vs H1=>∀ x dx,H1 x=none→H1 dx=none→dx≠x →
 sp (.ref x::(vs++dvs)) (upd (upd H1 dx (.own x)) x (.ins C dx [])) (fun v H2=>v = .non∧Q (.ref x) H2) E
def Binds (K:W.Frag) (fd:FuncData) (ps:List Str) (ds:List Value):Prop:=
 ∀ (s:Shared) (us:List Value),K.In s.heap→(us++ds).length=ps.length→BindsTo s fd ⟨us,[]⟩ (ps.zip (us++ds))
theorem Binds.all {K:W.Frag} {fd:FuncData} {ps:List Str} (h : ∀ us:List Value,us.length=ps.length→bindArgs fd ⟨us,[]⟩=pure (ps.zip us)):Binds K fd ps []:=fun s us _ hl=>by
 rw [List.append_nil] at hl ⊢
 exact .of_eq (h us hl)
def Passes (CX:CXT) (X:Cx) (E:XK):Prop:=∀ (pins:List (Addr × Obj)) (σ:St) (H:Hp) (s:Shared) (e:Value) (s':Shared),Inv X pins σ H s→CX X.stack H s E e s'→X.xe e s'
section
variable {X : Cx} {CX : CXT} {k : Nat} {f C : Addr} {fd : FuncData} {ps : List Str} {sp : Sp} {dvs : List V} {ds : List Value} {E : XK} {x m : Str} {p pos apos : Pos} {e o : Expr} {es : List Expr} {ta : TE} {t : TA}
theorem run_fn {pins : List (Addr × Obj)} {σ : St} {H : Hp} {s : Shared} {Q : VK} {us : List Value} {vs : List V} (F : FnOk X.prog X.w X.K X.mg X.base CX k f fd ps sp) (hr : Room k X.A) (hb : Binds X.K fd ps ds) (hd : Vals dvs ds) (hx : Passes CX X E)
    (I : Inv X pins σ H s) (r : Vals vs us) (h : sp (vs ++ dvs) H Q E) : wpAny (model X.prog X.w) X.A (call (.ref f) us) (EP X pins σ Q) X.xe s := by
  have r2 : Vals (vs ++ dvs) (us ++ ds) := r.append hd
  have hl : (us ++ ds).length = ps.length := by rw [← r2.length]; exact F.len _ _ _ _ h
  refine wpAny_call (codeAny_mono (F.run X.A X.stack s H ⟨us, []⟩ (us ++ ds) (vs ++ dvs) Q E hr I.env0 (hb s us I.kIn hl) r2 h) fun r s' hq => ?_)
  cases r with
  | error e => exact hx pins σ H s e s' I hq
  | ok fl =>
    cases fl with
    | ret u => exact I.after hq
    | next => exact False.elim hq
    | brk => exact False.elim hq
    | cont => exact False.elim hq
theorem pe_call (F:FnOk X.prog X.w X.K X.mg X.base CX k f fd ps sp) (hr:Room k X.A) (hg:Gl X x) (hm:X.mg x=some (.ref f)) (hk:W.keepIn X.K (.ref f)=true) (hb:Binds X.K fd ps ds) (hd:Vals dvs ds) (hx:Passes CX X E)
  (ha:PA X (e::es) t) (hdb:(x == ("__debug__" : Str))=false:=by decide) (he:starEach (e::es) X.env=(false,eval e X.env)::starEach es X.env:=by rfl) (hpl:(backTo pos (starEach es X.env)).any (·.1)=false:=by rfl) :
  PE X (.Call (.Name x p) (e::es) [] pos) (tCall sp dvs E t):=by
 intro pins s σ H Q I h
 refine wpAny_Call_Name_kw (ld_glob I hg hm ?_ hdb)
 refine W.callWith_K (h₀:=X.base) I.ok.mod.kin hk (thn (ha pos pins s σ H _ I h) fun us s1 ⟨vs,H1,I1,r,q⟩=>⟨I1.kIn,?_⟩) he hpl
 exact run_fn F hr hb hd hx I1 r q
theorem pe_call0 (F:FnOk X.prog X.w X.K X.mg X.base CX k f fd ps sp) (hr:Room k X.A) (hg:Gl X x) (hm:X.mg x=some (.ref f)) (hk:W.keepIn X.K (.ref f)=true) (hb:Binds X.K fd ps ds) (hd:Vals dvs ds) (hx:Passes CX X E)
  (hdb:(x == ("__debug__" : Str))=false:=by decide):PE X (.Call (.Name x p) [] [] pos) (tCall sp dvs E tNil):=by
 intro pins s σ H Q I h
 refine wpAny_Call_Name_kw (ld_glob I hg hm ?_ hdb)
 exact W.callWith_K0 I.kIn hk (run_fn (us:=[]) F hr hb hd hx I .nil h)
theorem pe_meth {pl:Sem Bool} (he:PE X o ta) (c:Cls X.K C) (hm:Meth X.K C m f) (F:FnOk X.prog X.w X.K X.mg X.base CX k f fd ps sp) (hr:Room k X.A) (hb:Binds X.K fd ps ds) (hd:Vals dvs ds) (hx:Passes CX X E) (ha:PA X (e::es) t)
  (hst:starEach (e::es) X.env=(false,eval e X.env)::starEach es X.env:=by rfl) (hpl:(backTo pos (starEach es X.env)).any (·.1)=false:=by rfl)
  (ht:eval (.Call (.Attribute o m apos) (e::es) [] pos) X.env=(do
   let ov ← eval o X.env
   standAt apos.atName
   let (f,first) ← holding [ov] (getMethod ov m pl)
   callWith pos f first (backTo pos (starEach (e::es) X.env)) (backToKw pos (keywordEach [] X.env))):=by rfl) :
  PE X (.Call (.Attribute o m apos) (e::es) [] pos) (tMeth C m sp dvs E ta t):=by
 intro pins s σ H Q I h
 refine W.methodCall_KW (pl:=pl) (thn (he pins s σ H _ I h) fun u s1 ⟨x,H1,I1,rx,a,dx,fs,ex,ea,l,q⟩=>?_) ht
 subst ex
 obtain rfl:u=Value.ref a:=rx
 refine getmeth_ok I1 ea c hm l ?_
 refine W.callWith_K (first:=[.ref a]) (h₀:=X.base) I.ok.mod.kin hm.kp (thn (ha pos pins s1 σ H1 _ I1 q) fun us s2 ⟨vs,H2,I2,r,q2⟩=>⟨I2.kIn,?_⟩) hst hpl
 exact run_fn (us:=.ref a::us) (vs:=.ref a::vs) F hr hb hd hx I2 (.cons rfl r) q2
structure Mk (K:W.Frag) (C f:Addr):Prop where
 makes:W.makesIn K C=true
 init:W.findIn K (.ref C) "__init__" = some (some (.ref f))
 fn:W.isFn K (.ref f)=true
 kp:W.keepIn K (.ref C)=true
theorem run_make {pins : List (Addr × Obj)} {σ : St} {H : Hp} {s : Shared} {Q : VK} {us : List Value} {vs : List V} (M : Mk X.K C f) (F : FnOk X.prog X.w X.K X.mg X.base CX k f fd ps sp) (hr : Room (k + 1) X.A) (hb : Binds X.K fd ps ds) (hd : Vals dvs ds)
    (hx : Passes CX X E) (I : Inv X pins σ H s) (r : Vals vs us)
    (h : ∀ x dx, H x = none → H dx = none → dx ≠ x → sp (.ref x :: (vs ++ dvs)) (upd (upd H dx (.own x)) x (.ins C dx [])) (fun v H2 => v = .non ∧ Q (.ref x) H2) E) :
    wpAny (model X.prog X.w) X.A (call (.ref C) us) (EP X pins σ Q) X.xe s := by
  have hq := h (s.heap.objs.size + 1) s.heap.objs.size (I.hok.fresh (Nat.le_succ _)) (I.hok.fresh (Nat.le_refl _)) (Nat.ne_of_lt (Nat.lt_succ_self _))
  have I2 := Inv.made (C := C) I
  have r2 : Vals (V.ref (s.heap.objs.size + 1) :: (vs ++ dvs)) (Value.ref (s.heap.objs.size + 1) :: (us ++ ds)) := .cons rfl (r.append hd)
  have hl : (Value.ref (s.heap.objs.size + 1) :: us ++ ds).length = ps.length := by
    have e := r2.length
    rw [F.len _ _ _ _ hq] at e
    exact e.symm
  refine wpAny_call (make_map (f := f) I.kIn M.makes M.init (beq_iff_eq.mp M.fn) (codeAny_mono (F.run _ X.stack _ _ ⟨Value.ref (s.heap.objs.size + 1) :: us, []⟩ (Value.ref (s.heap.objs.size + 1) :: (us ++ ds)) _ _ E (hr.make C us [])
    (I2.env0.make C us []) (hb _ (Value.ref (s.heap.objs.size + 1) :: us) I2.kIn hl) r2 hq) fun r s' hq' => ?_))
  cases r with
  | error e => exact hx pins σ _ _ e s' I2 hq'
  | ok fl =>
    cases fl with
    | ret u =>
      obtain ⟨v, H', I3, rv, ev, q3⟩ := I2.after hq'
      subst ev
      exact ⟨rv, ⟨V.ref (s.heap.objs.size + 1), H', I3, rfl, q3⟩⟩
    | next => exact False.elim hq'
    | brk => exact False.elim hq'
    | cont => exact False.elim hq'
theorem pe_make (M:Mk X.K C f) (F:FnOk X.prog X.w X.K X.mg X.base CX k f fd ps sp) (hr:Room (k+1) X.A) (hg:Gl X x) (hm:X.mg x=some (.ref C)) (hb:Binds X.K fd ps ds) (hd:Vals dvs ds) (hx:Passes CX X E)
  (ha:PA X (e::es) t) (hdb:(x == ("__debug__" : Str))=false:=by decide) (he:starEach (e::es) X.env=(false,eval e X.env)::starEach es X.env:=by rfl) (hpl:(backTo pos (starEach es X.env)).any (·.1)=false:=by rfl) :
  PE X (.Call (.Name x p) (e::es) [] pos) (tMake C sp dvs E t):=by
 intro pins s σ H Q I h
 refine wpAny_Call_Name_kw (ld_glob I hg hm ?_ hdb)
 refine W.callWith_K (h₀:=X.base) I.ok.mod.kin M.kp (thn (ha pos pins s σ H _ I h) fun us s1 ⟨vs,H1,I1,r,q⟩=>⟨I1.kIn,?_⟩) he hpl
 exact run_make M F hr hb hd hx I1 r q
end
section
variable {X : Cx} {CX : CXT} {k : Nat} {f C : Addr} {fd : FuncData} {ps ks : List Str} {sp : Sp} {E : XK} {x m : Str} {p pos apos kpos : Pos} {e o : Expr} {es : List Expr} {kws : List Keyword} {te ta : TE} {t tk : TA} {nm : Option Str}
structure KBinds (K:W.Frag) (fd:FuncData) (ps ks:List Str) (g:List Value→List Value→List Value) (gV:List V→List V→List V):Prop where
 to : ∀ (s:Shared) (us ws:List Value),K.In s.heap→(g us ws).length=ps.length→BindsTo s fd ⟨us,ks.zip ws⟩ (ps.zip (g us ws))
 rel : ∀ {vs:List V} {us:List Value} {zs:List V} {ws:List Value},Vals vs us→Vals zs ws→Vals (gV vs zs) (g us ws)
variable {g : List Value → List Value → List Value} {gV : List V → List V → List V}
end
structure FnScope (N P:List Str) (sc:Scope):Prop where
 kind:sc.kind = .function
 co:sc.isCoroutine=false
 gen:sc.isGenerator=false
 nd:N.Nodup
 pre:N.take P.length=P
 par : ∀ x ∈ P,sc.names.lookup x=some .local∨sc.names.lookup x=some .cell
 nofree : ∀ y ∈ sc.names,y.2 ≠ .free
theorem bindL_out {kindOf : Str → Option NameKind} {x : Str} : ∀ {binds : List (Str × Value)} {m : Str → Option Value}, (∀ v, (x, v) ∉ binds) → bindL kindOf binds m x = m x
  | [], _, _ => rfl
  | (n, v) :: r, m, h => by
    unfold bindL
    rw [bindL_out fun w hw => h w (List.mem_cons_of_mem _ hw)]
    split
    · have : x ≠ n := by rintro rfl; exact h v List.mem_cons_self
      simp [this]
    · rfl
theorem bindC_out {kindOf : Str → Option NameKind} {x : Str} : ∀ {binds : List (Str × Value)} {m : Str → Option Value}, (∀ v, (x, v) ∉ binds) → bindC kindOf binds m x = m x
  | [], _, _ => rfl
  | (n, v) :: r, m, h => by
    unfold bindC
    rw [bindC_out fun w hw => h w (List.mem_cons_of_mem _ hw)]
    split
    · rfl
    · have : x ≠ n := by rintro rfl; exact h v List.mem_cons_self
      simp [this]
theorem bindL_get {kindOf : Str → Option NameKind} {x : Str} {v : Value} : ∀ {P : List Str} {vs : List Value} {i : Nat} {m : Str → Option Value}, P.Nodup → P[i]? = some x → vs[i]? = some v → kindOf x = some .local →
    bindL kindOf (P.zip vs) m x = some v
  | [], _, _, _, _, h, _, _ => by simp at h
  | _ :: _, [], _, _, _, _, h, _ => by simp at h
  | p :: P, w :: vs, 0, m, nd, h1, h2, hk => by
    simp at h1 h2; subst h1; subst h2
    show bindL kindOf ((p, w) :: P.zip vs) m p = _
    unfold bindL
    rw [bindL_out fun v hv => (List.nodup_cons.mp nd).1 (List.of_mem_zip hv).1, if_pos hk]
    simp
  | p :: P, w :: vs, i + 1, m, nd, h1, h2, hk => by
    show bindL kindOf ((p, w) :: P.zip vs) m x = _
    unfold bindL
    exact bindL_get (i := i) (List.nodup_cons.mp nd).2 (by simpa using h1) (by simpa using h2) hk
theorem bindC_get {kindOf : Str → Option NameKind} {x : Str} {v : Value} : ∀ {P : List Str} {vs : List Value} {i : Nat} {m : Str → Option Value}, P.Nodup → P[i]? = some x → vs[i]? = some v → kindOf x ≠ some .local →
    bindC kindOf (P.zip vs) m x = some v
  | [], _, _, _, _, h, _, _ => by simp at h
  | _ :: _, [], _, _, _, _, h, _ => by simp at h
  | p :: P, w :: vs, 0, m, nd, h1, h2, hk => by
    simp at h1 h2; subst h1; subst h2
    show bindC kindOf ((p, w) :: P.zip vs) m p = _
    unfold bindC
    rw [bindC_out fun v hv => (List.nodup_cons.mp nd).1 (List.of_mem_zip hv).1, if_neg hk]
    simp
  | p :: P, w :: vs, i + 1, m, nd, h1, h2, hk => by
    show bindC kindOf ((p, w) :: P.zip vs) m x = _
    unfold bindC
    exact bindC_get (i := i) (List.nodup_cons.mp nd).2 (by simpa using h1) (by simpa using h2) hk
def start (N:List Str) (vs:List V):St:=vs.map some++List.replicate (N.length - vs.length) none
def cxOf (CX:CXT) (P:Program) (w:World) (K:W.Frag) (mg:Str→Option Value) (base:Heap) (N:List Str) (qual:Str) (scope:Scope) (f:Addr) (cd:Value) (A:Around) (outer:List Env) (s:Shared) (H:Hp) (E:XK):Cx where
 prog:=P
 w:=w
 K:=K
 mg:=mg
 base:=base
 A:=A.deeper (envOfC qual scope s.heap.objs.size f cd)
 N:=N
 s₀:=s
 H₀:=H
 env:=envOfC qual scope s.heap.objs.size f cd
 outer:=outer
 stack:=envOfC qual scope s.heap.objs.size f cd::outer
 ex:=[]
 calm:=true
 fn:=fun _=>true
 pn:=[]
 xe:=fun e s'=>wpAny (model P w) (A.deeper (envOfC qual scope s.heap.objs.size f cd)) (leaving (envOfC qual scope s.heap.objs.size f cd) e) (fun _ s''=>CX outer H s E e s'') (fun e' s''=>CX outer H s E e' s'') s'
theorem cell_has {sc:Scope} {n:Nat} {x:Str} (h:sc.names.lookup x=some .cell) : ∃ c,(cellsFrom n sc.names []).lookup x=some c:=by
 have q:=W.cellsFrom_some sc.names n [] (.inl h)
 exact Option.isSome_iff_exists.mp q
theorem inv_start {CX:CXT} {P:Program} {w:World} {K:W.Frag} {mg:Str→Option Value} {base:Heap} {N ps:List Str} {qual:Str} {scope:Scope} {f:Addr} {cd:Value} {A:Around} {outer:List Env} {s s1:Shared} {H:Hp} {E:XK} {us:List Value} {vs:List V}
  (S:FnScope N ps scope) (hd:A.handled=none) (e0:Env0 P w K mg base A outer s H) (hl:vs.length=ps.length) (r:Vals vs us)
  (x:InCallC s s.heap.objs.size (bindL (envOfC qual scope s.heap.objs.size f cd).kindOf (ps.zip us) fun _=>none) (cellsFrom (s.heap.objs.size+1) scope.names []) (bindC (envOfC qual scope s.heap.objs.size f cd).kindOf (ps.zip us) fun _=>none) s1) :
  Inv (cxOf CX P w K mg base N qual scope f cd A outer s H E) [] (start N vs) H s1:=by
 have hpl:ps.length≤N.length:=by have:=congrArg List.length S.pre;rw [List.length_take] at this;omega
 obtain ⟨h1,tk,rfl,hk⟩:=x.done
 have noA : ∀ b:Addr,b ∉ (cxOf CX P w K mg base N qual scope f cd A outer s H E).ex:=fun b z=>absurd (show b ∈ ([]:List Addr) from z) (by simp)
 refine ⟨⟨e0.mod,S.kind,rfl,rfl,Nat.le_refl _,fun y z c h1 h2=>?_,fun y hy=>?_,fun y c _ h=>?_,fun _=>hd,Around.frames_deeper e0.frames,.inr ⟨rfl,rfl⟩,fun b z=>absurd z (noA b),e0.bs,e0.bsz,fun b _ _=>noA b,fun b z=>absurd z (noA b),e0.funs,e0.frf⟩,
  rfl,e0.bare,Un.kept hk,⟨_,x.toInCall.ns,fun i y v h1 h2 h3=>?_⟩,fun y c h=>⟨_,x.cell y c h⟩,e0.hok.fresh (Nat.le_refl _),fun y c h=>?_,fun p hp=>absurd (show p ∈ ([]:List (Addr × Obj)) from hp) (by simp),e0.hok.kept hk,?_⟩
 ·exact name_of_addr x.apart (PySem.mem_of_lookup h1) (PySem.mem_of_lookup h2)
 ·have hy:scope.names.lookup y=some .cell∨scope.names.lookup y=some .free:=hy
  rcases hy with hy | hy
  ·exact cell_has hy
  ·exact absurd rfl (S.nofree _ (PySem.mem_of_lookup hy))
 ·exact Nat.le_of_lt (x.above y c (PySem.mem_of_lookup h))
 ·have hi:i < vs.length:=by
   unfold start at h2
   by_cases hi:i < vs.length
   ·exact hi
   ·rw [List.getElem?_append_right (by simpa using hi)] at h2
    rw [List.getElem?_replicate] at h2
    split at h2 <;> cases h2
  have ha:vs[i]? = some v:=by
   unfold start at h2
   rw [List.getElem?_append_left (by simpa using hi),List.getElem?_map] at h2
   cases e:vs[i]? with
   | none=>rw [e] at h2;cases h2
   | some a=>rw [e] at h2;cases h2;rfl
  obtain ⟨u,hu,rv⟩:=r.get ha
  have hp:ps[i]? = some y:=by
   rw [← S.pre,List.getElem?_take_of_lt (by omega)];exact h1
  have ndP:ps.Nodup:=by rw [← S.pre];exact S.nd.sublist (List.take_sublist _ _)
  refine ⟨u,rv,?_⟩
  rcases S.par y (List.mem_of_getElem? hp) with k | k
  ·exact .inl ⟨k,bindL_get ndP hp hu k⟩
  ·obtain ⟨c,e⟩:=cell_has (n:=s.heap.objs.size+1) k
   refine .inr ⟨.inl k,c,e,?_⟩
   have q:=x.cell y c e
   rw [bindC_get ndP hp hu (by show scope.names.lookup y≠_;rw [k];decide)] at q
   exact q
 ·exact e0.hok.fresh (Nat.le_of_lt (x.above y c (PySem.mem_of_lookup h)))
 ·unfold start
  show _=N.length
  rw [List.length_append,List.length_map,List.length_replicate]
  omega
theorem fn_of {CX : CXT} {P : Program} {w : World} {K : W.Frag} {mg : Str → Option Value} {base : Heap} {k : Nat} {f : Addr} {name qual : Str} {params : Arguments} {body : List Stmt} {scope : Scope} {dV kV doc pm cdv ct oc : Value} {an od : Option Addr}
    {osl : Array (Option Value)} {N ps : List Str} {sp : Sp} (lk : K.lookup f = some ⟨oc, od, .func (W.fnOf name qual params body scope dV kV doc pm an cdv ct), osl⟩) (hcd : W.codeIn K cdv qual = true) (S : FnScope N ps scope)
    (len : ∀ vs H Q E, sp vs H Q E → vs.length = ps.length)
    (hbody : ∀ (A : Around) (outer : List Env) (s : Shared) (H : Hp) (vs : List V) (Q : VK) (E : XK), Room k (A.deeper (envOfC qual scope s.heap.objs.size f cdv)) → sp vs H Q E →
      ∃ t, PSs (cxOf CX P w K mg base N qual scope f cdv A outer s H E) body t ∧ t { nx := fun _ H' => Q .non H', rt := Q } (start N vs) H) :
    FnOk P w K mg base CX (k + 1) f (W.fnOf name qual params body scope dV kV doc pm an cdv ct) ps sp := by
  refine ⟨len, fun A outer s H args us vs Q E hr e0 hb r hsp => ?_⟩
  have hl := len _ _ _ _ hsp
  have KX : K.In s.heap := e0.mod.kin.keeps fun b o e => (e0.bs b o e).1
  have lim : s.heap.NoLimit := e0.mod.nolimit.keeps fun b o e => (e0.bs b o e).1
  have hkind : ∀ y ∈ ps.zip us, scope.names.lookup y.1 = some .local ∨ (scope.names.lookup y.1 = some .cell ∧ ((cellsFrom (s.heap.objs.size + 1) scope.names []).lookup y.1).isSome = true) := fun ⟨n, v⟩ hy => by
    rcases S.par n (List.of_mem_zip hy).1 with q | q
    · exact .inl q
    · exact .inr ⟨q, W.cellsFrom_some _ _ _ (.inl q)⟩
  refine codeAny_call_function hr.depth (KX _ _ lk) rfl S.co S.gen rfl (W.codeRec_of KX hcd) (hb _ _ _ _ ?_)
  refine wpAny_newFunctionEnv_cells S.kind hkind fun env he s1 x => ?_
  subst he
  refine ⟨lim.keeps x.toInCall.keep, codeAny_func ?_⟩
  obtain ⟨t, ht, hq⟩ := hbody A outer s H vs Q E (hr.deeper _) hsp
  have I : Inv (cxOf CX P w K mg base N qual scope f cdv A outer s H E) [] (start N vs) H s1 := inv_start S hr.hd e0 hl r x
  refine wpAny_mono (ht [] s1 (start N vs) H _ I hq) (fun fl s' hs => ?_) fun e s' hs => hs
  have fin : ∀ {σ' : St} {H' : Hp} {v : V} {u : Value}, Inv (cxOf CX P w K mg base N qual scope f cdv A outer s H E) [] σ' H' s' → RelV v u → Q v H' → CE outer P w H s Q u s' :=
    fun {σ' H' v u} J rv q => ⟨v, H', J.os, J.bare, J.base, J.hok, rv, q⟩
  cases fl with
  | ret u =>
    obtain ⟨v, σ', H', J, rv, q⟩ := hs
    exact fin J rv q
  | next =>
    obtain ⟨σ', H', J, q⟩ := hs
    exact fin (v := V.non) (u := Value.none) J rfl q
  | brk =>
    obtain ⟨_, _, _, q⟩ := hs
    exact False.elim q
  | cont =>
    obtain ⟨_, _, _, q⟩ := hs
    exact False.elim q
section
variable {X : Cx} {x : Str} {p pos : Pos} {e : Expr} {es : List Expr} {t : TA} {id T : String} {r : List V → Hp → VK → Prop}
def tCB (r:List V→Hp→VK→Prop) (t:TA):TE:=fun σ H Q=>t σ H fun vs H1=>r vs H1 Q
theorem pe_callB (hc:CallR X (.builtin id) r) (hg:Gl X x) (hm:X.mg x=none) (hv:bootBuiltins x=some (.builtin id)) (ha:PA X (e::es) t) (hn:x ≠ "__name__" := by decide) (hdb:(x == ("__debug__" : Str))=false:=by decide)
  (he:starEach (e::es) X.env=(false,eval e X.env)::starEach es X.env:=by rfl) (hpl:(backTo pos (starEach es X.env)).any (·.1)=false:=by rfl):PE X (.Call (.Name x p) (e::es) [] pos) (tCB r t):=by
 intro pins s σ H Q I h
 refine wpAny_Call_Name_kw (ld_blt I hg hm hv ?_ hn hdb)
 exact PyProof.Rows.callWith_builtin1 (thn (ha pos pins s σ H _ I h) fun us s1 ⟨vs,H1,I1,r1,q1⟩=>hc pins s1 σ H1 vs us Q I1 r1 q1) he hpl
theorem pe_callTy (hc:CallR X (.type T) r) (hg:Gl X x) (hm:X.mg x=none) (hv:bootBuiltins x=some (.type T)) (ha:PA X (e::es) t) (hn:x ≠ "__name__" := by decide) (hdb:(x == ("__debug__" : Str))=false:=by decide)
  (he:starEach (e::es) X.env=(false,eval e X.env)::starEach es X.env:=by rfl) (hpl:(backTo pos (starEach es X.env)).any (·.1)=false:=by rfl):PE X (.Call (.Name x p) (e::es) [] pos) (tCB r t):=by
 intro pins s σ H Q I h
 refine wpAny_Call_Name_kw (ld_blt I hg hm hv ?_ hn hdb)
 exact PyProof.Rows.callWith_type1 (thn (ha pos pins s σ H _ I h) fun us s1 ⟨vs,H1,I1,r1,q1⟩=>hc pins s1 σ H1 vs us Q I1 r1 q1) he hpl
end
end L2
namespace HT
open PySem PyProof.Rows
section
open PySem.SeqAt
open PySem.AutoSeq1 (wpAny_loadPart')
open PySem.MeetsSeq PySem.MeetsSeq2 PySem.MeetsSeq3
end
section
variable {prog : Program} {w : World} {A : Around} {E : Value → Shared → Prop} {s : Shared}
def sIx (n d:Nat):Option Int→Nat
 | none=>d
 | some v=>if v < 0 then (v+(n:Int)).toNat else min v.toNat n
theorem sIx_none (n d:Nat):sIx n d none=d:=rfl
theorem sIx_le (n d : Nat) (hd : d ≤ n) (o : Option Int) : sIx n d o ≤ n := by
  cases o with
  | none => exact hd
  | some v =>
    show (if v < 0 then (v + (n : Int)).toNat else min v.toNat n) ≤ n
    by_cases hv : v < 0
    · rw [if_pos hv]; omega
    · rw [if_neg hv]; exact Nat.min_le_right _ _
theorem clip_eq (v:Int) (n d:Nat):(if v < 0 then max (v+(n:Int)) 0 else min v (n:Int))=((sIx n d (some v):Nat):Int):=by
 show (if v < 0 then max (v+(n:Int)) 0 else min v (n:Int))=(((if v < 0 then (v+(n:Int)).toNat else min v.toNat n):Nat):Int)
 by_cases hv:v < 0
 ·simp only [if_pos hv];omega
 ·simp only [if_neg hv];omega
theorem adjust_gen (lo hi:Option Int) (n:Nat):Builtin.Slice.sliceAdjust lo hi 1 (n:Int)=(((sIx n 0 lo:Nat):Int),((sIx n n hi:Nat):Int)):=by
 have h1 : ¬ ((1:Int) < 0):=by omega
 unfold Builtin.Slice.sliceAdjust
 simp only [h1,if_false]
 refine Prod.ext ?_ ?_
 ·cases lo with
  | none=>rfl
  | some v=>exact clip_eq v n 0
 ·cases hi with
  | none=>rfl
  | some v=>exact clip_eq v n n
theorem places_gen (i j:Nat):Builtin.Slice.slicePlaces (i:Int) (j:Int) 1=j - i:=by
 unfold Builtin.Slice.slicePlaces
 have h1:(1:Int) > 0:=by omega
 simp only [h1,if_true,Int.ediv_one]
 split <;> omega
theorem slicePart_ {v:Value} {o:Option Int} {Q:Option Int→Shared→Prop} (p:IsPart v o) (h:Q o s):wpAny (model prog w) A (Builtin.Slice.slicePartIndex v) Q E s:=by
 cases p with
 | none=>exact slicePart_none h
 | int i t=>exact slicePart_int h
theorem sliceApplied_gen {sl:Addr} {vl vu:Value} {lo hi:Option Int} {n:Nat} {Q:Int × Int × Nat→Shared→Prop} (hs:s.heap.IsSliceOf sl vl vu .none) (pl:IsPart vl lo) (pu:IsPart vu hi)
  (h:Q (((sIx n 0 lo:Nat):Int),1,sIx n n hi - sIx n 0 lo) s):wpAny (model prog w) A (Builtin.Slice.sliceApplied (.ref sl) (pure (n:Int))) Q E s:=by
 obtain ⟨os,hos,hcs,hds⟩:=id hs
 unfold Builtin.Slice.sliceApplied Builtin.Slice.sliceFields
 refine wpAny_bind (wpAny_bind (wpAny_field hos hds (x:=vl) rfl (wpAny_bind (wpAny_field hos hds (x:=vu) rfl (wpAny_bind (wpAny_field hos hds (x:=.none) rfl (wpAny_pure ?_)))))))
 refine wpAny_bind (slicePart_none ?_)
 show wpAny _ _ (if ((1:Int) == 0)=true then _ else _) _ _ s
 rw [if_neg (by decide)]
 refine wpAny_bind (slicePart_ pl (wpAny_bind (slicePart_ pu (wpAny_bind (wpAny_pure ?_)))))
 show wpAny _ _ (match Builtin.Slice.sliceAdjust lo hi 1 (n:Int) with | (lo,hi)=>pure (lo,(1:Int),Builtin.Slice.slicePlaces lo hi 1)) _ _ s
 rw [adjust_gen lo hi n]
 show wpAny _ _ (pure (((sIx n 0 lo:Nat):Int),(1:Int),Builtin.Slice.slicePlaces ((sIx n 0 lo:Nat):Int) ((sIx n n hi:Nat):Int) 1)) _ _ s
 rw [places_gen]
 exact wpAny_pure h
theorem pick_gen (xs:Array Value) (i k:Nat):((List.range k).filterMap fun (m:Nat)=>xs[((i:Int)+(m:Int)*1).toNat]?).toArray=((xs.toList.drop i).take k).toArray:=by
 have e:(fun (m:Nat)=>xs[((i:Int)+(m:Int)*1).toNat]?)=fun m=>xs[i+m]?:=by
  funext m
  have:((i:Int)+(m:Int)*1).toNat=i+m:=by omega
  rw [this]
 rw [e]
 have:=pick_run xs i k
 rw [List.filterMap_map] at this
 have e2:((fun x=>xs[x]?) ∘ fun x=>i+x)=fun m=>xs[i+m]?:=rfl
 rw [e2] at this
 rw [this]
theorem getItem_tuple_cut {t sl:Addr} {items:Array Value} {vl vu:Value} {lo hi:Option Int} {Q:Value→Shared→Prop} (ht:IsTup s.heap t items) (hs:s.heap.IsSliceOf sl vl vu .none) (pl:IsPart vl lo) (pu:IsPart vu hi)
  (hw : ¬ (sIx items.size 0 lo=0∧sIx items.size items.size hi=items.size))
  (h:Q (.ref s.heap.objs.size) { s with heap:=s.heap.push { cls:=.type "tuple", data:=.seq ((items.toList.drop (sIx items.size 0 lo)).take (sIx items.size items.size hi - sIx items.size 0 lo)).toArray } })
  (hsz:items.size≤sizeLine):wpAny (model prog w) A (getItem (.ref t) (.ref sl)) Q E s:=by
 have htake:sizeOk (.seq ((items.toList.drop (sIx items.size 0 lo)).take (sIx items.size items.size hi - sIx items.size 0 lo)).toArray):=by
  show ((items.toList.drop (sIx items.size 0 lo)).take (sIx items.size items.size hi - sIx items.size 0 lo)).toArray.size≤sizeLine
  rw [List.size_toArray,List.length_take,List.length_drop,Array.length_toList]
  omega
 have hj:sIx items.size items.size hi≤items.size:=sIx_le _ _ (Nat.le_refl _) hi
 obtain ⟨os,hos,hcs,hds⟩:=id hs
 have hTs:s.TypeIs (.ref sl) "slice" := ⟨os,hos,hcs⟩
 unfold getItem
 try with_reducible refine wpAny_holding ?_
 first | refine wpAny_bind (wpAny_pure ?_) | skip
 refine wpAny_bind (wpAny_sequenceKey ht.typeIs (by decide) ?_)
 refine wpAny_bind (wpAny_callSpecial?_slot (name:=Str.ofString "__getitem__") ht.typeIs PyProof.Rows.slot_tuple_getitem
  (wpAny_call_entry PyProof.Rows.slot_tuple_getitem ht.typeIs entry_tuple_getitem ?_ (args_tuple_getitem _ _)))
 show wpAny _ _ (Builtin.Tuple.tupleItemsOf (.ref t) >>= _) _ _ s
 refine wpAny_bind (tupleItemsOf_ ht ?_)
 refine wpAny_bind (wpAny_typeOf hTs ?_)
 rw [if_pos (by decide)]
 refine wpAny_bind (sliceApplied_gen hs pl pu ?_)
 have hno : ¬ ((((sIx items.size 0 lo:Nat):Int) == 0 && (1:Int) == 1 && (sIx items.size items.size hi - sIx items.size 0 lo) == items.size)=true):=by
  intro q
  rw [Bool.and_eq_true,Bool.and_eq_true] at q
  have q1:((sIx items.size 0 lo:Nat):Int)=0:=eq_of_beq q.1.1
  have q2:sIx items.size items.size hi - sIx items.size 0 lo=items.size:=eq_of_beq q.2
  exact hw ⟨by omega,by omega⟩
 show wpAny _ _ (if (((sIx items.size 0 lo:Nat):Int) == 0 && (1:Int) == 1 && (sIx items.size items.size hi - sIx items.size 0 lo) == items.size)=true then _ else _) _ _ s
 rw [if_neg hno,pick_gen]
 first
  | exact wpAny_bind (m:=Builtin.Tuple.tupleExact _) (wpAny_newObj_type (wpAny_pure ⟨_,rfl,wpAny_pure h⟩) htake)
  | exact wpAny_bind (m:=Builtin.Tuple.tupleExact _) (wpAny_newObj_type (wpAny_bind (wpAny_pure (wpAny_pure ⟨_,rfl,wpAny_pure h⟩))) htake)
  | exact wpAny_bind (wpAny_bind (m:=Builtin.Tuple.tupleExact _) (wpAny_newObj_type (wpAny_pure (wpAny_pure ⟨_,rfl,wpAny_pure h⟩)) htake))
  | exact wpAny_bind (wpAny_bind (m:=Builtin.Tuple.tupleExact _) (wpAny_newObj_type (wpAny_pure ⟨_,rfl,wpAny_pure h⟩) htake))
end
end HT
namespace L2
open PySem PySem.Spec PyProof.Rows
abbrev TO:=St→Hp→(Option Int→Hp→Prop)→Prop
def PO (X:Cx) (e:Option Expr) (t:TO):Prop:=
 ∀ (pins:List (Addr × Obj)) (s:Shared) (σ:St) (H:Hp) (Q:Option Int→Hp→Prop),Inv X pins σ H s→t σ H Q →
  wpAny (model X.prog X.w) X.A (evalPart e X.env) (fun u s'=>∃ o H',Inv X pins σ H' s'∧IsPart u o∧Q o H') X.xe s
def tNoPart:TO:=fun _ H Q=>Q none H
def tPart (t:TE):TO:=fun σ H Q=>t σ H fun x H1=>∃ i,x = .int i∧Q (some i) H1
theorem intsAre_of {ns : List Int} : ∀ {us : List Value}, Vals (ns.map V.int) us → IntsAre us ns := by
  induction ns with
  | nil => intro us r; rw [List.map_nil] at r; cases r; exact .nil
  | cons n ns ih =>
    intro us r
    rw [List.map_cons] at r
    cases r with
    | cons r1 r2 =>
      obtain ⟨t, e⟩ := r1
      subst e
      exact .cons n t (ih r2)
section
variable {X : Cx} {e : Expr} {te : TE} {lo hi : Option Expr} {tl th : TO} {pos p2 : Pos}
theorem po_none:PO X none tNoPart:=by
 intro pins s σ H Q I h
 rw [evalPart_none]
 exact wpAny_pure ⟨none,H,I,.none,h⟩
theorem po_some (h:PE X e te):PO X (some e) (tPart te):=by
 intro pins s σ H Q I hw
 rw [evalPart_some]
 refine thn (h pins s σ H _ I hw) fun u s1 ⟨x,H1,I1,r1,q1⟩=>?_
 obtain ⟨i,rfl,q⟩:=q1
 obtain ⟨t,rfl⟩:=r1
 exact ⟨some i,H1,I1,.int i t,q⟩
def SlR (X:Cx) (r:V→Option Int→Option Int→Hp→VK→Prop):Prop:=
 ∀ (pins:List (Addr × Obj)) (s:Shared) (σ:St) (H:Hp) (x:V) (v vl vu:Value) (lo hi:Option Int) (sl:Addr) (Q:VK),Inv X pins σ H s→RelV x v→s.heap.IsSliceOf sl vl vu .none→IsPart vl lo→IsPart vu hi→r x lo hi H Q →
  ∃ T id,typeLookup (.type T) "__getitem__" = pure (some (.builtin id))∧s.TypeIs v T∧wpAny (model X.prog X.w) X.A (getItem v (.ref sl)) (EP X pins σ Q) X.xe s
theorem SlR.or {r r':V→Option Int→Option Int→Hp→VK→Prop} (h:SlR X r) (h':SlR X r'):SlR X (fun x lo hi H Q=>r x lo hi H Q∨r' x lo hi H Q):=by
 intro pins s σ H x v vl vu lo hi sl Q I rx hs pl pu q
 rcases q with q | q
 ·exact h pins s σ H x v vl vu lo hi sl Q I rx hs pl pu q
 ·exact h' pins s σ H x v vl vu lo hi sl Q I rx hs pl pu q
def tSl (r:V→Option Int→Option Int→Hp→VK→Prop) (te:TE) (tl th:TO):TE:=fun σ H Q=>te σ H fun x H1=>tl σ H1 fun l H2=>th σ H2 fun u H3=>r x l u H3 Q
theorem pe_slice {r:V→Option Int→Option Int→Hp→VK→Prop} (hr:SlR X r) (he:PE X e te) (hl:PO X lo tl) (hu:PO X hi th):PE X (.Subscript e (.Slice lo hi none p2) pos) (tSl r te tl th):=by
 intro pins s σ H Q I h
 refine Subscript_ (thn (he pins s σ H _ I h) fun v s1 ⟨x,H1,I1,r1,q1⟩=>?_)
 refine wpAny_Slice (thn (hl pins s1 σ H1 _ I1 q1) fun vl s2 ⟨l,H2,I2,pl,q2⟩=>thn (hu pins s2 σ H2 _ I2 q2) fun vu s3 ⟨u,H3,I3,pu,q3⟩=>?_)
 rw [evalPart_none]
 refine wpAny_pure ?_
 have I4:Inv X pins σ H3 { s3 with heap:=s3.heap.push { cls:=.type "slice", data:=.fields #[vl,vu,.none] } }:=I3.kept (t':=s3.toks) fun b ob q=>Heap.get?_push_of_some _ q
 obtain ⟨T,id,hT,ht,hg⟩:=hr pins { s3 with heap:=s3.heap.push { cls:=.type "slice", data:=.fields #[vl,vu,.none] } } σ H3 x v vl vu l u s3.heap.objs.size Q I4 r1 (Heap.IsSliceOf.new ..) pl pu q3
 show wpAny (model X.prog X.w) X.A (subscriptTail e (.Slice lo hi none p2) v (.ref s3.heap.objs.size)) (EP X pins σ Q) X.xe { s3 with heap:=s3.heap.push { cls:=.type "slice", data:=.fields #[vl,vu,.none] } }
 exact tail_any (ops:=[.ref s3.heap.objs.size,v]) ht hT hg (by with_unfolding_all rfl)
def cutV (xs:List V) (lo hi:Option Int):List V:=(xs.drop (HT.sIx xs.length 0 lo)).take (HT.sIx xs.length xs.length hi - HT.sIx xs.length 0 lo)
theorem cutV_length (xs:List V) (lo hi:Option Int):(cutV xs lo hi).length≤xs.length:=by
 unfold cutV
 rw [List.length_take,List.length_drop]
 omega
def rSlT (K:W.Frag):V→Option Int→Option Int→Hp→VK→Prop:=fun x lo hi H Q=>∃ a xs,x = .ref a∧SqT K H a xs ∧
 ¬ (HT.sIx xs.length 0 lo=0∧HT.sIx xs.length xs.length hi=xs.length) ∧ ∀ p,H p=none→Q (.ref p) (upd H p (.tup (cutV xs lo hi)))
theorem sl_tup:SlR X (rSlT X.K):=by
 intro pins s σ H x v vl vu lo hi sl Q I rx hs pl pu h
 obtain ⟨a,xs,rfl,hx,hw,q⟩:=h
 cases rx
 obtain ⟨its,r,ht,hz⟩:=I.tuple hx
 have hlen:its.toArray.size=xs.length:=by rw [List.size_toArray];exact r.length.symm
 refine ⟨"tuple", _,PyProof.Rows.slot_tuple_getitem.lookup,ht.typeIs,?_⟩
 refine HT.getItem_tuple_cut ht hs pl pu (by rw [hlen];exact hw) ?_ (by rw [hlen];exact hz)
 rw [hlen]
 refine ⟨.ref s.heap.objs.size,_,I.laid (t':=s.toks) (o:=.tup (cutV xs lo hi)) (fun b ob q=>Heap.get?_push_of_some _ q) (Nat.le_refl _) ?_,rfl,q _ (I.hok.fresh (Nat.le_refl _))⟩
 exact ⟨Nat.le_trans (cutV_length xs lo hi) hz,_,(r.drop (HT.sIx xs.length 0 lo)).take (HT.sIx xs.length xs.length hi - HT.sIx xs.length 0 lo),IsTup.new _ _⟩
end
def ixN (n:Nat) (i:Int):Option Nat:=if 0≤i then (if i < n then some i.toNat else none) else if -(n:Int)≤i then some (i+n).toNat else none
def atI {α:Type} (xs:List α) (i:Int):Option α:=(ixN xs.length i).bind fun j=>xs[j]?
theorem ixN_seq {n:Nat} {i:Int} {j:Nat} (h:ixN n i=some j):seqIndex? i n=some j∧j < n ∧ -(n:Int)≤i∧i < n:=by
 unfold ixN at h
 by_cases h0:0≤i
 ·rw [if_pos h0] at h
  by_cases h1:i < n
  ·rw [if_pos h1] at h
   have e:i.toNat=j:=Option.some.inj h
   exact ⟨by rw [seqIndex_of h0 h1,e],by omega,by omega,h1⟩
  ·rw [if_neg h1] at h;cases h
 ·rw [if_neg h0] at h
  by_cases h1 : -(n:Int)≤i
  ·rw [if_pos h1] at h
   have e:(i+n).toNat=j:=Option.some.inj h
   exact ⟨by rw [seqIndex_neg (by omega) h1,e],by omega,h1,by omega⟩
  ·rw [if_neg h1] at h;cases h
theorem atI_get {α : Type} {xs : List α} {i : Int} {v : α} (h : atI xs i = some v) : ∃ j, seqIndex? i xs.length = some j ∧ xs[j]? = some v ∧ j < xs.length ∧ -(xs.length : Int) ≤ i ∧ i < xs.length := by
  unfold atI at h
  cases e : ixN xs.length i with
  | none => rw [e] at h; cases h
  | some j =>
    rw [e] at h
    obtain ⟨h1, h2, h3, h4⟩ := ixN_seq e
    exact ⟨j, h1, h, h2, h3, h4⟩
theorem atI_nat {α:Type} {xs:List α} {j:Nat} {v:α} (h:xs[j]? = some v):atI xs (j:Int)=some v:=by
 have hj:j < xs.length:=(List.getElem?_eq_some_iff.mp h).1
 have e:ixN xs.length (j:Int)=some j:=by
  unfold ixN
  rw [if_pos (by omega),if_pos (by omega)];simp
 unfold atI;rw [e];exact h
def PlainIx (b:Expr):Prop:=∀ o i,subscripted b false o i=operate [o,i] (getItem o i)
def IxR (X:Cx) (r:R2):Prop:=
 ∀ (value slice:Expr) (pins:List (Addr × Obj)) (s:Shared) (σ:St) (H:Hp) (x y:V) (v u:Value) (Q:VK),Inv X pins σ H s→RelV x v→RelV y u→r x y H Q →
  subscripted slice false v u=operate [v,u] (getItem v u)→wpAny (model X.prog X.w) X.A (subscriptTail value slice v u) (EP X pins σ Q) X.xe s
def MtR (X:Cx) (id:String) (r:V→List V→Hp→VK→Prop):Prop:=
 ∀ (pins:List (Addr × Obj)) (s:Shared) (σ:St) (H:Hp) (x:V) (xs:List V) (v:Value) (us:List Value) (Q:VK),Inv X pins σ H s→RelV x v→Vals xs us→r x xs H Q →
  wpAny (model X.prog X.w) X.A (call (.builtin id) (v::us)) (EP X pins σ Q) X.xe s
section
variable {X : Cx} {a b : Expr} {ta tb : TE} {pos : Pos}
theorem IxR.or {r r':R2} (h:IxR X r) (h':IxR X r'):IxR X (fun x y H Q=>r x y H Q∨r' x y H Q):=by
 intro value slice pins s σ H x y v u Q I rx ry q hs
 rcases q with q | q
 ·exact h value slice pins s σ H x y v u Q I rx ry q hs
 ·exact h' value slice pins s σ H x y v u Q I rx ry q hs
theorem MtR.or {id:String} {r r':V→List V→Hp→VK→Prop} (h:MtR X id r) (h':MtR X id r'):MtR X id (fun x xs H Q=>r x xs H Q∨r' x xs H Q):=by
 intro pins s σ H x xs v us Q I rx rs q
 rcases q with q | q
 ·exact h pins s σ H x xs v us Q I rx rs q
 ·exact h' pins s σ H x xs v us Q I rx rs q
theorem pe_ix {r:R2} (hr:IxR X r) (ha:PE X a ta) (hb:PE X b tb) (hs:PlainIx b):PE X (.Subscript a b pos) (tOp r ta tb):=by
 intro pins s σ H Q I h
 exact Subscript_ (binT ha hb I h fun v u s2 x y H2 I2 rx ry q=>hr a b pins s2 σ H2 x y v u Q I2 rx ry q (hs _ _))
def rIxL (K:W.Frag):R2:=fun x y H Q=>∃ p xs i v,x = .ref p∧y = .int i∧SqL K H p xs∧atI xs i=some v∧Q v H
def rIxT (K:W.Frag):R2:=fun x y H Q=>∃ p xs i v,x = .ref p∧y = .int i∧SqT K H p xs∧atI xs i=some v∧Q v H
def rIxS:R2:=fun x y H Q=>∃ z i c,x = .str z∧y = .int i∧z.length≤sizeLine∧atI z.cps.toList i=some c∧Q (.str ⟨#[c]⟩) H
theorem ix_list:IxR X (rIxL X.K):=by
 intro value slice pins s σ H x y v u Q I rx ry h hs
 obtain ⟨p,xs,i,z,rfl,rfl,hq,he,q⟩:=h
 cases rx
 obtain ⟨t,rfl⟩:=ry
 obtain ⟨its,r,pl,hz⟩:=I.list hq
 obtain ⟨j,h1,h2,h3,h4,h5⟩:=atI_get he
 obtain ⟨w,ew,rw'⟩:=r.get h2
 have hl:=r.length
 have hn:=line63
 have fin:EP X pins σ Q w s:=⟨z,H,I,rw',q⟩
 by_cases h0:0≤i
 ·have hj:i.toNat=j:=by
   rw [seqIndex_of h0 h5] at h1
   exact Option.some.inj h1
  exact item_listR pl.isList h0 (by omega) (by rw [hj];simpa using ew) fin hs
 ·have hj:(i+(its.toArray.size:Int)).toNat=j:=by
   rw [seqIndex_neg (by omega) h4] at h1
   rw [List.size_toArray,← hl]
   exact Option.some.inj h1
  exact subscriptTail_builtinR (x:=w) pl.isList.typeIs slot_list_getitem.lookup
   (wpAny_getItem_list_neg (Q:=fun r s'=>r=w∧EP X pins σ Q r s') pl.isList (by omega) (by rw [List.size_toArray] <;> omega) (by omega) (by rw [hj];simpa using ew) ⟨rfl,fin⟩) hs
theorem ix_tup:IxR X (rIxT X.K):=by
 intro value slice pins s σ H x y v u Q I rx ry h hs
 obtain ⟨p,xs,i,z,rfl,rfl,hq,he,q⟩:=h
 cases rx
 obtain ⟨t,rfl⟩:=ry
 obtain ⟨its,r,pl,hz⟩:=I.tuple hq
 obtain ⟨j,h1,h2,h3,h4,h5⟩:=atI_get he
 obtain ⟨w,ew,rw'⟩:=r.get h2
 have hl:=r.length
 have hn:=line63
 have fin:EP X pins σ Q w s:=⟨z,H,I,rw',q⟩
 exact subscriptTail_builtinR (x:=w) pl.typeIs slot_tuple_getitem.lookup
  (getItem_tuple (j:=j) (Q:=fun r s'=>r=w∧EP X pins σ Q r s') pl (by omega) (by omega) (by rw [List.size_toArray,← hl];exact h1) (by simpa using ew) ⟨rfl,fin⟩) hs
theorem ix_str:IxR X rIxS:=by
 intro value slice pins s σ H x y v u Q I rx ry h hs
 obtain ⟨z,i,c,rfl,rfl,hz,he,q⟩:=h
 obtain ⟨t,rfl⟩:=rx
 obtain ⟨t',rfl⟩:=ry
 obtain ⟨j,h1,h2,h3,h4,h5⟩:=atI_get he
 have hl:z.cps.toList.length=z.length:=by simp [Str.length]
 rw [hl] at h1 h4 h5
 have hn:=line63
 exact tail_any (typeIs_str s z t) slot_str_getitem.lookup (getItem_str (c:=c) (by
  have e1:decide (i < -(2 ^ 63:Int))=false:=decide_eq_false (by omega)
  have e2:decide (i ≥ 2 ^ 63)=false:=decide_eq_false (by omega)
  rw [e1,e2,Bool.or_false]) (by rw [h1];simpa using h2) ⟨.str ⟨#[c]⟩,H,I.tok _,⟨_,rfl⟩,q⟩) hs
theorem Inv.lst {pins:List (Addr × Obj)} {σ:St} {H:Hp} {s:Shared} {p:Addr} {xs:List V} (I:Inv X pins σ H s) (h:H p=some (.lst xs)) :
  ∃ (its:List Value) (n:Nat),Vals xs its∧s.heap.get? p=some { cls:=.type "list", data:=.seq its.toArray n }∧xs.length≤sizeLine:=by
 obtain ⟨z,its,n,r,e⟩:=I.hok p _ h
 exact ⟨its,n,r,e,z⟩
theorem slice_bounds (lo hi : Option Int) (n : Nat) : (sliceBounds lo hi none n).1 = ((HT.sIx n 0 lo : Nat) : Int) ∧ (sliceBounds lo hi none n).2.1 = ((HT.sIx n n hi : Nat) : Int) ∧ (sliceBounds lo hi none n).2.2 = 1 := by
  refine ⟨?_, ?_, rfl⟩
  · cases lo with
    | none => simp [sliceBounds, HT.sIx]
    | some i =>
      simp only [sliceBounds, HT.sIx, Option.getD_none, show (1 : Int) > 0 by decide, if_true]
      by_cases h : i < 0
      · simp only [h, if_true] <;> omega
      · simp only [h, if_false] <;> omega
  · cases hi with
    | none => simp [sliceBounds, HT.sIx]
    | some i =>
      simp only [sliceBounds, HT.sIx, Option.getD_none, show (1 : Int) > 0 by decide, if_true]
      by_cases h : i < 0
      · simp only [h, if_true] <;> omega
      · simp only [h, if_false] <;> omega
theorem slicePick_cut (its:List Value) (lo hi:Option Int):slicePick its.toArray lo hi none=((its.drop (HT.sIx its.length 0 lo)).take (HT.sIx its.length its.length hi - HT.sIx its.length 0 lo)).toArray:=by
 obtain ⟨h1,h2,h3⟩:=slice_bounds lo hi its.toArray.size
 unfold slicePick
 rw [h1,h2,h3]
 simp only [sliceRange_one,pick_run,List.size_toArray] <;> rfl
def rSlL (K:W.Frag):V→Option Int→Option Int→Hp→VK→Prop:=fun x lo hi H Q=>∃ a xs,x = .ref a∧SqL K H a xs ∧ ∀ p,H p=none→Q (.ref p) (upd H p (.lst (cutV xs lo hi)))
theorem sl_list:SlR X (rSlL X.K):=by
 intro pins s σ H x v vl vu lo hi sl Q I rx hs pl pu h
 obtain ⟨a,xs,rfl,hx,q⟩:=h
 cases rx
 obtain ⟨its,r,ht,hz⟩:=I.list hx
 have hlen:=r.length
 refine ⟨"list", _,slot_list_getitem.lookup,ht.isList.typeIs,?_⟩
 refine wpAny_getItem_list_slice ht.isList hs pl pu .none (by simp) ?_ (by rw [List.size_toArray] <;> omega)
 rw [slicePick_cut,← hlen]
 refine ⟨.ref s.heap.objs.size,_,I.laid (t':=s.toks) (o:=.lst (cutV xs lo hi)) (fun b ob q=>Heap.get?_push_of_some _ q) (Nat.le_refl _) ?_,rfl,q _ (I.hok.fresh (Nat.le_refl _))⟩
 exact ⟨Nat.le_trans (cutV_length xs lo hi) hz,_,0,(r.drop (HT.sIx xs.length 0 lo)).take (HT.sIx xs.length xs.length hi - HT.sIx xs.length 0 lo),Heap.get?_push_size _ rfl⟩
def flatV:V→Bool
 | .non=>true
 | .bl _=>true
 | .int _=>true
 | .str _=>true
 | _=>false
def eqV:V→V→Bool
 | .non,.non=>true
 | .bl a,.bl b=>a == b
 | .bl a,.int b=>(if a then 1 else 0) == b
 | .int a,.bl b=>a == (if b then 1 else 0)
 | .int a,.int b=>a == b
 | .str a,.str b=>a == b
 | _,_=>false
theorem eqAt_V {A : Around} {s : Shared} {y x : V} {u v : Value} (ry : RelV y u) (rx : RelV x v) (fy : flatV y = true) (fx : flatV x = true) : SeqAt.EqAt A s u v (eqV y x) := by
  cases y with
  | non =>
    cases ry
    cases x with
    | non => cases rx; exact SeqAt.EqAt.same _
    | bl b => cases rx; exact SeqAt.EqAt.none_bool b
    | int b => obtain ⟨t, rfl⟩ := rx; exact SeqAt.EqAt.none_int b t
    | str b => obtain ⟨t, rfl⟩ := rx; exact SeqAt.EqAt.none_str b t
    | _ => exact absurd (show false = true from fx) Bool.false_ne_true
  | bl a =>
    cases ry
    cases x with
    | non => cases rx; exact SeqAt.EqAt.bool_none a
    | bl b => cases rx; exact SeqAt.EqAt.bool_bool a b
    | int b => obtain ⟨t, rfl⟩ := rx; exact SeqAt.EqAt.bool_int a b t
    | str b => obtain ⟨t, rfl⟩ := rx; exact SeqAt.EqAt.bool_str a b t
    | _ => exact absurd (show false = true from fx) Bool.false_ne_true
  | int a =>
    obtain ⟨t', rfl⟩ := ry
    cases x with
    | non => cases rx; exact SeqAt.EqAt.int_none a t'
    | bl b => cases rx; exact SeqAt.EqAt.int_bool a t' b
    | int b => obtain ⟨t, rfl⟩ := rx; exact SeqAt.EqAt.int_int a t' b t
    | str b => obtain ⟨t, rfl⟩ := rx; exact SeqAt.EqAt.int_str a t' b t
    | _ => exact absurd (show false = true from fx) Bool.false_ne_true
  | str a =>
    obtain ⟨t', rfl⟩ := ry
    cases x with
    | non => cases rx; exact SeqAt.EqAt.str_none a t'
    | bl b => cases rx; exact SeqAt.EqAt.str_bool a t' b
    | int b => obtain ⟨t, rfl⟩ := rx; exact SeqAt.EqAt.str_int a t' b t
    | str b => obtain ⟨t, rfl⟩ := rx; exact SeqAt.EqAt.str_str a t' b t
    | _ => exact absurd (show false = true from fx) Bool.false_ne_true
  | _ => exact absurd (show false = true from fy) Bool.false_ne_true
def eqU (x:V) (u:Value):Bool:=match u with
 | .none=>eqV .non x
 | .bool b=>eqV (.bl b) x
 | .int i _=>eqV (.int i) x
 | .str z _=>eqV (.str z) x
 | _=>false
theorem eqU_of {x y:V} {u:Value} (r:RelV y u) (f:flatV y=true):eqU x u=eqV y x:=by
 cases y with
 | non=>cases r;rfl
 | bl b=>cases r;rfl
 | int i=>obtain ⟨t,rfl⟩:=r;rfl
 | str z=>obtain ⟨t,rfl⟩:=r;rfl
 | _=>exact absurd (show false=true from f) Bool.false_ne_true
theorem any_eqU {x : V} : ∀ {xs : List V} {us : List Value}, Vals xs us → xs.all flatV = true → us.any (eqU x) = xs.any fun y => eqV y x
  | _, _, .nil, _ => rfl
  | y :: xs, u :: us, .cons r t, f => by
    rw [List.all_cons, Bool.and_eq_true] at f
    rw [List.any_cons, List.any_cons, eqU_of r f.1, any_eqU t f.2]
theorem mem_eqAt {A : Around} {s : Shared} {x : V} {v : Value} (rx : RelV x v) (fx : flatV x = true) : ∀ {xs : List V} {us : List Value}, Vals xs us → xs.all flatV = true → ∀ u ∈ us, SeqAt.EqAt A s u v (eqU x u)
  | _, _, .nil, _ => fun u hu => by cases hu
  | y :: xs, u :: us, .cons r t, f => fun u' hu => by
    rw [List.all_cons, Bool.and_eq_true] at f
    rcases List.mem_cons.mp hu with rfl | hu
    · rw [eqU_of r f.1]; exact eqAt_V r rx f.1 fx
    · exact mem_eqAt rx fx t f.2 u' hu
def inV (x:V) (xs:List V):Bool:=xs.any fun y=>eqV y x
def rIn (K:W.Frag) (neg:Bool):R2:=fun x y H Q=>∃ p xs,y = .ref p∧(SqL K H p xs∨SqT K H p xs)∧flatV x=true∧xs.all flatV=true∧Q (.bl (if neg then !inV x xs else inV x xs)) H
theorem op_notIn_seq:OpR X (compareOp .NotIn) (rIn X.K true):=by
 intro pins s σ H x y v u Q I rx ry h
 obtain ⟨p,xs,rfl,hq,fx,fs,q⟩:=h
 cases ry
 rcases hq with hq | hq
 ·obtain ⟨its,r,pl,hz⟩:=I.list hq
  refine SeqAt.notIn_listAt (eqU x) pl.isList (fun w hw=>mem_eqAt rx fx r fs w (by simpa using hw)) ⟨.bl _,H,I,rfl,?_⟩
  rw [show its.toArray.any (eqU x)=its.any (eqU x) by simp,any_eqU r fs]
  exact q
 ·obtain ⟨its,r,pl,hz⟩:=I.tuple hq
  refine SeqAt.notIn_tupleAt (eqU x) pl (fun w hw=>mem_eqAt rx fx r fs w (by simpa using hw)) ⟨.bl _,H,I,rfl,?_⟩
  rw [show its.toArray.any (eqU x)=its.any (eqU x) by simp,any_eqU r fs]
  exact q
theorem call_len_seq:CallR X (.builtin "len") (fun xs H Q=>∃ p ys,xs=[.ref p]∧(SqL X.K H p ys∨SqT X.K H p ys)∧Q (.int ys.length) H):=by
 intro pins s σ H xs us Q I r h
 obtain ⟨p,ys,rfl,hq,q⟩:=h
 obtain ⟨u,rfl,rx⟩:=vals1 r
 cases rx
 have hn:=line63
 rcases hq with hq | hq
 ·obtain ⟨its,r',pl,hz⟩:=I.list hq
  have hlen:=r'.length
  exact Calls.call_len_list pl.isList (by simp only [List.size_toArray] <;> omega) ⟨.int ys.length,H,I.tok _,⟨s.toks+1,by rw [List.size_toArray,hlen]⟩,q⟩
 ·obtain ⟨its,r',pl,hz⟩:=I.tuple hq
  have hlen:=r'.length
  exact len_tuple pl (by simp only [List.size_toArray] <;> omega) ⟨.int ys.length,H,I.tok _,⟨s.toks+1,by rw [List.size_toArray,hlen]⟩,q⟩
theorem call_len_str:CallR X (.builtin "len") (fun xs H Q=>∃ z,xs=[.str z]∧z.length≤sizeLine∧Q (.int z.length) H):=by
 intro pins s σ H xs us Q I r h
 obtain ⟨z,rfl,hz,q⟩:=h
 obtain ⟨u,rfl,t,rfl⟩:=vals1 r
 have hn:=line63
 exact len_str (by omega) ⟨.int z.length,H,I.tok _,⟨_,rfl⟩,q⟩
theorem CallR.or {f:Value} {r r':List V→Hp→VK→Prop} (h:CallR X f r) (h':CallR X f r'):CallR X f (fun xs H Q=>r xs H Q∨r' xs H Q):=by
 intro pins s σ H xs us Q I rs q
 rcases q with q | q
 ·exact h pins s σ H xs us Q I rs q
 ·exact h' pins s σ H xs us Q I rs q
theorem call_list_of:CallR X (.type "list") (fun xs H Q=>∃ p ys,xs=[.ref p]∧(SqL X.K H p ys∨SqT X.K H p ys) ∧ ∀ l,H l=none→Q (.ref l) (upd H l (.lst ys))):=by
 intro pins s σ H xs us Q I r h
 obtain ⟨p,ys,rfl,hq,q⟩:=h
 obtain ⟨u,rfl,rx⟩:=vals1 r
 cases rx
 have fin : ∀ (its:List Value),Vals ys its→ys.length≤sizeLine → ∀ (h':Heap) (c':Nat),(∀ b o',s.heap.get? b=some o'→h'.get? b=some o') →
   h'.get? s.heap.objs.size=some { cls:=.type "list", dict:=none,data:=.seq its.toArray c',slots:=#[] }→EP X pins σ Q (.ref s.heap.objs.size) { s with heap:=h' }:=fun its r' hz h' c' kp e =>
  ⟨.ref s.heap.objs.size,_,I.laid (t':=s.toks) kp (Nat.le_refl _) (show ObjOk X.prog X.w _ h' _ (.lst ys) from ⟨hz,its,c',r',e⟩),rfl,q _ (I.hok.fresh (Nat.le_refl _))⟩
 rcases hq with hq | hq
 ·obtain ⟨its,r',pl,hz⟩:=I.list hq
  have hlen:=r'.length
  obtain ⟨o,ho,hc,n,hd⟩:=pl.isList
  exact call_list_seq p (.inl rfl) ho hc hd (fun h' c' kp e=>fin its r' hz h' c' kp e) (by simp only [List.size_toArray] <;> omega)
 ·obtain ⟨its,r',pl,hz⟩:=I.tuple hq
  have hlen:=r'.length
  obtain ⟨o,ho,hc,n,hd⟩:=pl
  exact call_list_seq p (.inr rfl) ho hc hd (fun h' c' kp e=>fin its r' hz h' c' kp e) (by simp only [List.size_toArray] <;> omega)
def tyV (K:W.Frag) (T:String) (x:V) (H:Hp):Prop:=match x with
 | .str _=>T = "str"
 | .int _=>T = "int"
 | .ref p=>(T = "list" ∧ ∃ xs,SqL K H p xs)∨(T = "tuple" ∧ ∃ o,K.lookup p=some o∧o.cls = .type "tuple" ∧ o.dict=none) ∨
   (T = "dict" ∧ ((∃ kvs,H p=some (.dK kvs)) ∨ ∃ kvs,H p=some (.dT kvs)))∨(T = "set" ∧ ∃ S n,H p=some (.set S n))
 | _=>False
theorem tyV_is {pins : List (Addr × Obj)} {σ : St} {H : Hp} {s : Shared} {T : String} {x : V} {v : Value} (I : Inv X pins σ H s) (r : RelV x v) (ty : tyV X.K T x H) :
    s.TypeIs v T ∧ ∀ a, v = .ref a → ∃ ob, s.heap.get? a = some ob ∧ ob.dict = none := by
  cases x with
  | str z =>
    obtain ⟨t, rfl⟩ := r
    cases (show T = "str" from ty)
    exact ⟨typeIs_str s z t, fun _ e => nomatch e⟩
  | int i =>
    obtain ⟨t, rfl⟩ := r
    cases (show T = "int" from ty)
    exact ⟨typeIs_int s i t, fun _ e => nomatch e⟩
  | ref p =>
    cases r
    rcases ty with ⟨rfl, xs, hq⟩ | ⟨rfl, o, hk, hc, hd⟩ | ⟨rfl, hk⟩ | ⟨rfl, S, n, hk⟩
    · obtain ⟨its, _, pl, _⟩ := I.list hq
      refine ⟨pl.isList.typeIs, fun a e => ?_⟩
      cases e
      obtain ⟨o, n, e, c, hd, _⟩ := pl
      exact ⟨o, e, hd⟩
    · refine ⟨⟨o, I.kIn p o hk, hc⟩, fun a e => ?_⟩
      cases e
      exact ⟨o, I.kIn _ o hk, hd⟩
    · have z : ∃ o, s.heap.get? p = some o ∧ o.ExactDict := by
        rcases hk with ⟨kvs, hk⟩ | ⟨kvs, hk⟩
        · obtain ⟨_, _, _, _, o, _, _, e, ex, _⟩ := I.hok p _ hk
          exact ⟨o, e, ex⟩
        · obtain ⟨_, _, _, _, o, _, _, e, ex, _⟩ := I.hok p _ hk
          exact ⟨o, e, ex⟩
      obtain ⟨o, e, ex⟩ := z
      refine ⟨⟨o, e, ex.1⟩, fun a e2 => ?_⟩
      cases e2
      exact ⟨o, e, ex.2.1⟩
    · obtain ⟨o, _, _, _, e, ex, _⟩ := I.hok p _ hk
      refine ⟨⟨o, e, ex.1⟩, fun a e2 => ?_⟩
      cases e2
      exact ⟨o, e, ex.2.1⟩
  | _ => exact False.elim ty
def tBM0 (K:W.Frag) (T:String) (r:V→List V→Hp→VK→Prop) (to:TE):TE:=fun σ H Q=>to σ H fun x H1=>tyV K T x H1∧r x [] H1 Q
def tBM (K:W.Frag) (T:String) (r:V→List V→Hp→VK→Prop) (to:TE) (t:TA):TE:=fun σ H Q=>to σ H fun x H1=>tyV K T x H1∧t σ H1 fun xs H2=>r x xs H2 Q
variable {o e : Expr} {es : List Expr} {to : TE} {t : TA} {name : Str} {apos cpos : Pos} {T id : String} {r : V → List V → Hp → VK → Prop}
theorem pe_bm0 (pa:PlainAttrs T) (slot:Slot T name id) (hty:typeOf (.builtin id)=pure (.type "method_descriptor")) (hm:MtR X id r) (ho:PE X o to)
  (hbase:attributeBase o name X.env (eval o X.env)=eval o X.env:=by rfl) (hline:(apos.endLine == cpos.line)=true:=by rfl):PE X (.Call (.Attribute o name apos) [] [] cpos) (tBM0 X.K T r to):=by
 intro pins s σ H Q I h
 refine wpAny_Call_method0_late hbase hline (thn (ho pins s σ H _ I h) fun v s1 ⟨x,H1,I1,r1,ty,q1⟩=>?_)
 obtain ⟨h1,h2⟩:=tyV_is I1 r1 ty
 exact ⟨T,id,pa,slot,hty,h1,h2,Calls.callWith_builtin rfl (PySem.evalArgs_none (hm pins s1 σ H1 x [] v [] Q I1 r1 .nil q1))⟩
theorem pe_bm (pa:PlainAttrs T) (slot:Slot T name id) (hty:typeOf (.builtin id)=pure (.type "method_descriptor")) (hm:MtR X id r) (ho:PE X o to) (ha:PA X (e::es) t)
  (hbase:attributeBase o name X.env (eval o X.env)=eval o X.env:=by rfl)
  (hfew:((backTo cpos (starEach (e::es) X.env)).all (fun x=>!x.1) && (backToKw cpos (keywordEach [] X.env)).all (fun x=>x.1.isSome)
   && decide ((e::es).length+([]:List Keyword).length+(if ([]:List Keyword).isEmpty then 0 else 1) < 30))=true:=by rfl)
  (hline:(apos.endLine == cpos.line)=true:=by rfl) (hs:starEach (e::es) X.env=(false,eval e X.env)::starEach es X.env:=by rfl) (hplain:(backTo cpos (starEach es X.env)).any (·.1)=false:=by rfl) :
  PE X (.Call (.Attribute o name apos) (e::es) [] cpos) (tBM X.K T r to t):=by
 intro pins s σ H Q I h
 refine wpAny_Call_method_late hbase hfew hline rfl (thn (ho pins s σ H _ I h) fun v s1 ⟨x,H1,I1,r1,ty,q1⟩=>?_)
 obtain ⟨h1,h2⟩:=tyV_is I1 r1 ty
 refine ⟨T,id,pa,slot,hty,h1,h2,?_⟩
 have hA:=ha cpos pins s1 σ H1 _ I1 q1
 rw [hs] at hA ⊢
 refine Calls.callWith_builtin (by show (false || (backTo cpos (starEach es X.env)).any (·.1))=false;rw [hplain] <;> rfl) (Calls.evalArgs_plain ?_)
 exact thn hA fun us s2 ⟨vs,H2,I2,r2,q2⟩=>hm pins s2 σ H2 x vs v us Q I2 r1 r2 q2
end
def MtM (X:Cx) (id:String) (r:V→List V→Hp→VK→Prop):Prop:=
 ∀ (pins:List (Addr × Obj)) (s:Shared) (σ:St) (H:Hp) (x:V) (xs:List V) (v:Value) (us:List Value) (Q:VK),Inv X pins σ H s→RelV x v→Vals xs us→r x xs H Q →
  wpAny (model X.prog X.w) X.A (call (.builtin id) (v::us)) (EP X pins σ Q) X.xe s
theorem Vals.one : ∀ {x:V} {us:List Value},Vals [x] us → ∃ u,us=[u]∧RelV x u
 | _,_,.cons r .nil=>⟨_,rfl,r⟩
theorem Vals.zero : ∀ {us:List Value},Vals [] us→us=[]
 | _,.nil=>rfl
theorem Vals.dropLast {xs : List V} {us : List Value} (h : Vals xs us) : Vals xs.dropLast us.dropLast := by
  induction h with
  | nil => exact .nil
  | cons r t ih =>
    cases t with
    | nil => exact .nil
    | cons q t' => exact .cons r ih
theorem Vals.eraseIdx : ∀ {xs:List V} {us:List Value} (i:Nat),Vals xs us→Vals (xs.eraseIdx i) (us.eraseIdx i)
 | _,_,_,.nil=>.nil
 | _,_,0,.cons _ t=>t
 | _,_,i+1,.cons r t=>.cons r (Vals.eraseIdx i t)
theorem Vals.reverse {xs:List V} {us:List Value} (h:Vals xs us):Vals xs.reverse us.reverse:=by
 induction h with
 | nil=>exact .nil
 | cons r t ih=>rw [List.reverse_cons,List.reverse_cons];exact Vals.append ih (.cons r .nil)
theorem Vals.rep {xs : List V} {us : List Value} (h : Vals xs us) : ∀ k : Nat, Vals (List.replicate k xs).flatten (List.replicate k us).flatten
  | 0 => .nil
  | k + 1 => by
    rw [List.replicate_succ, List.replicate_succ, List.flatten_cons, List.flatten_cons]
    exact Vals.append h (Vals.rep h k)
theorem erase_last {α : Type} (l : List α) : l.eraseIdx (l.length - 1) = l.dropLast := by
  induction l with
  | nil => rfl
  | cons a r ih =>
    cases r with
    | nil => rfl
    | cons b r =>
      have e : (a :: b :: r).length - 1 = ((b :: r).length - 1) + 1 := by
        have h1 : (a :: b :: r).length = r.length + 2 := rfl
        have h2 : (b :: r).length = r.length + 1 := rfl
        omega
      rw [e, List.eraseIdx_cons_succ, ih]
      all_goals rfl
section
variable {X : Cx} {pins : List (Addr × Obj)} {σ : St} {H : Hp} {s : Shared} {l b : Addr} {xs ys zs : List V}
theorem Inv.lset {its its':List Value} {n:Nat} {f:Array Value→Array Value} {t':Nat} (I:Inv X pins σ H s) (hH:H l=some (.lst xs))
  (e:s.heap.get? l=some { cls:=.type "list", data:=.seq its.toArray n }) (hf:f its.toArray=its'.toArray) (hv:Vals ys its') (hz:ys.length≤sizeLine) :
  Inv X pins σ (upd H l (.lst ys)) { s with heap:=s.heap.update l (Obj.mapSeq f),toks:=t' }:=by
 have q:=PySem.IsL.update e f
 rw [hf] at q
 refine I.write (x:=l) (e:=l) (by rw [hH];exact trivial) (.inl rfl) (fun b' u hb hu=>(Heap.get?_update_other s.heap (Obj.mapSeq f) (Ne.symm hb)).trans hu) ⟨_,q⟩ ?_
 exact ⟨hz,its',_,hv,q⟩
theorem Inv.lnew {its:List Value} {t':Nat} (I:Inv X pins σ H s) (hv:Vals ys its) (hz:ys.length≤sizeLine) :
  Inv X pins σ (upd H s.heap.objs.size (.lst ys)) { s with heap:=s.heap.push { cls:=.type "list", data:=.seq its.toArray },toks:=t' }:=
 I.laid (fun _ _ q=>Heap.get?_push_of_some _ q) (Nat.le_refl _) ⟨hz,its,0,hv,Heap.get?_push_size _ rfl⟩
theorem Inv.fresh (I:Inv X pins σ H s):H s.heap.objs.size=none:=I.hok.fresh (Nat.le_refl _)
theorem Inv.lstM (I:Inv X pins σ H s) (hH:H l=some (.lst xs)):xs.length≤sizeLine ∧ ∃ (its:List Value) (n:Nat),Vals xs its∧xs.length=its.length∧s.heap.get? l=some { cls:=.type "list", data:=.seq its.toArray n }:=by
 obtain ⟨z,its,n,r,e⟩:=I.hok l _ hH
 exact ⟨z,its,n,r,r.length,e⟩
theorem notLongL {n:Nat} (h:n≤sizeLine):Builtin.List.listTooLong n=false:=by
 unfold Builtin.List.listTooLong
 exact decide_eq_false (by omega)
end
section
variable {X : Cx}
def rAppend:V→List V→Hp→VK→Prop:=fun x vs H Q=>∃ l xs y,x = .ref l∧vs=[y]∧H l=some (.lst xs)∧xs.length < sizeLine∧Q .non (upd H l (.lst (xs++[y])))
theorem mt_append:MtM X "list.append" rAppend:=by
 intro pins s σ H x vs v us Q I rx rv h
 obtain ⟨l,xs,y,rfl,rfl,hH,hz,q⟩:=h
 cases rx
 obtain ⟨u,rfl,ru⟩:=rv.one
 obtain ⟨z,its,n,r,hl,e⟩:=I.lstM hH
 refine call_meets F.slot_list_append ⟨_,e,rfl⟩ F.entry_list_append (F.args_list_append_2 _ _) (PySem.list_append l its.toArray n u (by rw [List.size_toArray];omega)) ⟨e,?_⟩
 refine ⟨.non,_,I.lset (its':=its++[u]) hH e (by simp) (r.append (.cons ru .nil)) ?_,rfl,q⟩
 rw [List.length_append,List.length_singleton]
 omega
def rExtend:V→List V→Hp→VK→Prop:=fun x vs H Q=>∃ l b xs zs,x = .ref l∧vs=[.ref b]∧H l=some (.lst xs)∧H b=some (.lst zs)∧xs.length+zs.length≤sizeLine∧Q .non (upd H l (.lst (xs++zs)))
theorem mt_extend:MtM X "list.extend" rExtend:=by
 intro pins s σ H x vs v us Q I rx rv h
 obtain ⟨l,b,xs,zs,rfl,rfl,hH,hB,hz,q⟩:=h
 cases rx
 obtain ⟨u,rfl,ru⟩:=rv.one
 cases ru
 obtain ⟨z,its,n,r,hl,e⟩:=I.lstM hH
 obtain ⟨z2,its2,n2,r2,hl2,e2⟩:=I.lstM hB
 have hsz:its.toArray.size+its2.toArray.size≤sizeLine:=by rw [List.size_toArray,List.size_toArray];omega
 have hlong : ¬ (!its.toArray.isEmpty && Builtin.List.listTooLong (its.toArray.size+its2.toArray.size))=true:=by
  rw [notLongL hsz,Bool.and_false]
  exact Bool.false_ne_true
 refine call_meets F.slot_list_extend ⟨_,e,rfl⟩ F.entry_list_extend (F.args_list_extend_2 _ _)
  (AutoSeq1.list_extend_list_list_0 l its.toArray n b its2.toArray n2 hlong (by rw [List.size_toArray];omega) (by omega)) ⟨e,e2,?_⟩
 refine ⟨.non,_,I.lset (its':=its++its2) hH e (by simp) (r.append r2) ?_,rfl,q⟩
 rw [List.length_append]
 omega
def rPop:V→List V→Hp→VK→Prop:=fun x vs H Q=>∃ l xs y,x = .ref l∧vs=[]∧H l=some (.lst xs)∧xs[xs.length - 1]? = some y∧Q y (upd H l (.lst xs.dropLast))
theorem mt_pop:MtM X "list.pop" rPop:=by
 intro pins s σ H x vs v us Q I rx rv h
 obtain ⟨l,xs,y,rfl,rfl,hH,hy,q⟩:=h
 cases rx
 have hus:=rv.zero
 subst hus
 obtain ⟨z,its,n,r,hl,e⟩:=I.lstM hH
 obtain ⟨u,hu,ru⟩:=r.get hy
 have hy':its.toArray[its.toArray.size - 1]? = some u:=by
  show its.toArray[its.length - 1]? = some u
  rw [← Array.getElem?_toList,← hl]
  exact hu
 refine call_meets F.slot_list_pop ⟨_,e,rfl⟩ F.entry_list_pop (F.args_list_pop_1 _) (MeetsSeq.list_pop_last l its.toArray n u hy' (by rw [List.size_toArray];omega)) ⟨e,?_⟩
 refine ⟨y,_,I.lset (its':=its.dropLast) hH e ?_ r.dropLast ?_,ru,q⟩
 ·show its.toArray.eraseIdxIfInBounds (its.toArray.size - 1)=its.dropLast.toArray
  rw [List.size_toArray,List.eraseIdxIfInBounds_toArray,erase_last]
 ·rw [List.length_dropLast]
  omega
def rReverse:V→List V→Hp→VK→Prop:=fun x vs H Q=>∃ l xs,x = .ref l∧vs=[]∧H l=some (.lst xs)∧Q .non (upd H l (.lst xs.reverse))
theorem mt_reverse:MtM X "list.reverse" rReverse:=by
 intro pins s σ H x vs v us Q I rx rv h
 obtain ⟨l,xs,rfl,rfl,hH,q⟩:=h
 cases rx
 have hus:=rv.zero
 subst hus
 obtain ⟨z,its,n,r,hl,e⟩:=I.lstM hH
 refine call_meets F.slot_list_reverse ⟨_,e,rfl⟩ F.entry_list_reverse (F.args_list_reverse_1 _) (AutoSeq1.list_reverse_list_0 l its.toArray n (by rw [List.size_toArray];omega)) ⟨e,?_⟩
 refine ⟨.non,_,I.lset (its':=its.reverse) hH e (by simp) r.reverse ?_,rfl,q⟩
 rw [List.length_reverse]
 omega
def rCat:R2:=fun x y H Q=>∃ l b xs zs,x = .ref l∧y = .ref b∧H l=some (.lst xs)∧H b=some (.lst zs)∧xs.length+zs.length≤sizeLine ∧ ∀ p,H p=none→Q (.ref p) (upd H p (.lst (xs++zs)))
theorem op_cat:OpR X (binaryOp .Add) rCat:=by
 intro pins s σ H x y v u Q I rx ry h
 obtain ⟨l,b,xs,zs,rfl,rfl,hH,hB,hz,q⟩:=h
 cases rx
 cases ry
 obtain ⟨z,its,n,r,hl,e⟩:=I.lstM hH
 obtain ⟨z2,its2,n2,r2,hl2,e2⟩:=I.lstM hB
 refine PySem.P.add_list e e2 ?_ (by rw [List.size_toArray,List.size_toArray];omega)
 have ea:its.toArray++its2.toArray=(its++its2).toArray:=by simp
 rw [ea]
 exact ⟨.ref _,_,I.lnew (t':=s.toks) (r.append r2) (by rw [List.length_append];omega),rfl,q _ I.fresh⟩
end
section
variable {prog : Program} {w : World} {A : Around} {E : Value → Shared → Prop} {s : Shared}
set_option maxRecDepth 100000 in
end
end L2
namespace Att
open PySem PySem.W PySem.Calls PyProof.Rows
theorem ints_of_wellAll {P : Params} {h : Heap} : ∀ (ns : List Int) (vs : List Value), WellAll P h vs (ns.map WData.int) → IntsAre vs ns := by
  intro ns
  induction ns with
  | nil =>
    intro vs w
    rw [List.map_nil] at w
    cases w
    exact .nil
  | cons n ns ih =>
    intro vs w
    rw [List.map_cons] at w
    cases w with
    | cons a b =>
      cases a
      exact .cons _ _ (ih _ b)
theorem script_of {l : OpenLaw} {n : Nat} (hn : l.most = some n) {P : Params} {h : Heap} {args : List WData} {vals : List Value}
    (hpre : l.row.toRowW.claim.pre args = true) (hwl : WellAll P h vals args) :
    ∃ a vs ns, vals = [Value.ref a] ∧ args = [WData.list (ns.map WData.int)] ∧ h.get? a = some { cls := .type "list", data := .seq vs.toArray } ∧ IntsAre vs ns ∧ ns.length ≤ n := by
  have hsh : WShape.hasAll [] args [.list .int] = true := (pre_splitW hpre).1
  have hc : l.pre.holds [] { args := args } = true := (pre_splitW hpre).2
  obtain ⟨d, r, rfl, h1, h2⟩ := hasAllW_cons hsh
  obtain rfl := hasAllW_nil h2
  obtain ⟨xs, rfl, h3⟩ := hasW_list h1
  obtain ⟨ns, rfl⟩ := items_int h3
  have hlen : ns.length ≤ n := by
    unfold OpenLaw.pre at hc
    have h4 : (WTm.not (.lt (.lit (.int (n : Int))) (.len (.arg 0)))).holds [] { args := [.list (ns.map .int)] } = true := by
      have h4 := (holds_andW hc).1
      rw [hn] at h4
      exact h4
    have h5 := condW_of h4 (w_not (w_lt w_lit (w_len_list (w_arg rfl))))
    rw [List.length_map] at h5
    refine Nat.le_of_not_lt fun q => ?_
    have q' : (n : Int) < ((ns.length : Nat) : Int) := by omega
    first
      | (rw [decide_eq_true q'] at h5; exact absurd h5 (by decide))
      | (simp at h5; omega)
  cases hwl with
  | cons w1 w2 =>
    cases w2
    cases w1 with
    | list ho hall => exact ⟨_, _, ns, rfl, rfl, ho, ints_of_wellAll ns _ hall, hlen⟩
theorem post_true (l:OpenLaw) (args:List WData):l.row.toRowW.claim.post args (.bool true) args=true:=
 postW_of (r:=l.row.toRowW) (X:=(true == true))
  (show WShape.has [] (.bool true) .bool=true by first | rfl | decide | simp [WShape.has,WShape.arms,WShape.armsAll])
  (show (WTm.eq .res (.lit (.bool true))).value [] { args:=args,res:=some (.bool true),after:=args }=some (.bool (true == true)) from w_eq_bool (w_res rfl) w_lit) rfl
theorem attach_call {l:OpenLaw} {n:Nat} {q:Program} {loose:List Str} {XP:(Str→Option Value)→Heap→Prop} {YP:World→Heap→Prop} {d:DefRec}
  (hn:l.most=some n) (hdf:d.params.defaults=[])
  (call : ∀ (w:World) (s₀ s₁:Shared) (mg mb:Str→Option Value) (fa:Addr) (o:Obj) (pm cd doc:Value) (a:Addr) (vs:List Value) (ns:List Int),
   Ground q loose [] XP w s₀ mg mb s₁.heap→YP w s₁.heap →
   s₁.heap.get? fa=some o→o.data = .func (docDef d.name d.params d.body d.scope pm cd doc)→s₁.heap.CodeRec cd d.name→mg d.name=some (.ref fa) →
   s₁.heap.get? a=some { cls:=.type "list", data:=.seq vs.toArray }→IntsAre vs ns→ns.length≤n→s₁.gens = #[] →
   codeAny (model l.prog w) callerA (.call (.ref fa) ⟨[.ref a],[]⟩) (fun r s'=>r = .ok (.ret (.bool true))∧OldK s₁.heap s'.heap∧s'.os=s₁.os∧AllBare s'.gens) s₁) :
  WalkO q loose XP YP l.row.toRowW d [] (fun f vs=>PySem.call f vs):=by
 intro w s₀ s₁ mg mb G Y fa o pm cd doc dV kV ho hd hcd hD hmg hg args vals as hpre hlay hrd hwl hlo
 obtain rfl:dV = .none:=Dflts.none hD hdf
 obtain rfl:kV = .none:=Dflts.noKw hD
 obtain ⟨a,vs,ns,rfl,rfl,hobj,hints,hlen⟩:=script_of hn hpre hwl
 refine enter_call (codeAny_mono (call w s₀ s₁ mg mb fa o pm cd doc a vs ns G Y ho (fd_plain hd) hcd hmg hobj hints hlen hg) fun r s' hq=>?_)
 obtain ⟨rfl,h2,h3,h4⟩:=hq
 exact ⟨.inl ⟨.bool true,.bool true,[],rfl,fun _=>rfl,.bool true,post_true l _,fun _=>⟨List.Pairwise.nil,fun _ hm=>(nomatch hm)⟩⟩,h2,h3,h4⟩
end Att
namespace L2
open PySem PySem.Spec PyProof.Rows
theorem vals_ints : ∀ {vs:List Value} {ns:List Int},IntsAre vs ns→Vals (ns.map V.int) vs
 | _,_,.nil=>.nil
 | _,_,.cons n t h=>.cons ⟨t,rfl⟩ (vals_ints h)
def Only (H:Hp):Prop:=∀ b,H b=none ∨ ∃ o xs,H b=some (.frz o (.lst xs))
theorem law_call {P : Program} {w : World} {K : W.Frag} {mg mb : Str → Option Value} {CX : CXT} {k : Nat} {fa a : Addr} {fd : FuncData} {x : Str} {sp : Sp} {s₁ : Shared} {vs : List Value} {ns : List Int}
    (KX : K.In s₁.heap) (hns : s₁.heap.Ns mainGlobals mg) (hb : s₁.heap.Ns builtinsNs mb) (hbb : ∀ x : Str, x ≠ "__name__" → mb x = bootBuiltins x) (hlim : s₁.heap.NoLimit) (hg : s₁.gens = #[])
    (ha : s₁.heap.get? a = some { cls := .type "list", data := .seq vs.toArray }) (hi : IntsAre vs ns) (hl : ns.length ≤ sizeLine) (hr : Room k callerA)
    (F : ∀ base : Heap, K.In base → base.Ns mainGlobals mg → FnOk P w K mg base CX k fa fd [x] sp) (hbind : ∀ (s : Shared) (u : Value), BindsTo s fd ⟨[u], []⟩ [(x, u)])
    (hsp : ∀ H : Hp, Only H → SqL K H a (ns.map V.int) → sp [.ref a] H (fun v _ => v = .bl true) fun _ _ _ => False)
    (hCX : ∀ H e s', CX [] H s₁ (fun _ _ _ => False) e s' → False) :
    codeAny (model P w) callerA (.call (.ref fa) ⟨[.ref a], []⟩) (fun r s' => r = .ok (.ret (.bool true)) ∧ OldK s₁.heap s'.heap ∧ s'.os = s₁.os ∧ AllBare s'.gens) s₁ := by
  have rv := vals_ints hi
  have lenV := hi.length
  have core : ∀ H : Hp, Only H → SqL K H a (ns.map V.int) → HOk P w H s₁.heap → (∀ b, H b ≠ none → b = a) → (H a ≠ none → K.lookup a = none) →
      codeAny (model P w) callerA (.call (.ref fa) ⟨[.ref a], []⟩) (fun r s' => r = .ok (.ret (.bool true)) ∧ OldK s₁.heap s'.heap ∧ s'.os = s₁.os ∧ AllBare s'.gens) s₁ := by
    intro H hO hS hok hA hK
    have base_of : ∀ {b : Addr} {o : Obj}, s₁.heap.get? b = some o → H b = none → (hidT s₁.heap H).get? b = some o := fun e n => hidT_get e n
    have noA : ∀ {b : Addr} {o : Obj} {es : Array DictEntry} {ep : Nat}, s₁.heap.get? b = some o → o.data = .dict es ep → H b = none := fun {b o es ep} e d => by
      cases q : H b with
      | none => rfl
      | some u =>
        have e' : b = a := hA b (by rw [q]; simp)
        subst e'
        rw [ha] at e; cases e
        have d' : Data.seq vs.toArray _ = Data.dict es ep := d
        cases d'
    have nsK : ∀ {b : Addr} {m : Str → Option Value}, s₁.heap.Ns b m → (hidT s₁.heap H).Ns b m := fun {b m} ⟨o, es, ep, e, d, r⟩ => ⟨o, es, ep, base_of e (noA e d), d, r⟩
    have hKb : K.In (hidT s₁.heap H) := fun b o e => base_of (KX b o e) (by
      cases q : H b with
      | none => rfl
      | some u =>
        have e' : b = a := hA b (by rw [q]; simp)
        subst e'
        rw [hK (by rw [q]; simp)] at e; cases e)
    have hM : Mod K mg (hidT s₁.heap H) := ⟨hKb, nsK hns, ⟨mb, nsK hb, hbb⟩, let ⟨mc, h1, h2⟩ := hlim; ⟨mc, nsK h1, h2⟩⟩
    have e0 : Env0 P w K mg (hidT s₁.heap H) callerA [] s₁ H := ⟨rfl, hM, fun b o e => of_hidT e, Nat.le_of_eq (hidT_size _ _), trivial, fun b hb => absurd (show b ∈ ([] : List Addr) from hb) (by simp), hok, .of_eq hg⟩
    refine codeAny_mono ((F _ hKb (nsK hns)).run callerA [] s₁ H ⟨[.ref a], []⟩ [.ref a] [.ref a] _ _ hr e0 (hbind s₁ (.ref a)) (.cons rfl .nil) (hsp H hO hS)) fun r s' h => ?_
    cases r with
    | error e => exact (hCX H e s' h).elim
    | ok fl =>
      cases fl with
      | next => exact False.elim h
      | brk => exact False.elim h
      | cont => exact False.elim h
      | ret u =>
        obtain ⟨v, H', os, bare, un, hok', r', q⟩ := h
        have q' : v = .bl true := q
        subst q'
        obtain rfl : u = Value.bool true := r'
        refine ⟨rfl, OldK.of_keep fun b o e => ?_, os, bare⟩
        cases q : H b with
        | none => exact un.keep b o e q (by intro z; exact absurd (show b ∈ ([] : List Addr) from z) (by simp)) (by simp)
        | some u =>
          rcases hO b with z | ⟨ob, xs, z⟩
          · rw [q] at z; cases z
          · have z2 := un.frzs b ob _ z
            obtain ⟨e1, _⟩ := hok b _ z
            obtain ⟨e2, _⟩ := hok' b _ z2
            rw [e] at e1; cases e1
            exact e2
  cases hk : K.lookup a with
  | some o =>
    have e := KX a o hk
    rw [ha] at e
    cases e
    refine core (fun _ => none) (fun _ => .inl rfl) (.inr ⟨_, vs.toArray, _, hk, rfl, rfl, rfl, by rw [List.size_toArray, lenV]; exact hl, by simpa using rv⟩) (fun b u z => by have z' : (none : Option HO) = some u := z; cases z') (fun b z => absurd rfl z) fun z => absurd rfl z
  | none =>
    refine core (fun b => if b = a then some (.frz { cls := .type "list", data := .seq vs.toArray } (.lst (ns.map V.int))) else none) (fun b => ?_) (.inl (.inr ⟨{ cls := .type "list", data := .seq vs.toArray }, if_pos rfl⟩)) (fun b u z => ?_) (fun b z => ?_) fun _ => hk
    · by_cases hb : b = a
      · exact .inr ⟨_, _, if_pos hb⟩
      · exact .inl (if_neg hb)
    · by_cases hb : b = a
      · have z' := (if_pos hb).symm.trans z
        cases z'
        subst hb
        exact ⟨ha, by rw [List.length_map]; exact hl, vs, _, rv, ha⟩
      · have z' := (if_neg hb).symm.trans z
        cases z'
    · by_cases hb : b = a
      · exact hb
      · exact absurd (if_neg hb) z
theorem walk_of {l:W.OpenLaw} {n k:Nat} {q:Program} {loose:List Str} {XP:(Str→Option Value)→Heap→Prop} {YP:World→Heap→Prop} {d:DefRec} {K:Params→W.Frag} {CX:World→CXT} {sp:World→Sp} {x:Str}
  (hn:l.most=some n) (hn2:n≤sizeLine) (hdf:d.params.defaults=[]) (hr:Room k callerA)
  (hY : ∀ (w:World) (h:Heap),YP w h→(K w.params).In h)
  (F : ∀ (w:World) (mg:Str→Option Value) (fa:Addr) (h:Heap),(K w.params).In h→h.Ns mainGlobals mg→mg d.name=some (.ref fa) →
   ∃ fd:FuncData,(∀ (s:Shared) (u:Value),BindsTo s fd ⟨[u],[]⟩ [(x,u)]) ∧
    ∀ base:Heap,(K w.params).In base→base.Ns mainGlobals mg→FnOk l.prog w (K w.params) mg base (CX w) k fa fd [x] (sp w))
  (hsp : ∀ (w:World) (H:Hp) (a:Addr) (ns:List Int),ns.length≤n→Only H→SqL (K w.params) H a (ns.map V.int)→sp w [.ref a] H (fun v _=>v = .bl true) fun _ _ _=>False)
  (hCX : ∀ (w:World) (H:Hp) (s:Shared) (e:Value) (s':Shared),CX w [] H s (fun _ _ _=>False) e s'→False) :
  W.WalkO q loose XP YP l.row.toRowW d [] (fun f vs=>PySem.call f vs):=by
 refine Att.attach_call hn hdf fun w s₀ s₁ mg mb fa o pm cd doc a vs ns G Y ho hd hcd hmg hobj hints hlen hg=>?_
 have KX:=hY w _ Y
 obtain ⟨fd,hb,hF⟩:=F w mg fa _ KX G.T.g hmg
 exact law_call KX G.T.g G.T.b G.T.builtins G.T.nolimit hg hobj hints (Nat.le_trans hlen hn2) hr hF hb (fun H hO hS=>hsp w H a ns hlen hO hS) fun H e s'=>hCX w H s₁ e s'
def inClass (s:Stmt) (j:Nat):Stmt:=match s with
 | .ClassDef _ _ _ body _ _ _ _ _ _ _=>body.getD j (.Pass ⟨0,0,0,0⟩)
 | _=>.Pass ⟨0,0,0,0⟩
def defArgs (s:Stmt):Arguments:=match s with
 | .FunctionDef _ a _ _ _ _ _ _ _ _=>a
 | _=>{ posonlyargs:=[],args:=[],vararg:=none,kwonlyargs:=[],kw_defaults:=[],kwarg:=none,defaults:=[] }
def defBody (s:Stmt):List Stmt:=match s with
 | .FunctionDef _ _ b _ _ _ _ _ _ _=>b
 | _=>[]
def defScope (s:Stmt):Scope:=match s with
 | .FunctionDef _ _ _ _ _ _ sc _ _ _=>sc
 | _=>{ kind:=.function,names:=[],isGenerator:=false,isCoroutine:=false }
abbrev CX0:CXT:=fun _ _ _ _ _ _=>False
abbrev E0:XK:=fun _ _ _=>False
theorem pass0 {X:Cx}:Passes CX0 X E0:=fun _ _ _ _ _ _ _ h=>h.elim
structure Fun (K:W.Frag) (x qual:Str) (st:Stmt) (f:Addr) (fd:FuncData):Prop where
 ex : ∃ (oc:Value) (od:Option Addr) (kV doc pm:Value) (an:Option Addr) (cdv ct:Value) (osl:Array (Option Value)),
  fd=W.fnOf x qual (defArgs st) (defBody st) (defScope st) .none kV doc pm an cdv ct∧K.lookup f=some ⟨oc,od,.func fd,osl⟩∧W.codeIn K cdv qual=true
 kp:W.keepIn K (.ref f)=true
section
variable {P : Program} {w : World} {K : W.Frag} {mg : Str → Option Value} {base : Heap}
theorem Fun.ok {x qual:Str} {st:Stmt} {f:Addr} {fd:FuncData} {N ps:List Str} {k:Nat} {sp:Sp} (F:Fun K x qual st f fd) (S:FnScope N ps (defScope st)) (len : ∀ vs H Q E,sp vs H Q E→vs.length=ps.length)
  (hbody : ∀ (cdv:Value) (A:Around) (outer:List Env) (s:Shared) (H:Hp) (vs:List V) (Q:VK) (E:XK),Room k (A.deeper (envOfC qual (defScope st) s.heap.objs.size f cdv))→sp vs H Q E →
   ∃ t,PSs (cxOf CX0 P w K mg base N qual (defScope st) f cdv A outer s H E).nox (defBody st) t∧t { nx:=fun _ H'=>Q .non H',rt:=Q } (start N vs) H):FnOk P w K mg base CX0 (k+1) f fd ps sp:=by
 obtain ⟨oc,od,kV,doc,pm,an,cdv,ct,osl,rfl,lk,hcd⟩:=F.ex
 refine fn_of lk hcd S len fun A outer s H vs Q E hr hsp=>?_
 obtain ⟨t,h,q⟩:=hbody cdv A outer s H vs Q E hr hsp
 exact ⟨t,h.nox,q⟩
theorem Fun.binds {x qual:Str} {st:Stmt} {f:Addr} {fd:FuncData} {ps:List Str} (F:Fun K x qual st f fd)
  (h : ∀ (kV doc pm:Value) (an:Option Addr) (cdv ct:Value) (us:List Value),us.length=ps.length→bindArgs (W.fnOf x qual (defArgs st) (defBody st) (defScope st) .none kV doc pm an cdv ct) ⟨us,[]⟩=pure (ps.zip us)):Binds K fd ps []:=by
 obtain ⟨oc,od,kV,doc,pm,an,cdv,ct,osl,rfl,lk,hcd⟩:=F.ex
 exact .all (h kV doc pm an cdv ct)
theorem fun_mk {x qual:Str} {st:Stmt} {f:Addr} {oc:Value} {od an:Option Addr} {osl:Array (Option Value)} {kV doc pm cdv ct:Value} (l:K.lookup f=some ⟨oc,od,.func (W.fnOf x qual (defArgs st) (defBody st) (defScope st) .none kV doc pm an cdv ct),osl⟩)
  (c:W.codeIn K cdv qual=true) (k:W.keepIn K (.ref f)=true):Fun K x qual st f (W.fnOf x qual (defArgs st) (defBody st) (defScope st) .none kV doc pm an cdv ct):=⟨⟨oc,od,kV,doc,pm,an,cdv,ct,osl,rfl,l,c⟩,k⟩
end
theorem hu_of {A:Around} {k:Nat} (hr:Room k A):A.units+1 < cLine:=Nat.lt_of_le_of_lt (Nat.add_le_add_left (by decide:1≤64) _) hr.units
theorem small1000 {n:Nat} (h:n≤1000):n < sizeLine:=Nat.lt_of_le_of_lt h (by decide)
section
variable {X : Cx}
theorem pv (i:Nat) {x:Str} {pos:Pos} (hN:X.N[i]? = some x:=by rfl) (hv:Vis X.env.scope x:=by first | exact Or.inl rfl | exact Or.inr (Or.inl rfl) | exact Or.inr (Or.inr rfl)) (hd:(x == ("__debug__" : Str))=false:=by decide)
  (hcd:(x == ("__classdict__" : Str))=false:=by decide):PE X (.Name x pos) (tVar i):=pe_var hN hv hd hcd
end
theorem iteF {A B:Prop} (h:B):if false=true then A else B:=by
 rw [if_neg Bool.false_ne_true]
 exact h
theorem iteT {A B:Prop} (h:A):if true=true then A else B:=by
 rw [if_pos rfl]
 exact h
def Same (H H':Hp):Prop:=∀ b o,H b=some o→H' b=some o
theorem Same.refl (H:Hp):Same H H:=fun _ _ h=>h
theorem Same.trans {H H1 H2:Hp} (a:Same H H1) (b:Same H1 H2):Same H H2:=fun c o h=>b c o (a c o h)
theorem Same.free {H H' : Hp} (e : Same H H') {l : Addr} (h : H' l = Option.none) : H l = Option.none := by
  cases q : H l with
  | none => rfl
  | some o =>
    rw [e l o q] at h
    cases h
theorem Same.seq {K:W.Frag} {H H':Hp} {a:Addr} {xs:List V} (e:Same H H') (h:SqL K H a xs):SqL K H' a xs:=by
 rcases h with (h | ⟨o,h⟩) | h
 ·exact .inl (.inl (e _ _ h))
 ·exact .inl (.inr ⟨o,e _ _ h⟩)
 ·exact .inr h
set_option maxHeartbeats 4000000
abbrev GL:Int:=100000000000000000000000000000000000000000000000000000000000000000000000000000000000000000000000000000000000000000000000000000000000000000000000000000000000000000000000000000000000000000000000000000000
theorem bits_GL {k:Int} (h1 : -GL < k) (h2:k < GL):Builtin.Int.intBits k≤1000:=by
 unfold Builtin.Int.intBits
 split
 ·exact Nat.zero_le _
 ·have hn:k.natAbs < 100000000000000000000000000000000000000000000000000000000000000000000000000000000000000000000000000000000000000000000000000000000000000000000000000000000000000000000000000000000000000000000000000000000:=by
   unfold GL at h1 h2;omega
  have hp:(100000000000000000000000000000000000000000000000000000000000000000000000000000000000000000000000000000000000000000000000000000000000000000000000000000000000000000000000000000000000000000000000000000000:Nat)≤2 ^ 999:=by decide +kernel
  have:k.natAbs.log2 < 999:=by
   rcases Nat.eq_zero_or_pos k.natAbs with h0 | hp'
   ·rw [h0];decide
   ·exact (Nat.log2_lt (Nat.ne_of_gt hp')).mpr (Nat.lt_of_lt_of_le hn hp)
  omega
def CMulB (i j:Int):Prop:=(-GL < i∧i < GL)∧(-GL < j∧j < GL)
theorem CMulB.ok {i j:Int} (h:CMulB i j):IntMulOk i j:=PySem.IntMulOk.of_le (bits_GL h.1.1 h.1.2) (bits_GL h.2.1 h.2.2) (by decide)
def CMulA (i j:Int):Prop:=CMul i j∨CMulB i j
def CDivB (i j:Int):Prop:=0 < j∧j < GL
def CDivS (i j:Int):Prop:=j≠0 ∧ -GL < j∧j < GL
theorem noPy {i j:Int} (h1 : -GL < j) (h2:j < GL):Builtin.divisionGoesByPylong i j=false:=by
 refine PyProof.noPylong_of_log2 ?_
 have hn:j.natAbs < 100000000000000000000000000000000000000000000000000000000000000000000000000000000000000000000000000000000000000000000000000000000000000000000000000000000000000000000000000000000000000000000000000000000:=by
  unfold GL at h1 h2;omega
 have hp:(100000000000000000000000000000000000000000000000000000000000000000000000000000000000000000000000000000000000000000000000000000000000000000000000000000000000000000000000000000000000000000000000000000000:Nat)≤2 ^ 999:=by decide +kernel
 have:j.natAbs.log2 < 999:=by
  rcases Nat.eq_zero_or_pos j.natAbs with h0 | hp'
  ·rw [h0];decide
  ·exact (Nat.log2_lt (Nat.ne_of_gt hp')).mpr (Nat.lt_of_lt_of_le hn hp)
 omega
section
variable {X : Cx} {a b : Expr} {ta tb : TE} {pos : Pos}
theorem op_mulA:OpR X (binaryOp .Mult) (rI CMulA fun i j=>.int (i*j)):=opI fun _ _ _ _ _ _ _ hc q=>mul_int q (hc.elim CMul.ok CMulB.ok)
theorem op_fdivB:OpR X (binaryOp .FloorDiv) (rI CDivB fun i j=>.int (i / j)):=opI fun i j _ _ _ _ _ hc q=>by
 have h1:(0:Int) < j:=hc.1
 have h2:=hc.2
 exact floordiv_int (by omega) (by rw [Int.fdiv_eq_ediv_of_nonneg i (by omega)];exact q) (.inl (noPy (by unfold GL;omega) h2))
theorem pe_powK {i j k:Int} {n1 n2:Nat} {p1 p2:Pos} (hc:CPow i j) (e:i ^ j.toNat=k):PE X (.BinOp (.Constant (.int i) n1 p1) .Pow (.Constant (.int j) n2 p2) pos) (tC (.int k)):=by
 intro pins s σ H Q I h
 refine pe_op op_pow pe_int pe_int pins s σ H Q I ⟨i,j,rfl,rfl,hc,?_⟩
 show Q (.int (i ^ j.toNat)) H
 rw [e];exact h
def clsV:V→Value
 | .ty T=>.type T
 | .ref C=>.ref C
 | _=>.none
def rIsi (K:W.Frag):List V→Hp→VK→Prop:=fun xs H Q=>∃ x c t b,xs=[x,c]∧TyOf K H x t∧(∃ T,c = .ty T ∨ ∃ C,c = .ref C)∧W.kitOne K t (clsV c)=some b∧Q (.bl b) H
theorem call_isi:CallR X (.builtin "isinstance") (rIsi X.K):=by
 intro pins s σ H xs us Q I r h
 obtain ⟨x,c,t,b,rfl,ty,hc,e,q⟩:=h
 obtain ⟨v,w,rfl,rx,rw'⟩:=vals2 r
 have:w=clsV c:=by
  obtain ⟨T,rfl | ⟨C,rfl⟩⟩:=hc
  ·exact rw'
  ·exact rw'
 subst this
 exact isinst_ok I rx ty e fun tk=>⟨.bl b,H,I.tok _,rfl,q⟩
def eqVs (xs ys:List V):Bool:=(List.range (min xs.length ys.length)).all (fun j=>eqV (xs.getD j .non) (ys.getD j .non)) && xs.length == ys.length
theorem Vals.getD : ∀ {xs:List V} {us:List Value} (j:Nat) (h:j < us.length),Vals xs us→RelV (xs.getD j .non) us[j]
 | _,_,j,h,.nil=>absurd h (Nat.not_lt_zero _)
 | _,_,0,_,.cons r _=>r
 | _,_,j+1,h,.cons _ t=>Vals.getD j (Nat.lt_of_succ_lt_succ h) t
theorem flat_getD : ∀ {xs:List V} (j:Nat),xs.all flatV=true→flatV (xs.getD j .non)=true
 | [],j,_=>by simp [flatV]
 | x::xs,0,h=>by rw [List.all_cons,Bool.and_eq_true] at h;exact h.1
 | x::xs,j+1,h=>by rw [List.all_cons,Bool.and_eq_true] at h;simpa using flat_getD (xs:=xs) j h.2
end
def Has (P:Program) (w:World) (K:W.Frag) (mg:Str→Option Value) (base:Heap) (x:Str) (k:Nat) (ps:List Str) (sp:Sp):Prop:=
 ∃ (f:Addr) (fd:FuncData),FnOk P w K mg base CX0 k f fd ps sp∧mg x=some (.ref f)∧W.keepIn K (.ref f)=true∧Binds K fd ps []
theorem pe_callH {X:Cx} {x:Str} {k n:Nat} {ps:List Str} {sp:Sp} {p pos:Pos} {e:Expr} {es:List Expr} {t:TA} (F:Has X.prog X.w X.K X.mg X.base x k ps sp) (hr:Room n X.A) (hg:Gl X x) (ha:PA X (e::es) t) (hk:k≤n:=by decide)
  (hdb:(x == ("__debug__" : Str))=false:=by decide) (he:starEach (e::es) X.env=(false,eval e X.env)::starEach es X.env:=by rfl) (hpl:(backTo pos (starEach es X.env)).any (·.1)=false:=by rfl) :
  PE X (.Call (.Name x p) (e::es) [] pos) (tCall sp [] E0 t):=by
 obtain ⟨f,fd,G,hm,kp,hb⟩:=F
 exact pe_call G (hr.mono hk) hg hm kp hb .nil pass0 ha hdb he hpl
theorem pe_callBH {X:Cx} {x:Str} {id:String} {p pos:Pos} {e:Expr} {es:List Expr} {t:TA} {r:List V→Hp→VK→Prop} (hc:CallR X (.builtin id) r) (hm:X.mg x=none) (hg:Gl X x) (hv:bootBuiltins x=some (.builtin id)) (ha:PA X (e::es) t) (hn:x ≠ "__name__" := by decide) (hdb:(x == ("__debug__" : Str))=false:=by decide)
  (he:starEach (e::es) X.env=(false,eval e X.env)::starEach es X.env:=by rfl) (hpl:(backTo pos (starEach es X.env)).any (·.1)=false:=by rfl):PE X (.Call (.Name x p) (e::es) [] pos) (tCB r t):=
 pe_callB hc hg hm hv ha hn hdb he hpl
theorem same_new {H:Hp} {p:Addr} (h:H p=none) (o:HO):Same H (upd H p o):=fun b u q=>by rw [upd_ne (ne_of_none q h)];exact q
theorem Same.at {H H':Hp} (g:Same H H') {b:Addr} {o:HO} (h:H b=some o):H' b=some o:=g b o h
theorem small {n:Nat} (h:n≤1000):n≤sizeLine:=Nat.le_of_lt (small1000 h)
section
variable {σ : St} {H : Hp} {Q : VK} {D : Ends} {K : W.Frag}
theorem r_var {i:Nat} {v:V} (e:σ[i]? = some (some v)) (h:Q v H):tVar i σ H Q:=⟨v,e,h⟩
theorem r_c {v:V} (h:Q v H):tC v σ H Q:=h
theorem r_op {r:R2} {ta tb:TE} (h:ta σ H fun x H1=>tb σ H1 fun y H2=>r x y H2 Q):tOp r ta tb σ H Q:=h
theorem r_un {r:V→Hp→VK→Prop} {ta:TE} (h:ta σ H fun x H1=>r x H1 Q):tUn r ta σ H Q:=h
theorem r_I {C:Int→Int→Prop} {g:Int→Int→V} {i j:Int} (hc:C i j) (h:Q (g i j) H):rI C g (.int i) (.int j) H Q:=⟨i,j,rfl,rfl,hc,h⟩
theorem r_I0 {g:Int→Int→V} {i j:Int} (h:Q (g i j) H):rI0 g (.int i) (.int j) H Q:=⟨i,j,rfl,rfl,h⟩
theorem r_U {g:Int→V} {i:Int} (h:Q (g i) H):rU g (.int i) H Q:=⟨i,rfl,h⟩
theorem r_eqI {i j:Int} (h:Q (.bl (decide (i=j))) H):rEq (.int i) (.int j) H Q:=⟨rfl,by rw [show decide (V.int i=V.int j)=decide (i=j) by by_cases e:i=j <;> simp [e]];exact h⟩
theorem r_neI {i j:Int} (h:Q (.bl (!decide (i=j))) H):rNe (.int i) (.int j) H Q:=⟨rfl,by rw [show decide (V.int i=V.int j)=decide (i=j) by by_cases e:i=j <;> simp [e]];exact h⟩
theorem r_eqS {x y:Str} {b:Bool} (e:decide (x=y)=b) (h:Q (.bl b) H):rEq (.str x) (.str y) H Q:=⟨rfl,by rw [show decide (V.str x=V.str y)=decide (x=y) by by_cases e:x=y <;> simp [e],e];exact h⟩
theorem r_test {t:TE} {R:Bool→Hp→Prop} (h:t σ H fun x H'=>∃ k,x = .bl k∧R k H'):tTest t σ H R:=h
theorem r_tB {t:TE} {R:Bool→Hp→Prop} (h:t σ H fun x H'=>∃ k,x = .bl k∧R k H'):tB t σ H R:=h
theorem r_exbl {b:Bool} {R:Bool→Prop} (h:R b) : ∃ k,V.bl b = .bl k∧R k:=⟨b,rfl,h⟩
theorem r_and {t u:TT} {R:Bool→Hp→Prop} (h:t σ H fun c H1=>if c=true then u σ H1 R else R false H1):tAnd t u σ H R:=h
theorem r_or {t u:TT} {R:Bool→Hp→Prop} (h:t σ H fun c H1=>if c=true then R true H1 else u σ H1 R):tOr t u σ H R:=h
theorem r_not {t:TT} {R:Bool→Hp→Prop} (h:t σ H fun c H1=>R (!c) H1):tNot t σ H R:=h
theorem r_andV {ta tb:TE} (h:ta σ H fun x H1=>∃ c,x = .bl c∧if c=true then tb σ H1 Q else Q (.bl false) H1):tAndV ta tb σ H Q:=h
theorem r_orV {ta tb:TE} (h:ta σ H fun x H1=>∃ c,x = .bl c∧if c=true then Q (.bl true) H1 else tb σ H1 Q):tOrV ta tb σ H Q:=h
theorem r_notV {ta:TE} (h:ta σ H fun x H1=>∃ c,x = .bl c∧Q (.bl (!c)) H1):tNotV ta σ H Q:=h
theorem r_chain {r r':R2} {ta tb tc:TE} (h:ta σ H fun x H1=>tb σ H1 fun y H2=>r x y H2 fun z H3=>∃ k,z = .bl k∧(if k=true then tc σ H3 fun w' H4=>r' y w' H4 Q else Q (.bl false) H3)):tChain r r' ta tb tc σ H Q:=h
theorem r_seq {t u:TS} (h:t { D with nx:=u D } σ H):tSeq t u D σ H:=h
theorem r_next (h:D.nx σ H):tNext D σ H:=h
theorem r_asg {te:TE} {g:TG} (h:te σ H fun x H1=>g x σ H1 D.nx):tAsg te g D σ H:=h
theorem r_name {i:Nat} {v:V} {R:St→Hp→Prop} (h:R (σ.set i (some v)) H):gName i v σ H R:=h
theorem r_ret {te:TE} (h:te σ H D.rt):tRet te D σ H:=h
theorem r_drop {te:TE} (h:te σ H fun _ H1=>D.nx σ H1):tDrop te D σ H:=h
theorem r_ifS {c:TT} {t u:TS} (h:c σ H fun b H1=>if b=true then t D σ H1 else u D σ H1):tIfS c t u D σ H:=h
theorem r_nil {R:List V→Hp→Prop} (h:R [] H):tNil σ H R:=h
theorem r_cons {ta:TE} {tr:TA} {R:List V→Hp→Prop} (h:ta σ H fun x H1=>tr σ H1 fun xs H2=>R (x::xs) H2):tCons ta tr σ H R:=h
theorem r_call {sp:Sp} {dvs:List V} {E:XK} {t:TA} (h:t σ H fun vs H1=>sp (vs++dvs) H1 Q E):tCall sp dvs E t σ H Q:=h
theorem r_cb {r:List V→Hp→VK→Prop} {t:TA} (h:t σ H fun vs H1=>r vs H1 Q):tCB r t σ H Q:=h
def kTup (Q:VK) (xs:List V) (H:Hp):Prop:=xs.length≤sizeLine ∧ ∀ p,H p=none→Q (.ref p) (upd H p (.tup xs))
def kLst (Q:VK) (xs:List V) (H:Hp):Prop:=xs.length≤sizeLine ∧ ∀ p,H p=none→Q (.ref p) (upd H p (.lst xs))
theorem r_tup {t:TA} (h:t σ H (kTup Q)):tTup t σ H Q:=h
theorem r_lst {t:TA} (h:t σ H (kLst Q)):tLst t σ H Q:=h
theorem r_kTup {xs:List V} (hz:xs.length≤sizeLine) (h : ∀ p H',Same H H'→H' p=some (.tup xs)→Q (.ref p) H'):kTup Q xs H:=⟨hz,fun p hp=>h p _ (same_new hp _) upd_same⟩
theorem r_ixT {p:Addr} {xs:List V} {i:Int} {v:V} (h:H p=some (.tup xs)) (e:atI xs i=some v) (q:Q v H):rIxT K (.ref p) (.int i) H Q:=⟨p,xs,i,v,rfl,rfl,SqT.of h,e,q⟩
theorem r_ixL {p:Addr} {xs:List V} {i:Int} {v:V} (h:SqL K H p xs) (e:atI xs i=some v) (q:Q v H):rIxL K (.ref p) (.int i) H Q:=⟨p,xs,i,v,rfl,rfl,h,e,q⟩
theorem r_isi {x c:V} {t:Value} {b:Bool} (ty:TyOf K H x t) (hc : ∃ T,c = .ty T ∨ ∃ C,c = .ref C) (e:W.kitOne K t (clsV c)=some b) (q:Q (.bl b) H):rIsi K [x,c] H Q:=⟨x,c,t,b,rfl,ty,hc,e,q⟩
end
def CPos (_ j:Int):Prop:=0 < j
def CNn (_ j:Int):Prop:=0≤j
def CNz (_ j:Int):Prop:=j≠0
theorem op_modP {X:Cx}:OpR X (binaryOp .Mod) (rI CPos fun i j=>.int (i % j)):=op_mod
theorem op_shrP {X:Cx}:OpR X (binaryOp .RShift) (rI CNn fun i j=>.int (i / 2 ^ j.toNat)):=op_shr
section
variable {σ : St} {H : Hp} {Q : VK} {D : Ends} {K : W.Frag}
theorem r_par {i j:Nat} {ta:TA} (h:ta σ H fun vs H1=>∃ v w,vs=[v,w]∧D.nx ((σ.set i (some v)).set j (some w)) H1):tPar i j ta D σ H:=h
theorem r_two {v w:V} {R:V→V→Prop} (h:R v w) : ∃ v' w',[v,w]=[v',w']∧R v' w':=⟨v,w,rfl,h⟩
theorem r_exN {W:Nat→St→Hp→Prop} {m:Nat} {tb:TS} (h:tb { D with nx:=fun σ' H'=>∃ m',m' < m∧W m' σ' H',ct:=fun σ' H'=>∃ m',m' < m∧W m' σ' H',bk:=D.nx } σ H) :
  ∃ N:St→Hp→Prop,(∀ σ' H',N σ' H' → ∃ m',m' < m∧W m' σ' H')∧tb { D with nx:=N,ct:=N,bk:=D.nx } σ H:=⟨_,fun _ _ h=>h,h⟩
theorem r_while {c:TT} {tb:TS} (W:Nat→St→Hp→Prop) (h0 : ∃ m,W m σ H) (hs : ∀ m σ H,W m σ H→c σ H fun b H1=>if b=true then ∃ N:St→Hp→Prop,(∀ σ' H',N σ' H' → ∃ m',m' < m∧W m' σ' H')∧tb { D with nx:=N,ct:=N,bk:=D.nx } σ H1 else D.nx σ H1):tWhile c tb D σ H:=⟨W,h0,hs⟩
def kForR (g:TG) (tb:TS) (D:Ends) (σ:St) (vs:List V) (H:Hp):Prop:=∃ j:Int,vs=[.int j] ∧ -(2 ^ 62)≤j∧j < 2 ^ 62 ∧ ∃ W:Nat→Nat→St→Hp→Prop,(∃ m,W 0 m σ H) ∧ ∀ i m σ H,W i m σ H →
 ((Itr 0 j.toNat).stop i H∧D.nx σ H)∨((Itr 0 j.toNat).go i H ∧ ∃ N:St→Hp→Prop,(∀ σ' H',N σ' H' → ∃ m',m' < m∧W (i+1) m' σ' H') ∧ ∀ x H',(Itr 0 j.toNat).yld i H x H'→g x σ H' fun σ2 H2=>tb { D with nx:=N,ct:=N,bk:=D.nx } σ2 H2)
theorem r_forR {ta:TA} {g:TG} {tb:TS} (h:ta σ H (kForR g tb D σ)):tFor (iRng1 ta) g tb D σ H:=h
theorem r_kForR {g:TG} {tb:TS} {j:Int} (h1 : -(2 ^ 62)≤j) (h2:j < 2 ^ 62) (Pv:Nat→St→Hp→Prop) (h0:Pv 0 σ H)
  (hs : ∀ i σ H,i < j.toNat→Pv i σ H→g (.int (0+i)) σ H fun σ2 H2=>tb { D with nx:=Pv (i+1),ct:=Pv (i+1),bk:=D.nx } σ2 H2) (hd : ∀ σ H,Pv j.toNat σ H→D.nx σ H):kForR g tb D σ [.int j] H:=⟨j,rfl,h1,h2,for_range Pv h0 hs hd⟩
theorem r_gTup {n:Nat} {t:TGs} {a:Addr} {xs:List V} {R:St→Hp→Prop} (h:H a=some (.tup xs)) (hn:xs.length=n) (k:t xs σ H R):gTup K n t (.ref a) σ H R:=⟨a,xs,rfl,SqT.of h,hn,k⟩
theorem r_gCons {t:TG} {u:TGs} {v:V} {r:List V} {R:St→Hp→Prop} (h:t v σ H fun σ' H'=>u r σ' H' R):gCons t u (v::r) σ H R:=⟨v,r,rfl,h⟩
theorem r_gNil {R:St→Hp→Prop} (h:R σ H):gNil [] σ H R:=⟨rfl,h⟩
end
theorem hu_lt {A:Around} {k:Nat} (hr:Room k A):A.units < cLine:=Nat.lt_of_succ_lt (hu_of hr)
theorem r_ix2 {H:Hp} {Q:VK} {K:W.Frag} {p:Addr} {a b:V} {i:Int} (h:H p=some (.lst [a,b])) (hi:i=0∨i=1) (q0:i=0→Q a H) (q1:i=1→Q b H):rIxL K (.ref p) (.int i) H Q:=by
 rcases hi with rfl | rfl
 ·exact r_ixL (SqL.of h) rfl (q0 rfl)
 ·exact r_ixL (SqL.of h) rfl (q1 rfl)
def rAbs:List V→Hp→VK→Prop:=fun xs H Q=>∃ i,xs=[.int i]∧Q (.int (if i < 0 then -i else i)) H
def rMax2:List V→Hp→VK→Prop:=fun xs H Q=>∃ i j,xs=[.int i,.int j]∧Q (.int (if j > i then j else i)) H
def rMin2:List V→Hp→VK→Prop:=fun xs H Q=>∃ i j,xs=[.int i,.int j]∧Q (.int (if j < i then j else i)) H
def rInt1:List V→Hp→VK→Prop:=fun xs H Q=>(∃ i,xs=[.int i]∧Q (.int i) H) ∨ ∃ k,xs=[.bl k]∧Q (.int (if k then 1 else 0)) H
def rLenS (K:W.Frag):List V→Hp→VK→Prop:=fun xs H Q=>∃ p ys,xs=[.ref p]∧(SqL K H p ys∨SqT K H p ys)∧Q (.int ys.length) H
section
variable {X : Cx} {H : Hp} {Q : VK} {K : W.Frag}
theorem call_absN:CallR X (.builtin "abs") rAbs:=call_abs
theorem call_max2N (hc:X.calm=true):CallR X (.builtin "max") rMax2:=call_max2 hc
theorem call_min2N (hc:X.calm=true):CallR X (.builtin "min") rMin2:=call_min2 hc
theorem call_int1N:CallR X (.type "int") rInt1:=call_int1
theorem call_lenN:CallR X (.builtin "len") (rLenS X.K):=call_len_seq
theorem r_absA {i:Int} (h : ∀ k:Int,(0≤i∧k=i)∨(i < 0∧k = -i)→Q (.int k) H):rAbs [.int i] H Q:=⟨i,rfl,h _ (by split <;> omega)⟩
theorem r_max2A {i j:Int} (h : ∀ k:Int,(i < j∧k=j)∨(j≤i∧k=i)→Q (.int k) H):rMax2 [.int i,.int j] H Q:=⟨i,j,rfl,h _ (by split <;> omega)⟩
theorem r_min2A {i j:Int} (h : ∀ k:Int,(j < i∧k=j)∨(i≤j∧k=i)→Q (.int k) H):rMin2 [.int i,.int j] H Q:=⟨i,j,rfl,h _ (by split <;> omega)⟩
theorem r_lenT2 {p:Addr} {a b:V} (h:H p=some (.tup [a,b])) (q:Q (.int 2) H):rLenS K [.ref p] H Q:=⟨p,[a,b],rfl,.inr (SqT.of h),q⟩
theorem r_int1b {k:Bool} (h:Q (.int (if k then 1 else 0)) H):rInt1 [.bl k] H Q:=.inr ⟨k,rfl,h⟩
theorem r_lenL {p:Addr} {ys:List V} (h:SqL K H p ys) (q:Q (.int ys.length) H):rLenS K [.ref p] H Q:=⟨p,ys,rfl,.inl h,q⟩
theorem r_lenT {p:Addr} {ys:List V} (h:H p=some (.tup ys)) (q:Q (.int ys.length) H):rLenS K [.ref p] H Q:=⟨p,ys,rfl,.inr (SqT.of h),q⟩
end
theorem bo_int:bootBuiltins "int" = some (.type "int"):=by decide +kernel
theorem bo_bool:bootBuiltins "bool" = some (.type "bool"):=by decide +kernel
theorem bo_tuple:bootBuiltins "tuple" = some (.type "tuple"):=by decide +kernel
theorem bo_str:bootBuiltins "str" = some (.type "str"):=by decide +kernel
theorem bo_list:bootBuiltins "list" = some (.type "list"):=by decide +kernel
theorem bo_isinstance:bootBuiltins "isinstance" = some (.builtin "isinstance"):=by decide +kernel
theorem bo_abs:bootBuiltins "abs" = some (.builtin "abs"):=by decide +kernel
theorem bo_max:bootBuiltins "max" = some (.builtin "max"):=by decide +kernel
theorem bo_min:bootBuiltins "min" = some (.builtin "min"):=by decide +kernel
theorem bo_len:bootBuiltins "len" = some (.builtin "len"):=by decide +kernel
def kitC (T T':String):Option Bool:=if (Value.type T == Value.type T')=true then some true else if W.kitMeta T'=true then (fastBuiltinMro T).map (·.contains (Value.type T')) else none
theorem kit_ty (K:W.Frag) (T T':String) {b:Bool} (h:kitC T T'=some b):W.kitOne K (.type T) (.type T')=some b:=h
theorem kit_int_int (K:W.Frag):W.kitOne K (.type "int") (.type "int")=some true:=kit_ty K _ _ (by decide +kernel)
theorem kit_int_bool (K:W.Frag):W.kitOne K (.type "int") (.type "bool")=some false:=kit_ty K _ _ (by decide +kernel)
theorem kit_bool_bool (K:W.Frag):W.kitOne K (.type "bool") (.type "bool")=some true:=kit_ty K _ _ (by decide +kernel)
theorem kit_bool_int (K:W.Frag):W.kitOne K (.type "bool") (.type "int")=some true:=kit_ty K _ _ (by decide +kernel)
theorem kit_tuple_tuple (K:W.Frag):W.kitOne K (.type "tuple") (.type "tuple")=some true:=kit_ty K _ _ (by decide +kernel)
theorem kit_int_tuple (K:W.Frag):W.kitOne K (.type "int") (.type "tuple")=some false:=kit_ty K _ _ (by decide +kernel)
theorem kit_bool_tuple (K:W.Frag):W.kitOne K (.type "bool") (.type "tuple")=some false:=kit_ty K _ _ (by decide +kernel)
theorem kit_str_int (K:W.Frag):W.kitOne K (.type "str") (.type "int")=some false:=kit_ty K _ _ (by decide +kernel)
theorem kit_str_str (K:W.Frag):W.kitOne K (.type "str") (.type "str")=some true:=kit_ty K _ _ (by decide +kernel)
theorem kit_str_tuple (K:W.Frag):W.kitOne K (.type "str") (.type "tuple")=some false:=kit_ty K _ _ (by decide +kernel)
theorem kit_int_str (K:W.Frag):W.kitOne K (.type "int") (.type "str")=some false:=kit_ty K _ _ (by decide +kernel)
theorem kit_list_int (K:W.Frag):W.kitOne K (.type "list") (.type "int")=some false:=kit_ty K _ _ (by decide +kernel)
theorem kit_tuple_int (K:W.Frag):W.kitOne K (.type "tuple") (.type "int")=some false:=kit_ty K _ _ (by decide +kernel)
theorem kit_NoneType_int (K:W.Frag):W.kitOne K (.type "NoneType") (.type "int")=some false:=kit_ty K _ _ (by decide +kernel)
theorem kit_NoneType_tuple (K:W.Frag):W.kitOne K (.type "NoneType") (.type "tuple")=some false:=kit_ty K _ _ (by decide +kernel)
theorem kit_dict_int (K:W.Frag):W.kitOne K (.type "dict") (.type "int")=some false:=kit_ty K _ _ (by decide +kernel)
theorem kit_NoneType_str (K:W.Frag):W.kitOne K (.type "NoneType") (.type "str")=some false:=kit_ty K _ _ (by decide +kernel)
theorem kit_list_str (K:W.Frag):W.kitOne K (.type "list") (.type "str")=some false:=kit_ty K _ _ (by decide +kernel)
theorem kit_tuple_str (K:W.Frag):W.kitOne K (.type "tuple") (.type "str")=some false:=kit_ty K _ _ (by decide +kernel)
theorem kit_bool_str (K:W.Frag):W.kitOne K (.type "bool") (.type "str")=some false:=kit_ty K _ _ (by decide +kernel)
theorem kit_dict_str (K:W.Frag):W.kitOne K (.type "dict") (.type "str")=some false:=kit_ty K _ _ (by decide +kernel)
theorem i_d {c:Prop} [Decidable c] {A B:Prop} (h1:c→A) (h2 : ¬ c→B):if decide c=true then A else B:=by
 by_cases h:c
 ·rw [if_pos (decide_eq_true h)];exact h1 h
 ·rw [if_neg (by rw [decide_eq_false h];decide)];exact h2 h
theorem i_nd {c:Prop} [Decidable c] {A B:Prop} (h1:c→B) (h2 : ¬ c→A):if (!decide c)=true then A else B:=by
 by_cases h:c
 ·rw [decide_eq_true h];exact h1 h
 ·rw [decide_eq_false h];exact h2 h
theorem i_dP {c:Prop} [Decidable c] {A B:Prop} (h:c) (h1:A):if decide c=true then A else B:=i_d (fun _=>h1) (fun n=>absurd h n)
theorem i_dN {c:Prop} [Decidable c] {A B:Prop} (h : ¬ c) (h1:B):if decide c=true then A else B:=i_d (fun n=>absurd n h) (fun _=>h1)
theorem i_ndP {c:Prop} [Decidable c] {A B:Prop} (h:c) (h1:B):if (!decide c)=true then A else B:=i_nd (fun _=>h1) (fun n=>absurd h n)
theorem i_ndN {c:Prop} [Decidable c] {A B:Prop} (h : ¬ c) (h1:A):if (!decide c)=true then A else B:=i_nd (fun n=>absurd n h) (fun _=>h1)
theorem i_b {b:Bool} {A B:Prop} (h1:b=true→A) (h2:b=false→B):if b=true then A else B:=by
 cases b with
 | true=>rw [if_pos rfl];exact h1 rfl
 | false=>rw [if_neg (by decide)];exact h2 rfl
theorem i_nT {A B:Prop} (h:B):if (!true)=true then A else B:=h
theorem i_nF {A B:Prop} (h:A):if (!false)=true then A else B:=h
def cxComp (X:Cx) (scope:Scope) (cl:List (Str × Addr)) (N':List Str) (C:Addr) (s₂:Shared) (H₂:Hp) (fp:List Addr):Cx where
 prog:=X.prog
 w:=X.w
 K:=X.K
 mg:=X.mg
 base:=X.base
 A:=X.A
 N:=N'
 s₀:=s₂
 H₀:=H₂
 env:=compEnvC scope cl C X.env
 outer:=X.stack
 stack:=X.stack
 ex:=fp
 calm:=X.calm
 fn:=fun _=>false
 pn:=[]
 xe:=fun _ _=>False
def ClOk (cells:List (Str × Addr)):List (Str × Addr)→Prop
 | []=>True
 | p::r=>cells.lookup p.1=some p.2∧ClOk cells r
theorem ClOk.look {cells : List (Str × Addr)} : ∀ {cl : List (Str × Addr)} {x : Str} {c : Addr}, ClOk cells cl → cl.lookup x = some c → cells.lookup x = some c
  | [], _, _, _, h => by simp at h
  | (y, d) :: r, x, c, ⟨h1, h2⟩, h => by
    rw [List.lookup_cons] at h
    cases e : x == y with
    | true =>
      rw [e] at h
      have e' : x = y := eq_of_beq e
      cases h
      rw [e']; exact h1
    | false =>
      rw [e] at h
      exact ClOk.look h2 h
def FrOk (X:Cx) (scope:Scope):List Str→List Nat→Prop
 | [],[]=>True
 | y::r,j::js=>(X.N[j]? = some y∧scope.names.lookup y=some .free∧(X.env.kindOf y=some .cell∨X.env.kindOf y=some .free))∧FrOk X scope r js
 | _,_=>False
theorem FrOk.get {X : Cx} {scope : Scope} : ∀ {fr : List Str} {js : List Nat} {k : Nat} {y : Str}, FrOk X scope fr js → fr[k]? = some y → ∃ j, js[k]? = some j ∧ X.N[j]? = some y ∧ scope.names.lookup y = some .free ∧ (X.env.kindOf y = some .cell ∨ X.env.kindOf y = some .free)
  | [], _, _, _, _, h => by simp at h
  | _ :: _, [], _, _, h, _ => h.elim
  | y :: r, j :: js, 0, z, ⟨h1, _⟩, h => by simp at h; subst h; exact ⟨j, rfl, h1⟩
  | y :: r, j :: js, k + 1, z, ⟨_, h2⟩, h => by
    obtain ⟨j', e, q⟩ := FrOk.get (k := k) h2 (by simpa using h)
    exact ⟨j', by simpa using e, q⟩
theorem FrOk.len {X:Cx} {scope:Scope} : ∀ {fr:List Str} {js:List Nat},FrOk X scope fr js→fr.length=js.length
 | [],[],_=>rfl
 | [],_::_,h=>h.elim
 | _::_,[],h=>h.elim
 | _::r,_::js,h=>by rw [List.length_cons,List.length_cons,FrOk.len h.2]
theorem relabel_look {env : Env} : ∀ {names : List (Str × NameKind)} {x : Str}, (∀ y ∈ names, y.2 ≠ .cell) →
    ((names.map fun (n, k) => if (k == NameKind.free && env.scope.kind == .function && env.kindOf n == some .cell) then (n, NameKind.cell) else (n, k)).lookup x = some .cell ∨
     (names.map fun (n, k) => if (k == NameKind.free && env.scope.kind == .function && env.kindOf n == some .cell) then (n, NameKind.cell) else (n, k)).lookup x = some .free) → names.lookup x = some .free
  | [], _, _, h => by simp at h
  | (n, k) :: r, x, hc, h => by
    have ih := @relabel_look env r x (fun y hy => hc y (List.mem_cons_of_mem _ hy))
    rw [List.map_cons] at h
    dsimp only at h
    by_cases hb : (k == NameKind.free && env.scope.kind == .function && env.kindOf n == some .cell) = true
    · rw [if_pos hb] at h
      rw [List.lookup_cons] at h
      rw [List.lookup_cons]
      cases e : x == n with
      | true =>
        have : k = .free := by simp at hb; exact hb.1.1
        rw [this]
      | false =>
        rw [e] at h
        exact ih h
    · rw [if_neg hb] at h
      rw [List.lookup_cons] at h
      rw [List.lookup_cons]
      cases e : x == n with
      | true =>
        rw [e] at h
        have hk : k ≠ .cell := hc (n, k) List.mem_cons_self
        rcases h with h | h
        · exact absurd (Option.some.inj h) hk
        · exact h
      | false =>
        rw [e] at h
        exact ih h
theorem relabel_free {env : Env} (hk : env.scope.kind = .function) {x : Str} : ∀ {names : List (Str × NameKind)}, names.lookup x = some .free → (env.kindOf x = some .cell ∨ env.kindOf x = some .free) →
    ((names.map fun (n, k) => if (k == NameKind.free && env.scope.kind == .function && env.kindOf n == some .cell) then (n, NameKind.cell) else (n, k)).lookup x = some .cell ∨
     (names.map fun (n, k) => if (k == NameKind.free && env.scope.kind == .function && env.kindOf n == some .cell) then (n, NameKind.cell) else (n, k)).lookup x = some .free)
  | [], h, _ => by simp at h
  | (n, k) :: r, h, hx => by
    have ih := @relabel_free env hk x r
    rw [List.lookup_cons] at h
    rw [List.map_cons]
    dsimp only
    cases e : x == n with
    | true =>
      rw [e] at h
      have ek : k = .free := Option.some.inj h
      have en : x = n := eq_of_beq e
      subst ek
      rcases hx with hx | hx
      · left
        have hb : ((NameKind.free == NameKind.free) && env.scope.kind == .function && env.kindOf n == some .cell) = true := by rw [← en, hx, hk]; decide
        rw [if_pos hb, List.lookup_cons, e]
      · right
        have hb : ¬ ((NameKind.free == NameKind.free) && env.scope.kind == .function && env.kindOf n == some .cell) = true := by rw [← en, hx, hk]; decide
        rw [if_neg hb, List.lookup_cons, e]
    | false =>
      rw [e] at h
      rcases ih h hx with q | q
      · left
        split <;> rw [List.lookup_cons, e] <;> exact q
      · right
        split <;> rw [List.lookup_cons, e] <;> exact q
section
variable {X : Cx} {pins : List (Addr × Obj)} {σ : St} {H : Hp} {s : Shared}
theorem HOk.track {P:Program} {w:World} {H:Hp} {h:Heap} {a:Addr} {o:HO} (x:HOk P w H h) (hn:H a=none) (new:ObjOk P w (upd H a o) h a o):HOk P w (upd H a o) h:=fun b u e=>by
 by_cases hb:b=a
 ·subst hb;rw [upd_same] at e;cases e;exact new
 ·rw [upd_ne hb] at e
  exact (x b u e).stay (fun c v _ q=>q) (fun c q=>by rw [upd_ne (ne_of_none q hn)];exact q) fun c xs q=>by rw [upd_ne (ne_of_none q hn)];exact q
theorem Inv.track {a:Addr} {o:HO} (I:Inv X pins σ H s) (f:FpOk X pins H a) (new:ObjOk X.prog X.w (upd H a o) s.heap a o):Inv X pins σ (upd H a o) s:=by
 obtain ⟨f0,f1,f2,f3,f4,f5⟩:=f
 have up : ∀ b,H b=none→b≠a→upd H a o b=none:=fun b e n=>by rw [upd_ne n];exact e
 have st : ∀ {b u},H b=some u→upd H a o b=some u:=fun {b u} e=>by rw [upd_ne (ne_of_none e f0)];exact e
 have na : ∀ b ob,X.s₀.heap.get? b=some ob→b ∉ X.ex→b≠a:=fun b ob e hx z=>by
  rcases f3 with q | q
  ·exact hx (z ▸ q)
  ·exact absurd (Nat.lt_of_lt_of_le (Heap.lt_size e) (z ▸ q)) (Nat.lt_irrefl _)
 refine ⟨I.ok,I.os,I.bare,⟨I.base.keep,I.base.slot,fun b ob e n hx=>up b (I.base.free b ob e n hx) (na b ob e hx),I.base.there,fun b xs e=>st (I.base.tups b xs e),fun b ob u e=>st (I.base.frzs b ob u e),fun b ps e=>?_⟩,I.loc,I.cell,up _ I.free (Ne.symm f1),fun x c e=>up c (I.freeC x c e) (f4 x c e),fun p hp=>?_,I.hok.track f0 new,I.len⟩
 ·obtain ⟨m,q⟩:=I.base.tbls b ps e
  exact ⟨m,st q⟩
 ·obtain ⟨e,n,r⟩:=I.pin p hp
  exact ⟨e,up _ n (f5 p hp),r⟩
end
def PIfs (Y:Cx) (ifs:List Expr) (t:TT):Prop:=
 ∀ (pins:List (Addr × Obj)) (s:Shared) (σ:St) (H:Hp) (R:Bool→Hp→Prop),Inv Y pins σ H s→t σ H R →
  wpAny (model Y.prog Y.w) Y.A (forIn ifs true fun c r=>if r=true then do let ok ← isTrue c Y.env (eval c Y.env);pure (ForInStep.yield ok) else pure (ForInStep.yield r)) (TP Y pins σ R) Y.xe s
def tNoIf:TT:=fun _ H R=>R true H
theorem pifs_nil {Y:Cx}:PIfs Y [] tNoIf:=fun _ _ _ H _ I h=>wpAny_tests_nil ⟨H,I,h⟩
def kComp (is : List Nat) (tt : TT) (te : TE) (σ : St) (Q : VK) (J : It) (H1 : Hp) : Prop := ∃ W : Nat → Nat → List V → Hp → Prop, (∃ m, W 0 m [] H1) ∧ ∀ i m ys H, W i m ys H → ys.length ≤ sizeLine ∧
  ((J.stop i H ∧ ∀ p, H p = none → Q (.ref p) (upd H p (.lst ys))) ∨
   (J.go i H ∧ ys.length < sizeLine ∧ ∀ x H', J.yld i H x H' → tt (some x :: is.map fun j => (σ[j]?).getD none) H' fun ok H2 =>
     if ok = true then te (some x :: is.map fun j => (σ[j]?).getD none) H2 fun y H3 => ∃ m', m' < m ∧ W (i + 1) m' (ys ++ [y]) H3 else ∃ m', m' < m ∧ W (i + 1) m' ys H2))
def tComp (is:List Nat) (wi:TI) (tt:TT) (te:TE):TE:=fun σ H Q=>wi σ H fun J H1=>kComp is tt te σ Q J H1
section
variable {X : Cx} {elt iter : Expr} {ifs : List Expr} {x : Str} {px pos : Pos} {scope : Scope} {cl : List (Str × Addr)} {fr : List Str} {is : List Nat} {wi : TI} {tt : TT} {te : TE}
theorem cxComp_ok {pins : List (Addr × Obj)} {σ : St} {H₂ : Hp} {s₂ : Shared} {C : Addr} {fp : List Addr} {N' : List Str} (I : Inv X pins σ H₂ s₂) (hC : s₂.heap.objs.size ≤ C) (hf : ∀ b ∈ fp, FpOk X pins H₂ b) (hfl : ∀ b ∈ fp, b < s₂.heap.objs.size)
    (hcell : ∀ y ∈ scope.names, y.2 ≠ .cell) (hkind : scope.kind = .function) (hcl : ClOk X.env.cells cl) (hfree : (scope.names.all fun p => p.2 != .free || (cl.lookup p.1).isSome) = true) : (cxComp X scope cl N' C s₂ H₂ fp).Ok where
  mod := I.mod
  kind := hkind
  glob := I.ok.glob
  blt := I.ok.blt
  above := hC
  inj := fun x y c h1 h2 => I.ok.inj x y c (hcl.look h1) (hcl.look h2)
  has := fun y h => by
    have h' := relabel_look (env := X.env) hcell h
    have hm : (y, NameKind.free) ∈ scope.names := by
      have aux : ∀ {l : List (Str × NameKind)}, l.lookup y = some .free → (y, NameKind.free) ∈ l := by
        intro l
        induction l with
        | nil => intro z; simp at z
        | cons p r ih =>
          intro z
          obtain ⟨n, k⟩ := p
          rw [List.lookup_cons] at z
          cases e : y == n with
          | true => rw [e] at z; cases z; rw [eq_of_beq e]; exact List.mem_cons_self
          | false => rw [e] at z; exact List.mem_cons_of_mem _ (ih z)
      exact aux h'
    have q : ((NameKind.free != NameKind.free) || (cl.lookup y).isSome) = true := List.all_eq_true.mp hfree _ hm
    have q' : (cl.lookup y).isSome = true := by rw [bne_self_eq_false, Bool.false_or] at q; exact q
    exact Option.isSome_iff_exists.mp q'
  cab := fun _ _ h _ => by cases h
  hd := I.ok.hd
  frames := I.ok.frames
  stk := .inl rfl
  exf := fun b hb => ⟨Nat.ne_of_lt (Nat.lt_of_lt_of_le (hfl b hb) hC), fun y c e => (hf b hb).2.2.2.2.1 y c (hcl.look e)⟩
  bs := I.bs
  bsz := Nat.le_trans I.ok.bsz I.sz
  noex := fun b o e hb => by
    rcases (hf b hb).2.2.2.1 with q | q
    · exact I.ok.noex b o e q
    · exact absurd (Nat.lt_of_lt_of_le (Heap.lt_size e) (Nat.le_trans I.ok.bsz q)) (Nat.lt_irrefl _)
  exfs := fun b hb z => by
    rcases List.mem_cons.mp (I.stkSub b z) with q | q
    · exact (hf b hb).2.1 q
    · exact (hf b hb).2.2.1 q
  funs := I.stack
  frf := I.stkFree
def CompOut (X:Cx) (pins:List (Addr × Obj)) (σ:St) (Q:VK) (acc:Value) (C:Addr) (r:Result) (s':Shared):Prop:=match r with
 | .ok _=>∃ (D:Addr) (H':Hp) (m:Str→Option Value),acc = .ref D∧Inv X pins σ H' s'∧s'.heap.Ns C m∧FpOk X pins H' C∧Q (.ref D) H'
 | .error _=>False
theorem unlet {M:Model} {A:Around} {E:Value→Shared→Prop} {s:Shared} {x:Str} {px:Pos} {it u:Value} {Q1:Unit→Shared→Prop} {α:Type} {t:Sem α} {Q2:α→Shared→Prop} (h:wpAny M A (letOwnedTupleGo (.Name x px) it u) Q1 E s) (k : ∀ s,Q1 () s→wpAny M A t Q2 E s):wpAny M A t Q2 E s:=by
 have z:wpAny M A (letOwnedTupleGo (.Name x px) it u >>= fun _=>t) Q2 E s:=wpAny_bind (thn h fun _ s q=>k s q)
 rw [show letOwnedTupleGo (.Name x px) it u=pure () from rfl,pure_bind] at z
 exact z
theorem comp_core {pins : List (Addr × Obj)} {σ : St} {Q : VK} {E : Value → Shared → Prop} {s₂ : Shared} {H₂ : Hp} {it : Addr} {fp : List Addr} {tn : Nat → Heap → Prop} {J : It}
    (hc : X.calm = true) (hcell : ∀ y ∈ scope.names, y.2 ≠ .cell) (hkind : scope.kind = .function) (hx : scope.names.lookup x = some .local) (hcl : ClOk X.env.cells cl)
    (hfree : (scope.names.all fun p => p.2 != .free || (cl.lookup p.1).isSome) = true) (hfr : FrOk X scope fr is) (hnd : (x :: fr).Nodup)
    (ht : ∀ C s₂ H₂ fp, PIfs (cxComp X scope cl (x :: fr) C s₂ H₂ fp) ifs tt) (he : ∀ C s₂ H₂ fp, PE (cxComp X scope cl (x :: fr) C s₂ H₂ fp) elt te)
    (I : Inv X pins σ H₂ s₂) (T : Turn X.prog X.w X.K (.Name x px) J fp it tn) (st : tn 0 s₂.heap) (hf : ∀ b ∈ fp, FpOk X pins H₂ b) (R : kComp is tt te σ Q J H₂) :
    wpAny (model X.prog X.w) X.A (newList []) (fun acc s₃ => wpAny (model X.prog X.w) X.A (newFunctionEnv scope X.env.globals cl [] X.env.qual none .none (some X.env)) (fun cenv s₄ =>
      codeAny (model X.prog X.w) X.A (.compStart (.ListComp elt [⟨.Name x px, iter, ifs, 0⟩] scope pos) 0 (.ref it) acc { cenv with scope := relabel scope X.env }) (CompOut X pins σ Q acc cenv.locals) s₄) E s₃) E s₂ := by
  obtain ⟨W, ⟨m0, w0⟩, turn⟩ := R
  refine wpAny_newObj_type (wpAny_newFunctionEnv hcell (by intro y hy; simp at hy) (fun h₁ hns₁ hsb₁ => ?_) hkind)
  dsimp only at hns₁ hsb₁ ⊢
  generalize hH2 : s₂.heap.push { cls := .type "list", dict := none, data := .seq ([] : List Value).toArray } = G2 at hns₁ hsb₁ ⊢
  have hC : G2.objs.size = s₂.heap.objs.size + 1 := by rw [← hH2, Heap.size_push]
  have hDC : s₂.heap.objs.size ≠ G2.objs.size := by rw [hC]; exact Nat.ne_of_lt (Nat.lt_succ_self _)
  have below : ∀ b, b < s₂.heap.objs.size → b ≠ G2.objs.size ∧ b ≠ s₂.heap.objs.size := fun b hb => ⟨by rw [hC]; exact Nat.ne_of_lt (Nat.lt_succ_of_lt hb), Nat.ne_of_lt hb⟩
  have hfl : ∀ b ∈ fp, b < s₂.heap.objs.size := fun b hb => by obtain ⟨o, e, _⟩ := T.obj _ _ st b hb; exact Heap.lt_size e
  have old : ∀ b o, s₂.heap.get? b = some o → h₁.get? b = some o := fun b o e => hsb₁.extBut b o (below b (Heap.lt_size e)).1 (Heap.get?_push_of_some _ (hH2 ▸ Heap.get?_push_of_some _ e))
  have hacc : h₁.get? s₂.heap.objs.size = some { cls := .type "list", data := .seq ([] : List Value).toArray 0 } := hsb₁.extBut _ _ hDC (Heap.get?_push_of_some _ (hH2 ▸ Heap.get?_push_size _ rfl))
  have hfresh : ∀ b, s₂.heap.objs.size ≤ b → H₂ b = none := fun b hb => I.hok.fresh hb
  have hCle : s₂.heap.objs.size ≤ G2.objs.size := by rw [hC]; exact Nat.le_succ _
  generalize hCe : G2.objs.size = C at *
  generalize hDe : s₂.heap.objs.size = D at *
  have ok : (cxComp X scope cl (x :: fr) C s₂ H₂ fp).Ok := cxComp_ok I (by rw [hDe]; exact hCle) hf (by rw [hDe]; exact hfl) hcell hkind hcl hfree
  have hYc : (cxComp X scope cl (x :: fr) C s₂ H₂ fp).calm = true := hc
  have hDfp : ∀ b ∈ fp, b ≠ D := fun b hb => Nat.ne_of_lt (hfl b hb)
  have hDst : D ∉ frs X.stack := fun z => by
    rcases List.mem_cons.mp (I.stkSub D z) with q | q
    · have := I.lt; rw [hDe, ← q] at this; exact Nat.lt_irrefl _ this
    · exact I.nofs (by rw [hDe]; exact Nat.le_refl _) q
  have hfY : ∀ {H' : Hp} {its : List Value} {n : Nat}, (∀ b ∈ fp, H' b = none) → ∀ b ∈ fp, FpOk (cxComp X scope cl (x :: fr) C s₂ H₂ fp) [(D, { cls := .type "list", data := .seq its.toArray n })] H' b := fun hn b hb =>
    ⟨hn b hb, (ok.exf b hb).1, ok.exfs b hb, .inl hb, (ok.exf b hb).2, fun p hp => by
      have e : p = (D, { cls := .type "list", data := .seq _ _ }) := List.mem_singleton.mp hp
      rw [e]; exact Ne.symm (hDfp b hb)⟩
  have lenF : (is.map fun j => (σ[j]?).getD none).length = fr.length := by rw [List.length_map, hfr.len]
  have I0 : Inv (cxComp X scope cl (x :: fr) C s₂ H₂ fp) [(D, { cls := .type "list", data := .seq ([] : List Value).toArray 0 })] (none :: is.map fun j => (σ[j]?).getD none) H₂ { s₂ with heap := h₁, toks := s₂.toks + ([] : List (Str × Value)).length } := by
    refine ⟨ok, rfl, I.bare, Un.kept old, ⟨_, hns₁, fun i y v e1 e2 e3 => ?_⟩, fun y c e => ?_, hfresh C hCle, fun y c e => I.freeC y c (hcl.look e), fun p hp => ?_, I.hok.kept old, ?_⟩
    · cases i with
      | zero => cases e2
      | succ k =>
        have e1' : fr[k]? = some y := e1
        have e2' : (is.map fun j => (σ[j]?).getD none)[k]? = some (some v) := e2
        obtain ⟨j, hj, hN, hfy, hkx⟩ := hfr.get e1'
        rw [List.getElem?_map, hj] at e2'
        have e4 : (σ[j]?).getD none = some v := Option.some.inj e2'
        have e5 : σ[j]? = some (some v) := by
          cases q : σ[j]? with
          | none => rw [q] at e4; cases e4
          | some o => rw [q] at e4; have e4' : o = some v := e4; rw [e4']
        obtain ⟨m, hn, hl⟩ := id I.loc
        have hvis : Vis X.env.scope y := hkx.elim (fun q => .inr (.inl q)) fun q => .inr (.inr q)
        obtain ⟨u, r, lk⟩ := hl j y v hN e5 hvis
        refine ⟨u, r, .inr ⟨relabel_free I.ok.kind hfy hkx, ?_⟩⟩
        rcases lk with ⟨kl, _⟩ | ⟨_, c, ec, ic⟩
        · rcases hkx with q | q <;> rw [kl] at q <;> cases q
        · obtain ⟨c', ec'⟩ := ok.has y (relabel_free I.ok.kind hfy hkx)
          have : c' = c := Option.some.inj ((hcl.look ec').symm.trans ec)
          rw [this] at ec'
          obtain ⟨o, ho, hd⟩ := ic
          exact ⟨c, ec', o, old c o ho, hd⟩
    · obtain ⟨v, o, ho, hd⟩ := I.cell y c (hcl.look e)
      exact ⟨v, o, old c o ho, hd⟩
    · have e : p = (D, { cls := .type "list", data := .seq ([] : List Value).toArray 0 }) := List.mem_singleton.mp hp
      rw [e]
      exact ⟨hacc, hfresh D (Nat.le_refl _), hDC, hDst, fun v z => by cases z⟩
    · show (none :: _).length = (x :: fr).length
      rw [List.length_cons, List.length_cons, lenF]
  have loop : ∀ s₃ : Shared, s₃ = { s₂ with heap := h₁, toks := s₂.toks + ([] : List (Str × Value)).length } →
      codeAny (model X.prog X.w) X.A (.compLoop (.ListComp elt [⟨.Name x px, iter, ifs, 0⟩] scope pos) 0 (.ref it) (.ref D) (compEnvC scope cl C X.env)) (CompOut X pins σ Q (.ref D) C) s₃ := by
    rintro s₃ rfl
    refine codeAny_compLoop_tests (fun n s' => ∃ (i : Nat) (o : Option V) (ys : List V) (its : List Value) (k : Nat) (H' : Hp), Inv (cxComp X scope cl (x :: fr) C s₂ H₂ fp) [(D, { cls := .type "list", data := .seq its.toArray k })] (o :: is.map fun j => (σ[j]?).getD none) H' s' ∧
      tn i s'.heap ∧ (∀ b ∈ fp, H' b = none) ∧ Vals ys its ∧ W i n ys H') ?_ m0 ⟨0, none, [], [], 0, H₂, I0, T.keep _ _ _ st fun b _ o e => old b o e, fun b hb => (hf b hb).1, .nil, w0⟩
    rintro n s' ⟨i, o, ys, its, k, H', I', st', fr', vs, w'⟩
    obtain ⟨hlen, ⟨stop, fin⟩ | ⟨go, hlt, step⟩⟩ := turn i n ys H' w'
    · refine wpAny_mono (T.done (cxComp X scope cl (x :: fr) C s₂ H₂ fp) rfl rfl rfl hYc i _ s' _ H' (fun _ _ => False) I' (hfY fr') st' stop) (fun r s1 ⟨hr, I1⟩ => ?_) fun _ _ z => z.elim
      subst hr
      obtain ⟨pD, nD, _, _, _⟩ := I1.pin _ (List.mem_append_right _ (List.mem_singleton.mpr rfl))
      have IX : Inv X pins σ H' s1 := I.call' I1.os I1.base I1.hok I1.bare fun b hb => ⟨(hf b hb).2.2.2.1, (hf b hb).2.1, (hf b hb).2.2.2.2.1, (hf b hb).2.2.2.2.2⟩
      have fD : FpOk X pins H' D := I.fpOk (by rw [hDe]; exact Nat.le_refl _) nD
      obtain ⟨m, hn, _⟩ := id I1.loc
      have hC' : H' C = none := I1.free
      refine ⟨D, upd H' D (.lst ys), m, rfl, IX.track fD ⟨hlen, its, k, vs, pD⟩, hn, I.fpOk (by rw [hDe]; exact hCle) (by rw [upd_ne (Ne.symm hDC)]; exact hC'), fin D nD⟩
    · refine wpAny_mono (T.item (cxComp X scope cl (x :: fr) C s₂ H₂ fp) rfl rfl rfl hYc i _ s' _ H' (fun _ _ => False) I' (hfY fr') st' go) (fun r s1 ⟨u, hr, h4⟩ => ?_) fun _ _ z => z.elim
      subst hr
      refine wpAny_mono (unlet (Q2 := fun _ s6 => _) h4 fun s2 ⟨v, H5, I5, r5, y5, st5, fr5⟩ => ?_) (fun _ _ q => q) fun _ _ z => z.elim
      have I5' := I5.pinned (hfY fr5) (T.obj _ _ st5)
      refine thn (pg_name (X := cxComp X scope cl (x :: fr) C s₂ H₂ fp) (i := 0) hnd rfl (.inl (lookup_relabel_local hx)) (.inr (lookup_relabel_local hx)) _ s2 _ H5 v u (fun σ' H' => σ' = (some v :: is.map fun j => (σ[j]?).getD none) ∧ H' = H5) I5' r5 ⟨rfl, rfl⟩) fun _ s6 ⟨σ6, H6, I6, e6, e7⟩ => ?_
      subst e6 e7
      refine wpAny_mono (ht C s₂ H₂ fp _ s6 _ H6 _ I6 (step v H6 y5)) (fun ok7 s7 ⟨H7, I7, q7⟩ => ?_) fun _ _ z => z.elim
      have keep : ∀ {σ8 : St} {H8 : Hp} {s8 : Shared}, Inv (cxComp X scope cl (x :: fr) C s₂ H₂ fp) ([(D, { cls := .type "list", data := .seq its.toArray k })] ++ pinsAt fp s2.heap) σ8 H8 s8 → tn (i + 1) s8.heap ∧ ∀ b ∈ fp, H8 b = none := fun {σ8 H8 s8} I8 =>
        ⟨T.keep _ _ _ st5 fun b hb o e => (I8.pin (b, o) (List.mem_append_right _ (List.mem_append_right _ (mem_pinsAt hb e)))).1, fun b hb => by
          obtain ⟨o, e, d⟩ := T.obj _ _ st5 b hb
          exact (I8.pin (b, o) (List.mem_append_right _ (List.mem_append_right _ (mem_pinsAt hb e)))).2.1⟩
      cases ok7 with
      | false =>
        obtain ⟨m', hm', w7⟩ := q7
        exact ⟨m', hm', i + 1, _, ys, its, k, H7, I7.unpinned, (keep I7).1, (keep I7).2, vs, w7⟩
      | true =>
        refine wpAny_mono (he C s₂ H₂ fp _ s7 _ H7 _ I7 q7) (fun yv s8 ⟨y, H8, I8, r8, m', hm', w8⟩ => ?_) fun _ _ z => z.elim
        obtain ⟨pD, nD, neD, nfD, ncD⟩ := I8.pin (D, { cls := .type "list", data := .seq its.toArray k }) (List.mem_append_right _ (List.mem_append_left _ (List.mem_singleton.mpr rfl)))
        have hl := vs.length
        refine append_at (hsz := by rw [List.size_toArray, ← hl]; exact hlen) pD fun h9 sb9 hD9 => ?_
        obtain ⟨st8, fr8⟩ := keep I8
        have I8' : Inv (cxComp X scope cl (x :: fr) C s₂ H₂ fp) [] (some v :: is.map fun j => (σ[j]?).getD none) H8 s8 := I8.pins_of fun p hp => nomatch hp
        have I9 : Inv (cxComp X scope cl (x :: fr) C s₂ H₂ fp) [] (some v :: is.map fun j => (σ[j]?).getD none) H8 { s8 with heap := h9 } :=
          I8'.turned (t' := s8.toks) (fun b o hb e => (sb9.2 b hb).trans e) nD neD (.inr (by rw [← hDe]; exact Nat.le_refl _)) (fun y' c e z => by
            obtain ⟨v', o', ho', hd'⟩ := I8'.cell y' c e
            rw [z, pD] at ho'; cases ho'; cases hd') (fun p hp => nomatch hp)
        refine ⟨m', hm', i + 1, _, ys ++ [y], its ++ [yv], k + 1, H8, I9.pins_of fun p hp => ?_, T.keep _ _ _ st8 fun b hb o e => (sb9.2 b (hDfp b hb)).trans e, fr8, vs.append (.cons r8 .nil), w8⟩
        rw [List.mem_singleton.mp hp]
        refine ⟨?_, nD, neD, nfD, fun v z => by cases z⟩
        rw [← List.push_toArray]
        exact hD9
  exact codeAny_compStart_list (loop _ rfl) (T.self _ 0 _ _ _ (T.keep _ _ _ st fun b _ o e => old b o e) (loop _ rfl))
theorem pe_comp (hc : X.calm = true) (hclos : closureFor scope X.env = pure cl) (hcl : ClOk X.env.cells cl) (hfree : (scope.names.all fun p => p.2 != .free || (cl.lookup p.1).isSome) = true) (hfr : FrOk X scope fr is) (hnd : (x :: fr).Nodup)
    (hcell : ∀ y ∈ scope.names, y.2 ≠ .cell) (hkind : scope.kind = .function) (hnames : ∀ y ∈ scope.names, y.2 = .local → scope.names.lookup y.1 = some .local) (hx : scope.names.lookup x = some .local)
    (hi : PI X (.Name x px) iter wi) (ht : ∀ C s₂ H₂ fp, PIfs (cxComp X scope cl (x :: fr) C s₂ H₂ fp) ifs tt) (he : ∀ C s₂ H₂ fp, PE (cxComp X scope cl (x :: fr) C s₂ H₂ fp) elt te) (hs : ∀ x, foldedSetIterable iter X.env x = pure x := by intro _; rfl) :
    PE X (.ListComp elt [⟨.Name x px, iter, ifs, 0⟩] scope pos) (tComp is wi tt te) := by
  intro pins s σ H Q I h
  rw [eval_ListComp]
  refine wpAny_comprehension_free (use := none) rfl hs hclos hkind hnames (thn (hi pins s σ H _ I h) fun v s1 h1 => thn h1 fun itv s2 h2 => ?_)
  obtain ⟨it, fp, tn, J, H2, e, I2, T, st2, f2, R⟩ := h2
  subst e
  refine thn (comp_core hc hcell hkind hx hcl hfree hfr hnd ht he I2 T st2 f2 R) fun acc s3 h3 => thn h3 fun cenv s4 h4 => codeAny_mono h4 fun r s' q => ?_
  cases r with
  | error e => exact q.elim
  | ok f =>
    obtain ⟨D, H', m, rfl, I', hn, fC, q⟩ := q
    obtain ⟨f0, f1, _, f3, f4, f5⟩ := fC
    exact ⟨m, hn, fun h' sb => ⟨.ref D, H', I'.turned (t' := s'.toks) (fun b o hb e => (sb.2 b hb).trans e) f0 f1 f3 f4 f5, rfl, q⟩⟩
end
section
variable {K : W.Frag} {σ : St} {H : Hp} {Q : VK} {is : List Nat} {tt : TT} {te : TE}
def NxC (n:Nat) (Pv:Nat→List V→Hp→Prop) (i:Nat) (ys:List V) (H:Hp):Prop:=∃ m',m' < n - i∧m'=n - (i+1)∧i+1≤n∧Pv (i+1) ys H
theorem nxC {n:Nat} {Pv:Nat→List V→Hp→Prop} {i:Nat} {ys:List V} {H:Hp} (h:i < n) (p:Pv (i+1) ys H):NxC n Pv i ys H:=⟨_,by omega,rfl,h,p⟩
theorem r_noIf {s:St} {R:Bool→Hp→Prop} (h:R true H):tNoIf s H R:=h
def kCompR (is:List Nat) (tt:TT) (te:TE) (σ:St) (Q:VK) (vs:List V) (H:Hp):Prop:=∃ j:Int,vs=[.int j] ∧ -(2 ^ 62)≤j∧j < 2 ^ 62∧kComp is tt te σ Q (Itr 0 j.toNat) H
theorem r_compR {ta:TA} (h:ta σ H (kCompR is tt te σ Q)):tComp is (iRng1 ta) tt te σ H Q:=h
end
section
variable {K : W.Frag} {σ : St} {H : Hp} {Q : VK}
theorem r_slice {r:V→Option Int→Option Int→Hp→VK→Prop} {te:TE} {tl th:TO} (h:te σ H fun x H1=>tl σ H1 fun l H2=>th σ H2 fun u H3=>r x l u H3 Q):tSl r te tl th σ H Q:=h
theorem r_noPart {R:Option Int→Hp→Prop} (h:R none H):tNoPart σ H R:=h
theorem r_part {t:TE} {R:Option Int→Hp→Prop} (h:t σ H fun x H1=>∃ i,x = .int i∧R (some i) H1):tPart t σ H R:=h
theorem r_exint {i:Int} {R:Int→Prop} (h:R i) : ∃ k,V.int i = .int k∧R k:=⟨i,rfl,h⟩
theorem r_cat {l b:Addr} {xs zs:List V} (h1:H l=some (.lst xs)) (h2:H b=some (.lst zs)) (hz:xs.length+zs.length≤sizeLine) (q : ∀ p H',Same H H'→H' p=some (.lst (xs++zs))→Q (.ref p) H'):rCat (.ref l) (.ref b) H Q:=
 ⟨l,b,xs,zs,rfl,rfl,h1,h2,hz,fun p hp=>q p _ (same_new hp _) upd_same⟩
end
set_option maxHeartbeats 400000
abbrev VEB:List Value:=[.type "ValueError", .type "Exception", .type "BaseException", .type "object"]
structure Exc (K:W.Frag) (C:Addr):Prop where
 ex:W.excIn K C VEB "ValueError.__new__" = true
 h1:W.findIn K (.ref C) "__getattribute__" = some (some (.builtin "BaseException.__getattribute__"))
 h2:W.findIn K (.ref C) "__getattr__" = some none
 hb:W.mroIn K C (.type "BaseException")=some true
 hd:W.hasDictIn K C=true
 ha:W.findIn K (.ref C) "__class__" = some (some (.builtin "object.__class__"))
 hn:W.specialIn K (.builtin "object.__class__") "__get__" = some (some (.builtin "getset_descriptor.__get__"))
 ht:W.takesIn K (.builtin "object.__class__")=some true
 hm:W.mroIn K C (.type "object")=some true
def ExAt (x C:Addr) (h:Heap):Prop:=∃ o,h.get? x=some o∧o.cls = .ref C ∧ ∃ vs,o.data = .fields vs
theorem ExAt.keep {x C:Addr} {h h':Heap} (e:ExAt x C h) (k : ∀ o,h.get? x=some o→h'.get? x=some o):ExAt x C h':=let ⟨o,a,b⟩:=e;⟨o,k o a,b⟩
section
open PySem.W PySem.Calls Builtin Builtin.ObjectAttr Builtin.Getset_descriptor
variable {K : Frag} {x C : Addr} {M : Model} {h : Heap}
theorem ExAt.ty (e:ExAt x C h):Looks M h (typeOf (.ref x)) (.ref C):=by
 obtain ⟨o,h1,h2,_⟩:=e
 rw [← h2]
 exact (Looks.ld h1).andThen .now
theorem ex_find {a g:Value} {name:Str} (X:K.In h) (h1:findIn K (.ref C) name=some (some a)) (h2:specialIn K a "__get__" = some (some g)) (h3:takesIn K a=some true):Looks M h (Builtin.ObjectAttr.find (.ref x) (.ref C) name) (.bind g a):=
 (looks_findIn X h1).andThen ((looks_specialIn X h2).andThen ((show Looks M h (Builtin.ObjectAttr.dataDescriptor? (some a) (some g)) (some (g,a)) from (looks_takesIn X h3).andThen .now).andThen (Looks.tag .now)))
variable {prog : Program} {w : World} {A : Around} {E : Value → Shared → Prop} {s : Shared}
theorem ex_get {tp:Value} {R:Result→Shared→Prop} (X:K.In s.heap) (e:ExAt x C s.heap) (c:Exc K C) (q:R (.ok (.ret (.ref C))) s) :
  codeAny (model prog w) A (.call (.builtin "getset_descriptor.__get__") ⟨[.builtin "object.__class__", .ref x,tp],[]⟩) R s:=by
 obtain ⟨hp,gn,dw,tk,os⟩:=s
 have T0:=e.ty (M:=model prog w)
 have T1:=looks_mroIn (M:=model prog w) X c.hm
 refine codeAny_call_builtin KF.slot_gs.plain KF.entry_gs
  (KF.slot_gs.check _ _ _ _ _ _ _ _ KF.type_class (KF.args_gs _ _ _) ?_)
 unfold Builtin.«getset_descriptor.__get__»
 unfold descrGet
 rw [dga_obj]
 refine wpAny_bind (wpAny_pure ?_)
 unfold descrGetter descrCheckInstance
 unfold descrNameAndClass isInstance
 simp only [KF.owner_class]
 repeat lk
 refine ⟨Code.quiet_builtin _ (by decide +kernel),
  codeAny_builtin KF.entry_class ?_⟩
 unfold Builtin.«object.__class__»
 unfold shownTypeOf
 repeat lk
 exact q
theorem ex_entry {tk:Tok} {P:Value→Shared→Prop} (X:K.In s.heap) (e:ExAt x C s.heap) (c:Exc K C) (q:P (.ref C) s) :
  wpAny (model prog w) A (Builtin.«object.__getattribute__» ⟨[.ref x,.str "__class__" tk],[]⟩) (fun fin s'=>match fin with | .done (.ret v)=>P v s' | _=>False) E s:=by
 obtain ⟨hp,gn,dw,t',os⟩:=s
 have T0:=e.ty (M:=model prog w)
 have T2:=ex_find (M:=model prog w) (x:=x) X c.ha c.hn c.ht
 unfold Builtin.«object.__getattribute__»
 refine wpAny_bind (wpAny_pure (wpAny_bind (wpAny_pure (wpAny_bind (T0.at (wpAny_bind (T2.at ?_)))))))
 show wpAny _ _ (holding [Value.builtin "object.__class__"] (call (.builtin "getset_descriptor.__get__") [.builtin "object.__class__", .ref x,.ref C]) >>= ret) _ _ _
 refine wpAny_bind (wpAny_holding (wpAny_call (ex_get X e c ?_)))
 exact wpAny_pure q
theorem ex_call {tk : Tok} {R : Result → Shared → Prop} (X : K.In s.heap) (e : ExAt x C s.heap) (c : Exc K C) (q : R (.ok (.ret (.ref C))) s) :
    codeAny (model prog w) A (.call (.builtin "BaseException.__getattribute__") ⟨[.ref x, .str "__class__" tk], []⟩) R s := by
  refine codeAny_call_builtin PySem.F.attrBase_ValueError.ga.plain PySem.F.entry_bexc_ga ?_
  have k0 : builtinKind "BaseException.__getattribute__" = some .slot := by decide +kernel
  have k1 : splitId "BaseException.__getattribute__" = some ("BaseException", "__getattribute__") := by decide +kernel
  have k2 := PySem.F.args_bexc_ga (.ref x) (.str "__class__" tk)
  have T0 := e.ty (M := model prog w)
  have T1 := looks_mroIn (M := model prog w) X c.hb
  have T4 : Looks (model prog w) s.heap (isInstance (.ref x) (.type "BaseException")) true := T0.andThen T1
  simp only [checkBuiltinCall, k0, k1]
  refine wpAny_bind (T4.here ?_)
  rw [if_neg (by decide)]
  unfold argsOk at k2
  generalize Manifest.signature? "BaseException.__getattribute__" = sg at k2 ⊢
  have go := wpAny_mono (E' := fun e s' => R (.error e) s') (ex_entry (prog := prog) (w := w) (A := A.in1) (tk := tk) (E := fun _ _ => False) (P := fun v s' => R (.ok (.ret v)) s') X e c q) (Q' := fun fin s' => match fin with | .done f => R (.ok f) s' | .again c' => c'.quiet = true ∧ codeAny (model prog w) A c' R s') (fun fin s' z => by
    rcases fin with (_ | _ | _ | _) | _ <;> first | exact z | exact z.elim) fun _ _ z => z.elim
  cases sg with
  | none => exact wpAny_pure go
  | some sig =>
    dsimp only at k2 ⊢
    rw [k2]
    exact wpAny_pure go
theorem ex_class {Q:Option Value→Shared→Prop} (X:K.In s.heap) (e:ExAt x C s.heap) (c:Exc K C) (q:Q (some (.ref C)) { s with toks:=s.toks+1 }):wpAny (model prog w) A (getAttr? (.ref x) "__class__") Q E s:=by
 obtain ⟨hp,gn,dw,tk,os⟩:=s
 have T0:=e.ty (M:=model prog w)
 have T1:=looks_findIn (M:=model prog w) X c.h1
 have T3:=looks_findIn (M:=model prog w) X c.h2
 have B0:=PySem.F.attrBase_ValueError.ga.bind (.ref x)
 unfold getAttr? getAttrBy?
 unfold getAttrBy
 refine wpAny_bind (wpAny_mkText (wpAny_bind (wpAny_attempt
  (wpAny_holding (wpAny_bind (T0.at (wpAny_bind (T1.at ?_))))))))
 show wpAny _ _ (getAttrByItsOwn (.ref x) (.str "__class__" tk) (.ref C) (.builtin "BaseException.__getattribute__") false false) _ _ _
 unfold getAttrByItsOwn
 refine wpAny_bind ((show Looks (model prog w) hp (hookBefore (.ref C)) none from T3).at ?_)
 unfold callGetattribute
 show wpAny _ _ (do match ← (holding [] (boundAndCalled (.builtin "BaseException.__getattribute__") (.ref x) (.str "__class__" tk))).attempt with | .ok v=>handedOut v | .error e'=>getattributeRaised _ _ _ e' _ _ _) _ _ _
 unfold boundAndCalled
 rw [B0]
 refine wpAny_bind (wpAny_attempt (wpAny_holding (wpAny_bind (wpAny_pure (wpAny_call (ex_call X e c ?_))))))
 exact wpAny_mono (handed_on rfl q) (fun v s'' hv=>wpAny_pure hv) fun _ _ z=>z
theorem ex_kit (c:Exc K C):KitX K (.ref x) (.ref C) (ExAt x C) where
 ty:=fun _ _ _ e=>e.ty
 it:=fun _ _ X _=>by
  obtain ⟨cd,hc,_⟩:=any_some c.hd
  unfold clsIn at hc
  split at hc
  ·rename_i ho
   intro A' Q' E' s' k q
   unfold isType loadHead
   refine wpAny_bind (wpAny_loadPart (k _ _ (X _ _ ho)) ?_)
   exact wpAny_pure q
  ·cases hc
 ne:=fun h tp dd its n sl X htp=>by
  obtain ⟨cd,hc,_⟩:=any_some c.hd
  refine Bool.eq_false_iff.mpr fun q=>?_
  have z:C=tp:=Value.ref.inj (beq_iff_eq.mp q)
  subst z
  unfold clsIn at hc
  split at hc
  ·rename_i ho
   cases (X _ _ ho).symm.trans htp
  ·cases hc
 ca:=fun X e k=>ex_class X e c k
end
def CXE (P:Program) (w:World):CXT:=fun outer H s E e s'=>∃ (x C:Addr) (a0:Value) (H':Hp) (B:Heap),e = .ref x∧s'.os=s.os∧AllBare s'.gens∧Heap.FlyingW B outer x (.ref C) a0 s'.heap ∧
 (∀ h',B.StaysIn h'→s'.heap.UpToSlots h'→Un (frs outer) [] H H' s.heap h'∧HOk P w H' h')∧s.heap.get? x=none∧H' x=none∧E (.ref C) none H'
theorem ObjOk.is {P:Program} {w:World} {H:Hp} {h:Heap} {a:Addr} {o:HO} (x:ObjOk P w H h a o) : ∃ ob,h.get? a=some ob:=by
 cases o with
 | lst xs=>obtain ⟨_,_,_,_,e⟩:=x;exact ⟨_,e⟩
 | tup xs=>obtain ⟨_,_,_,ob,e,_⟩:=x;exact ⟨_,e⟩
 | dK kvs=>obtain ⟨_,_,_,_,ob,_,_,e,_⟩:=x;exact ⟨_,e⟩
 | dT kvs=>obtain ⟨_,_,_,_,ob,_,_,e,_⟩:=x;exact ⟨_,e⟩
 | set S n=>first | (obtain ⟨ob,e,_⟩:=x;exact ⟨_,e⟩) | (obtain ⟨ob,es,e,_⟩:=x;exact ⟨_,e⟩) | (obtain ⟨ob,es,ep,e,_⟩:=x;exact ⟨_,e⟩) | (obtain ⟨ob,es,ep,z,e,_⟩:=x;exact ⟨_,e⟩)
 | ins C dx fs=>obtain ⟨_,_,_,e,_⟩:=x;exact ⟨_,e⟩
 | own y=>exact x
 | xd fs=>obtain ⟨_,⟨ob,_,_,e,_⟩,_⟩:=x;exact ⟨_,e⟩
 | met f y=>exact ⟨_,x⟩
 | rng lo hi=>obtain ⟨_,_,_,e⟩:=x;exact ⟨_,e⟩
 | frz o u=>exact ⟨_,x.1⟩
 | tbl ps=>exact ⟨_,x⟩
 | ext φ=>exact x.2.1
section
variable {P : Program} {w : World} {K : W.Frag} {mg : Str → Option Value} {base : Heap} {N : List Str} {qual : Str} {scope : Scope} {f : Addr} {cd : Value} {A : Around} {outer : List Env} {s : Shared} {H : Hp} {E : XK}
theorem leaves_made {pins : List (Addr × Obj)} {σ : St} {H1 : Hp} {s1 : Shared} {h' : Heap} {x C : Addr} {args : List Value}
    (I : Inv (cxOf (CXE P w) P w K mg base N qual scope f cd A outer s H E) pins σ H1 s1) (hm : Heap.MadeExcOf s1.heap h' x (.ref C) args) (q : E (.ref C) none H1) :
    (cxOf (CXE P w) P w K mg base N qual scope f cd A outer s H E).xe (.ref x) { s1 with heap := h' } := by
  have hst : ∀ b ∈ frs (envOfC qual scope s.heap.objs.size f cd :: outer), H1 b = none := I.stkFree
  have hin : ∀ env ∈ (envOfC qual scope s.heap.objs.size f cd :: outer), ∀ b, env.frame = some b → b ∈ frs (envOfC qual scope s.heap.objs.size f cd :: outer) := fun env he b hb => List.mem_filterMap.mpr ⟨env, he, hb⟩
  have FF : s1.heap.FunFrames base (envOfC qual scope s.heap.objs.size f cd :: outer) := I.stack
  have old : ∀ b o, s.heap.get? b = some o → b ≠ s.heap.objs.size := fun b o e => Nat.ne_of_lt (Heap.lt_size e)
  have sub : ∀ b, b ∈ frs (envOfC qual scope s.heap.objs.size f cd :: outer) → b = s.heap.objs.size ∨ b ∈ frs outer := fun b hb => List.mem_cons.mp (I.stkSub b hb)
  refine wpAny_leaves_madeW (base := W.hideAll s1.heap (frs (envOfC qual scope s.heap.objs.size f cd :: outer))) I.ok.frames rfl (fun b o e => W.of_hideAll _ e) (W.funFrames_hide FF hin) hm fun h2 t f1 f2 f3 f4 => ?_
  refine ⟨x, C, .ref t, H1, _, rfl, I.os, I.bare, f1, fun h3 st sm => ?_, ?_, ?_, q⟩
  · have here : ∀ b o, s1.heap.get? b = some o → b ∉ frs (envOfC qual scope s.heap.objs.size f cd :: outer) → h3.get? b = some o := fun b o e n => st b o (W.hideAll_get _ e n)
    have fram : ∀ b o, s1.heap.get? b = some o → b ∈ frs (envOfC qual scope s.heap.objs.size f cd :: outer) → ∃ sl, h3.get? b = some { o with slots := sl } := fun b o e m => by
      obtain ⟨_, o', e', nf⟩ := FF.mem m
      have z : o' = o := Option.some.inj (e'.symm.trans e)
      subst z
      obtain ⟨sl, e2⟩ := f4 b o' (hm.keeps b o' e) nf
      obtain ⟨sl', e3⟩ := sm b _ e2 nf
      exact ⟨sl', e3⟩
    refine ⟨⟨fun b o e n hb hx => ?_, fun b o e n hb hx => ?_, fun b o e n hx => I.base.free b o e n hx, fun b o e hx => ?_, I.base.tups, I.base.frzs, I.base.tbls⟩, fun a u e => ?_⟩
    · exact here b o (I.base.keep b o e n hb hx) fun z => (sub b z).elim (old b o e) hb
    · obtain ⟨sl, e1⟩ := I.base.slot b o e n hb hx
      have mem : b ∈ frs (envOfC qual scope s.heap.objs.size f cd :: outer) := by
        show b ∈ List.filterMap _ _
        rw [List.filterMap_cons]
        exact List.mem_cons_of_mem _ hb
      obtain ⟨sl', e2⟩ := fram b _ e1 mem
      exact ⟨sl', e2⟩
    · obtain ⟨o', e1⟩ := I.base.there b o e hx
      by_cases mem : b ∈ frs (envOfC qual scope s.heap.objs.size f cd :: outer)
      · obtain ⟨sl, e2⟩ := fram b o' e1 mem
        exact ⟨_, e2⟩
      · exact ⟨o', here b o' e1 mem⟩
    · refine (I.hok a u e).stay (fun b ob hb eb => here b ob eb fun z => ?_) (fun _ z => z) (fun _ _ z => z)
      have := hst b z
      rcases hb with rfl | hb
      · rw [e] at this; cases this
      · rw [hb] at this; cases this
  · cases z : s.heap.get? x with
    | none => rfl
    | some o =>
      obtain ⟨o', e1⟩ := I.base.there x o z (fun h => nomatch h)
      have := hm.new
      rw [e1] at this; cases this
  · cases z : H1 x with
    | none => rfl
    | some o =>
      obtain ⟨ob, e1⟩ := (I.hok x o z).is
      have := hm.new
      rw [e1] at this; cases this
end
theorem exc_obj {K:W.Frag} {h:Heap} {C:Addr} (X:K.In h) (c:Exc K C) : ∃ tl N nm q bs hdct sn sub ab col dd k0 k1 k2 k3 k5 mN,
  h.get? C=some (excClassObj nm q C N bs tl hdct sn sub ab col dd k0 k1 k2 k3 k5 "ValueError.__new__")∧h.Ns N mN∧mN "__init__" = none∧OwnTail h VEB tl:=by
 have q:=c.ex
 unfold W.excIn at q
 split at q
 ·rename_i dd cd sl ho
  split at q
  ·rename_i C' bm k0 k1 k2 k3 n k5 hm hs
   simp only [Bool.and_eq_true,beq_iff_eq,Bool.not_eq_true'] at q
   obtain ⟨⟨⟨⟨⟨z1,z2⟩,hdel⟩,ht⟩,hok⟩,hni⟩:=q
   subst z1 z2
   obtain ⟨nm,bs,mro,ns,qn,hdc,sn,sub,ab,col,del⟩:=cd
   dsimp only at hm hdel hok hni
   subst hm hdel
   have hsl:sl = #[k0,k1,k2,k3,some (.builtin "ValueError.__new__"),k5]:=by
    cases sl with
    | mk l=>simp only at hs;rw [hs]
   subst hsl
   refine ⟨bm,ns,nm,qn,bs,hdc,sn,sub,ab,col,dd,k0,k1,k2,k3,k5,h.nsMap ns,X _ _ ho,?_,?_,W.tail_of_in X ht⟩
   ·exact .of_isNs (W.isNs_of_in X hok)
   ·exact W.nsMap_none_of_in X hok hni
  ·cases q
 ·cases q
def Takes (X:Cx) (E:XK):Prop:=∀ (pins:List (Addr × Obj)) (σ:St) (H:Hp) (s:Shared) (h':Heap) (x C:Addr) (args:List Value),Inv X pins σ H s→Heap.MadeExcOf s.heap h' x (.ref C) args→E (.ref C) none H→X.xe (.ref x) { s with heap:=h' }
def tRaise (C:Addr) (E:XK) (t:TA):TS:=fun _ σ H=>t σ H fun vs H1=>vs.length≤sizeLine∧E (.ref C) none H1
theorem ps_raise {X:Cx} {x:Str} {C:Addr} {E:XK} {np cpos pos:Pos} {e:Expr} {es:List Expr} {t:TA} (tk:Takes X E) (hc:X.calm=true) (c:Exc X.K C) (hg:Gl X x) (hm:X.mg x=some (.ref C)) (ha:PA X (e::es) t)
  (hdb:(x == ("__debug__" : Str))=false:=by decide) (he:starEach (e::es) X.env=(false,eval e X.env)::starEach es X.env:=by rfl) (hpl:(backTo cpos (starEach es X.env)).any (·.1)=false:=by rfl) :
  PS X (.Raise (some (.Call (.Name x np) (e::es) [] cpos)) none pos) (tRaise C E t):=by
 intro pins s σ H D I h
 obtain ⟨tl,N,nm,q,bs,hdct,sn,sub,ab,col,dd,k0,k1,k2,k3,k5,mN,hC,hN,hni,T⟩:=exc_obj I.ok.mod.kin c
 refine wpAny_Raise_call_subT (C:=C) (bm:=tl) (mN:=mN) (N:=N) (nm:=nm) (q:=q) (bs:=bs) (hdct:=hdct) (sn:=sn) (sub:=sub) (ab:=ab) (col:=col) (dd:=dd) (k0:=k0) (k1:=k1) (k2:=k2) (k3:=k3) (k5:=k5) PySem.F.excBase_ValueError (T.hasType PySem.F.excBase_ValueError.hasBase) (I.ok.hd hc) (by rw [he];show (false || (backTo cpos (starEach es X.env)).any (·.1))=false;rw [hpl];rfl) hni (ld_glob I hg hm ⟨rfl,?_⟩ hdb)
 have z:=ha cpos pins s σ H _ I h
 rw [he] at z ⊢
 refine Calls.evalArgs_plain (thn z fun us s1 ⟨vs,H1,I1,r,hl,qe⟩=>?_)
 have hv:us.length≤sizeLine:=by rw [← r.length];exact hl
 exact ⟨rfl,hv,I1.bk _ _ hC,hN.keeps I1.bk,T.keeps I1.bk,fun h' y hm'=>tk pins σ H1 s1 h' y C us I1 hm' qe⟩
def HasX (P:Program) (w:World) (K:W.Frag) (mg:Str→Option Value) (base:Heap) (x:Str) (k:Nat) (ps:List Str) (sp:Sp):Prop:=
 ∃ (f:Addr) (fd:FuncData),FnOk P w K mg base (CXE P w) k f fd ps sp∧mg x=some (.ref f)∧W.keepIn K (.ref f)=true∧Binds K fd ps []
def XP (X:Cx) (pins:List (Addr × Obj)) (σ:St) (E:XK) (e:Value) (s':Shared):Prop:=∃ H1 s1,Inv X pins σ H1 s1∧CXE X.prog X.w X.stack H1 s1 E e s'
def Cx.inExc (X:Cx) (x:Addr):Cx:={ X with A:=X.A.mark (some (.ref x)),calm:=false,xe:=fun _ _=>False }
section
variable {X : Cx} {pins : List (Addr × Obj)} {σ : St} {H : Hp} {s : Shared}
theorem Cx.Ok.inExc (ok:X.Ok) (x:Addr):(X.inExc x).Ok:=
 ⟨ok.mod,ok.kind,ok.glob,ok.blt,ok.above,ok.inj,ok.has,ok.cab,(fun z=>nomatch z),ok.frames,ok.stk,ok.exf,ok.bs,ok.bsz,ok.noex,ok.exfs,ok.funs,ok.frf⟩
theorem Inv.inExc (I:Inv X pins σ H s) (x:Addr):Inv (X.inExc x) pins σ H s:=⟨I.ok.inExc x,I.os,I.bare,I.base,I.loc,I.cell,I.free,I.freeC,I.pin,I.hok,I.len⟩
theorem Inv.outExc {x:Addr} (ok:X.Ok) (I:Inv (X.inExc x) pins σ H s):Inv X pins σ H s:=⟨ok,I.os,I.bare,I.base,I.loc,I.cell,I.free,I.freeC,I.pin,I.hok,I.len⟩
theorem Inv.track2 {a:Addr} {o:HO} (I:Inv X pins σ H s) (f0:H a=none) (f1:a≠X.env.locals) (f3 : ∀ ob,X.s₀.heap.get? a≠some ob) (f4 : ∀ x c,X.env.cells.lookup x=some c→c≠a) (f5 : ∀ p ∈ X.pn++pins,p.1≠a)
  (new:ObjOk X.prog X.w (upd H a o) s.heap a o):Inv X pins σ (upd H a o) s:=by
 have up : ∀ b,H b=none→b≠a→upd H a o b=none:=fun b e n=>by rw [upd_ne n];exact e
 have st : ∀ {b u},H b=some u→upd H a o b=some u:=fun {b u} e=>by rw [upd_ne (ne_of_none e f0)];exact e
 refine ⟨I.ok,I.os,I.bare,⟨I.base.keep,I.base.slot,fun b ob e n hx=>up b (I.base.free b ob e n hx) (fun z=>f3 ob (z ▸ e)),I.base.there,fun b xs e=>st (I.base.tups b xs e),fun b ob u e=>st (I.base.frzs b ob u e),fun b ps e=>?_⟩,I.loc,I.cell,up _ I.free (Ne.symm f1),fun x c e=>up c (I.freeC x c e) (f4 x c e),fun p hp=>?_,I.hok.track f0 new,I.len⟩
 ·obtain ⟨m,q⟩:=I.base.tbls b ps e
  exact ⟨m,st q⟩
 ·obtain ⟨e,n,r⟩:=I.pin p hp
  exact ⟨e,up _ n (f5 p hp),r⟩
theorem Inv.renamed {h':Heap} {m':Str→Option Value} {t':Nat} (I:Inv X pins σ H s) (hs:Heap.SameBut X.env.locals s.heap h') (hn:h'.Ns X.env.locals m'):Inv X pins (List.replicate σ.length none) H { s with heap:=h',toks:=t' }:=by
 have ne0 : ∀ b o,X.s₀.heap.get? b=some o→b≠X.env.locals:=fun b o e=>Nat.ne_of_lt (Nat.lt_of_lt_of_le (Heap.lt_size e) I.ok.above)
 have at' : ∀ b o,b≠X.env.locals→s.heap.get? b=some o→h'.get? b=some o:=fun b o n e=>(hs.2 b n).trans e
 refine ⟨I.ok,I.os,I.bare,⟨fun b o e n hb hx=>at' b o (ne0 b o e) (I.base.keep b o e n hb hx),fun b o e n hb hx=>?_,I.base.free,fun b o e hx=>?_,I.base.tups,I.base.frzs,I.base.tbls⟩,⟨m',hn,fun i x v _ e _=>?_⟩,fun x c e=>?_,I.free,I.freeC,fun p hp=>?_,fun a u e=>?_,?_⟩
 ·obtain ⟨sl,e1⟩:=I.base.slot b o e n hb hx
  exact ⟨sl,at' b _ (ne0 b o e) e1⟩
 ·obtain ⟨o',e1⟩:=I.base.there b o e hx
  exact ⟨o',at' b o' (ne0 b o e) e1⟩
 ·rw [List.getElem?_replicate] at e
  split at e <;> simp at e
 ·obtain ⟨v,o,ho,hd⟩:=I.cell x c e
  exact ⟨v,o,at' c o (I.cne x c e) ho,hd⟩
 ·obtain ⟨e,n,ne,r⟩:=I.pin p hp
  exact ⟨at' _ _ ne e,n,ne,r⟩
 ·refine (I.hok a u e).stay (fun b ob hb eb=>at' b ob (fun z=>?_) eb) (fun _ z=>z) (fun _ _ z=>z)
  have:=I.free
  rw [← z] at this
  rcases hb with rfl | hb
  ·rw [e] at this;cases this
  ·rw [hb] at this;cases this
 ·rw [List.length_replicate];exact I.len
end
section
variable {X : Cx} {H : Hp} {Q : VK} {K : W.Frag}
theorem vals_refs : ∀ {Ds:List Addr} {us:List Value},Vals (Ds.map V.ref) us→us=Ds.map Value.ref
 | [],_,.nil=>rfl
 | D::Ds,_,.cons r t=>by cases r;rw [vals_refs t];rfl
theorem Fun.okX {P:Program} {w:World} {K:W.Frag} {mg:Str→Option Value} {base:Heap} {x qual:Str} {st:Stmt} {f:Addr} {fd:FuncData} {N ps:List Str} {k:Nat} {sp:Sp} (F:Fun K x qual st f fd) (S:FnScope N ps (defScope st)) (len : ∀ vs H Q E,sp vs H Q E→vs.length=ps.length)
  (hbody : ∀ (cdv:Value) (A:Around) (outer:List Env) (s:Shared) (H:Hp) (vs:List V) (Q:VK) (E:XK),Room k (A.deeper (envOfC qual (defScope st) s.heap.objs.size f cdv))→sp vs H Q E →
   Takes (cxOf (CXE P w) P w K mg base N qual (defScope st) f cdv A outer s H E) E → ∃ t,PSs (cxOf (CXE P w) P w K mg base N qual (defScope st) f cdv A outer s H E) (defBody st) t∧t { nx:=fun _ H'=>Q .non H',rt:=Q } (start N vs) H):FnOk P w K mg base (CXE P w) (k+1) f fd ps sp:=by
 obtain ⟨oc,od,kV,doc,pm,an,cdv,ct,osl,rfl,lk,hcd⟩:=F.ex
 exact fn_of lk hcd S len fun A outer s H vs Q E hr hsp=>hbody cdv A outer s H vs Q E hr hsp fun pins σ H s h' x C args I hm q=>leaves_made I hm q
theorem FnOk.calm {P : Program} {w : World} {K : W.Frag} {mg : Str → Option Value} {base : Heap} {k : Nat} {f : Addr} {fd : FuncData} {ps : List Str} {sp : Sp} (F : FnOk P w K mg base (CXE P w) k f fd ps sp) : FnOk P w K mg base CX0 k f fd ps (fun vs H Q _ => sp vs H Q E0) :=
  ⟨fun vs H Q _ h => F.len vs H Q E0 h, fun A outer s H args us vs Q _ hr he hb hv hs => codeAny_mono (F.run A outer s H args us vs Q E0 hr he hb hv hs) fun r s' hq => by
    cases r with
    | ok fl => cases fl <;> exact hq
    | error e =>
      obtain ⟨_, _, _, _, _, _, _, _, _, _, _, _, z⟩ := hq
      exact z.elim⟩
end
section
variable {X : Cx} {H : Hp} {Q : VK} {K : W.Frag} {σ : St} {pos p1 p2 : Pos} {n1 n2 : Nat} {a b : Int}
def dctO (p:Addr):HO:=.ext (W.KitAt p "dict")
theorem dct_ok {P:Program} {w:World} {H:Hp} {h:Heap} {p:Addr} {o:Obj} (e:h.get? p=some o) (c:o.cls = .type "dict"):ObjOk P w H h p (dctO p):=
 ⟨⟨o,e,c⟩,⟨o,e⟩,fun _ _ ⟨o,x,y⟩ k=>⟨o,k o x,y⟩⟩
def tDct:TE:=fun _ H Q=>∀ p H',Same H H'→H' p=some (dctO p)→Q (.ref p) H'
theorem pe_dct0:PE X (.Dict [] [] pos) tDct:=fun pins s σ H Q I h =>
 wpAny_Dict_empty ⟨.ref s.heap.objs.size,_,I.laid (a:=s.heap.objs.size) (o:=dctO s.heap.objs.size) (t':=s.toks) (fun _ _ q=>Heap.get?_push_of_some _ q) (Nat.le_refl _) (dct_ok (Heap.get?_push_size _ rfl) rfl),rfl,h _ _ (same_new I.fresh _) upd_same⟩
theorem r_dct (h : ∀ p H',Same H H'→H' p=some (dctO p)→Q (.ref p) H'):tDct σ H Q:=h
inductive Odd (H:Hp):V→Prop where
 | non:Odd H .non
 | bl (b:Bool):Odd H (.bl b)
 | str (x:Str):Odd H (.str x)
 | lst {p:Addr} {xs:List V} (e:H p=some (.lst xs)):Odd H (.ref p)
 | tup {p:Addr} {xs:List V} (e:H p=some (.tup xs)):Odd H (.ref p)
 | dct {p:Addr} (e:H p=some (dctO p)):Odd H (.ref p)
theorem Odd.same {H H':Hp} {v:V} (h:Odd H v) (g:Same H H'):Odd H' v:=by
 cases h with
 | non=>exact .non
 | bl b=>exact .bl b
 | str x=>exact .str x
 | lst e=>exact .lst (g _ _ e)
 | tup e=>exact .tup (g _ _ e)
 | dct e=>exact .dct (g _ _ e)
def rIsiO (K:W.Frag):List V→Hp→VK→Prop:=fun xs H Q=>rIsi K xs H Q ∨ ∃ p T b,xs=[.ref p,.ty T]∧H p=some (dctO p)∧W.kitOne K (.type "dict") (.type T)=some b∧Q (.bl b) H
theorem call_isiO:CallR X (.builtin "isinstance") (rIsiO X.K):=by
 refine CallR.or call_isi ?_
 intro pins s σ H xs us Q I r h
 obtain ⟨p,T,b,rfl,hp,e,q⟩:=h
 obtain ⟨v,w,rfl,rx,rw'⟩:=vals2 r
 cases rx;cases rw'
 exact W.kia_one W.kitx_dict I.kIn (I.hok p _ hp).1 e (fun z=>nomatch z) fun tk=>⟨.bl b,H,I.tok _,rfl,q⟩
theorem r_isiO_int {i:Int} {T:String} {b:Bool} (e:W.kitOne K (.type "int") (.type T)=some b) (q:Q (.bl b) H):rIsiO K [.int i,.ty T] H Q:=.inl (r_isi (.int i) ⟨_,.inl rfl⟩ e q)
theorem r_isiO_bl {i:Bool} {T:String} {b:Bool} (e:W.kitOne K (.type "bool") (.type T)=some b) (q:Q (.bl b) H):rIsiO K [.bl i,.ty T] H Q:=.inl (r_isi (.bl i) ⟨_,.inl rfl⟩ e q)
theorem r_isiO_str {x:Str} {T:String} {b:Bool} (e:W.kitOne K (.type "str") (.type T)=some b) (q:Q (.bl b) H):rIsiO K [.str x,.ty T] H Q:=.inl (r_isi (.str x) ⟨_,.inl rfl⟩ e q)
theorem r_isiO_non {T:String} {b:Bool} (e:W.kitOne K (.type "NoneType") (.type T)=some b) (q:Q (.bl b) H):rIsiO K [.non,.ty T] H Q:=.inl (r_isi .non ⟨_,.inl rfl⟩ e q)
theorem r_isiO_lst {p:Addr} {xs:List V} {T:String} {b:Bool} (h:H p=some (.lst xs)) (e:W.kitOne K (.type "list") (.type T)=some b) (q:Q (.bl b) H):rIsiO K [.ref p,.ty T] H Q:=.inl (r_isi (.lst h) ⟨_,.inl rfl⟩ e q)
theorem r_isiO_tup {p:Addr} {xs:List V} {T:String} {b:Bool} (h:H p=some (.tup xs)) (e:W.kitOne K (.type "tuple") (.type T)=some b) (q:Q (.bl b) H):rIsiO K [.ref p,.ty T] H Q:=.inl (r_isi (.tup h) ⟨_,.inl rfl⟩ e q)
theorem r_isiO_dct {p:Addr} {T:String} {b:Bool} (h:H p=some (dctO p)) (e:W.kitOne K (.type "dict") (.type T)=some b) (q:Q (.bl b) H):rIsiO K [.ref p,.ty T] H Q:=.inr ⟨p,T,b,rfl,h,e,q⟩
theorem Odd.int {v:V} (h:Odd H v) (q1:Q (.bl true) H) (q0:Q (.bl false) H):rIsiO K [v,.ty "int"] H Q:=by
 cases h with
 | non=>exact r_isiO_non (kit_NoneType_int K) q0
 | bl b=>exact r_isiO_bl (kit_bool_int K) q1
 | str x=>exact r_isiO_str (kit_str_int K) q0
 | lst e=>exact r_isiO_lst e (kit_list_int K) q0
 | tup e=>exact r_isiO_tup e (kit_tuple_int K) q0
 | dct e=>exact r_isiO_dct e (kit_dict_int K) q0
theorem r_raise {C:Addr} {E:XK} {t:TA} {D:Ends} {σ:St} (h:t σ H fun vs H1=>vs.length≤sizeLine∧E (.ref C) none H1):tRaise C E t D σ H:=h
theorem bo_ValueError:bootBuiltins "ValueError" = some (.type "ValueError"):=by decide +kernel
def spc (sp:Sp):Sp:=fun vs H Q _=>sp vs H Q E0
def Nm (K:W.Frag) (x:Str) (C:Addr):Prop:=W.nsIn K mainGlobals x=some (some (.ref C))
theorem Nm.eq {x:Str} {C C':Addr} (h:Nm K x C) (h':Nm K x C'):C=C':=by
 have:=h.symm.trans h'
 cases this;rfl
theorem se_Constant {c:Const} {n:Nat} {p:Pos} {es:List Expr} {env:Env}:starEach (.Constant c n p::es) env=(false,eval (.Constant c n p) env)::starEach es env:=rfl
theorem se_Name {x:Str} {p:Pos} {es:List Expr} {env:Env}:starEach (.Name x p::es) env=(false,eval (.Name x p) env)::starEach es env:=rfl
theorem se_Tuple {es':List Expr} {k:Nat} {p:Pos} {es:List Expr} {env:Env}:starEach (.Tuple es' k p::es) env=(false,eval (.Tuple es' k p) env)::starEach es env:=rfl
theorem se_List {es':List Expr} {p:Pos} {es:List Expr} {env:Env}:starEach (.List es' p::es) env=(false,eval (.List es' p) env)::starEach es env:=rfl
theorem se_Dict {ks:List (Option Expr)} {vs:List Expr} {p:Pos} {es:List Expr} {env:Env}:starEach (.Dict ks vs p::es) env=(false,eval (.Dict ks vs p) env)::starEach es env:=rfl
theorem se_Subscript {a b:Expr} {p:Pos} {es:List Expr} {env:Env}:starEach (.Subscript a b p::es) env=(false,eval (.Subscript a b p) env)::starEach es env:=rfl
theorem se_UnaryOp {o:UnaryOp} {a:Expr} {p:Pos} {es:List Expr} {env:Env}:starEach (.UnaryOp o a p::es) env=(false,eval (.UnaryOp o a p) env)::starEach es env:=rfl
theorem se_Compare {a:Expr} {os:List CmpOp} {bs:List Expr} {p:Pos} {es:List Expr} {env:Env}:starEach (.Compare a os bs p::es) env=(false,eval (.Compare a os bs p) env)::starEach es env:=rfl
theorem r_bmL {T:String} {r:V→List V→Hp→VK→Prop} {to:TE} {t:TA} (h:to σ H fun x H1=>tyV K T x H1∧t σ H1 fun xs H2=>r x xs H2 Q):tBM K T r to t σ H Q:=h
theorem r_tyLL {p:Addr} {xs:List V} {R:Prop} (h:SqL K H p xs) (q:R):tyV K "list" (.ref p) H∧R:=⟨.inl ⟨rfl,_,h⟩,q⟩
theorem r_append {l:Addr} {xs:List V} {y:V} (h:H l=some (.lst xs)) (h2:xs.length < sizeLine) (q:Q .non (upd H l (.lst (xs++[y])))):rAppend (.ref l) [y] H Q:=⟨l,xs,y,rfl,rfl,h,h2,q⟩
def SB (r:Addr) (H F:Hp):Prop:=∀ b o,b≠r→H b=some o→F b=some o
theorem SB.put {r:Addr} {H F:Hp} {o:HO} (h:SB r H F):SB r H (upd F r o):=fun b u n e=>by rw [upd_ne n];exact h b u n e
theorem SB.refl {r:Addr} {H:Hp}:SB r H H:=fun _ _ _ e=>e
theorem SB.same {r:Addr} {H F:Hp} (h:SB r H F) (n:H r=none):Same H F:=fun b o e=>h b o (ne_of_none e n) e
end
section
variable {X : Cx} {H : Hp} {Q : VK} {K : W.Frag}
def rAddS:R2:=fun x y H Q=>∃ i j:Str,x = .str i∧y = .str j∧i.length+j.length≤sizeLine∧Q (.str (i++j)) H
theorem op_addS:OpR X (binaryOp .Add) rAddS:=op_add_str
theorem r_addS {i j:Str} (hz:i.length+j.length≤sizeLine) (q:Q (.str (i++j)) H):rAddS (.str i) (.str j) H Q:=⟨i,j,rfl,rfl,hz,q⟩
theorem r_ixS {z:Str} {i:Int} {c:Nat} (hz:z.length≤sizeLine) (e:atI z.cps.toList i=some c) (q:Q (.str ⟨#[c]⟩) H):rIxS (.str z) (.int i) H Q:=⟨z,i,c,rfl,rfl,hz,e,q⟩
def rLenT:List V→Hp→VK→Prop:=fun xs H Q=>∃ z:Str,xs=[.str z]∧z.length≤sizeLine∧Q (.int z.length) H
theorem call_lenT:CallR X (.builtin "len") rLenT:=call_len_str
theorem r_lenS {z:Str} (hz:z.length≤sizeLine) (q:Q (.int z.length) H):rLenT [.str z] H Q:=⟨z,rfl,hz,q⟩
def rInS:R2:=fun x y H Q=>∃ i j:Str,x = .str i∧y = .str j∧Q (.bl (!(Builtin.Str.occurrences j i 0 j.length 1).isEmpty)) H
theorem op_inS:OpR X (compareOp .In) rInS:=op_in_str
theorem r_inS {i j:Str} (q:Q (.bl (!(Builtin.Str.occurrences j i 0 j.length 1).isEmpty)) H):rInS (.str i) (.str j) H Q:=⟨i,j,rfl,rfl,q⟩
theorem r_eqT2 {i j:Str} (q:Q (.bl (decide (i=j))) H):rEq (.str i) (.str j) H Q:=r_eqS rfl q
def rSlS:V→Option Int→Option Int→Hp→VK→Prop:=fun x lo hi H Q=>∃ z:Str,x = .str z∧z.length≤sizeLine∧Q (.str (Txt.slice z lo hi)) H
theorem sl_str:SlR X rSlS:=by
 intro pins s σ H x v vl vu lo hi sl Q I rx hs pl pu h
 obtain ⟨z,rfl,hz,q⟩:=h
 obtain ⟨t,rfl⟩:=rx
 refine ⟨"str", _,PySem.F.slot_str_getitem.lookup,typeIs_str _ _ _,?_⟩
 have fin : ∀ (t':Tok) (k:Nat),EP X pins σ Q (.str (Txt.slice z lo hi) t') { s with toks:=k }:=fun t' k=>⟨.str _,H,I.tok _,⟨t',rfl⟩,q⟩
 have le:=Nat.le_trans (Txt.slice_le z lo hi) hz
 cases pl <;> cases pu
 ·exact wpAny_getItem_str_slice (l:=none) (u:=none) (st:=none) hs rfl (post_val_or_str ⟨le,fin⟩)
 ·exact wpAny_getItem_str_slice (l:=none) (u:=some (_,_)) (st:=none) hs rfl (post_val_or_str ⟨le,fin⟩)
 ·exact wpAny_getItem_str_slice (l:=some (_,_)) (u:=none) (st:=none) hs rfl (post_val_or_str ⟨le,fin⟩)
 ·exact wpAny_getItem_str_slice (l:=some (_,_)) (u:=some (_,_)) (st:=none) hs rfl (post_val_or_str ⟨le,fin⟩)
theorem r_slS {z:Str} {lo hi:Option Int} (hz:z.length≤sizeLine) (q:Q (.str (Txt.slice z lo hi)) H):rSlS (.str z) lo hi H Q:=⟨z,rfl,hz,q⟩
end
abbrev Lt (x:Str):List Nat:=x.cps.toList
def T (l:List Nat):Str:=⟨l.toArray⟩
theorem Lt_T (l:List Nat):Lt (T l)=l:=rfl
theorem T_Lt (x:Str):T (Lt x)=x:=by cases x;simp [T,Lt]
theorem Lt_inj {x y:Str} (h:Lt x=Lt y):x=y:=by rw [← T_Lt x,← T_Lt y,h]
theorem T_eq {a b:List Nat}:T a=T b↔a=b:=⟨fun h=>by have:=congrArg Lt h;rwa [Lt_T,Lt_T] at this,fun h=>by rw [h]⟩
theorem len_Lt (x:Str):x.length=(Lt x).length:=rfl
theorem app_T (x y:Str):x++y=T (Lt x++Lt y):=Lt_inj (by rw [Lt_T];show (x.cps++y.cps).toList=_;simp)
theorem getD_app1 {a b:List Nat} {i:Nat} (h:i < a.length):(a++b).getD i 0=a.getD i 0:=by
 rw [List.getD_eq_getElem?_getD,List.getD_eq_getElem?_getD,List.getElem?_append_left h]
theorem getD_app2 {a b:List Nat} {i:Nat} (h:a.length≤i):(a++b).getD i 0=b.getD (i - a.length) 0:=by
 rw [List.getD_eq_getElem?_getD,List.getD_eq_getElem?_getD,List.getElem?_append_right h]
theorem fm_take (l : List Nat) (a : Nat) : ∀ m : Nat, (List.range m).filterMap (fun k => l[a + k]?) = (l.drop a).take m
  | 0 => by simp
  | m + 1 => by
    rw [List.range_succ, List.filterMap_append, fm_take l a m, List.take_succ]
    congr 1
    rw [List.getElem?_drop]
    rw [List.filterMap_cons]
    cases l[a + m]? <;> rfl
def cl (n d:Nat):Option Int→Nat
 | none=>d
 | some i=>(max 0 (min (if i < 0 then i+n else i) (n:Int))).toNat
theorem slice_T (z:Str) (lo hi:Option Int):Txt.slice z lo hi=T (((Lt z).take (cl (Lt z).length (Lt z).length hi)).drop (cl (Lt z).length 0 lo)):=by
 have e:Builtin.Str.strSliceIndices lo hi 1 z.length=(List.range (cl (Lt z).length (Lt z).length hi - cl (Lt z).length 0 lo)).map (fun x=>cl (Lt z).length 0 lo+x):=by
  rw [← sliceRange_one]
  unfold Builtin.Str.strSliceIndices
  cases lo <;> cases hi <;> simp [cl,len_Lt,Int.toNat_of_nonneg,Int.le_max_left]
 have k:(List.filterMap (fun x=>z.cps[x]?) (Builtin.Str.strSliceIndices lo hi 1 z.length))=((Lt z).take (cl (Lt z).length (Lt z).length hi)).drop (cl (Lt z).length 0 lo):=by
  rw [e,List.filterMap_map]
  have f:((fun x=>z.cps[x]?) ∘ fun x=>cl (Lt z).length 0 lo+x)=fun k=>(Lt z)[cl (Lt z).length 0 lo+k]?:=by funext k;simp [Lt]
  rw [f,fm_take,List.drop_take]
 unfold Txt.slice
 split
 ·rename_i h
  have hl:(Builtin.Str.strSliceIndices lo hi 1 z.length).length=(Lt z).length:=(by simpa using h:_=z.length)
  rw [e,List.length_map,List.length_range] at hl
  have b1:cl (Lt z).length (Lt z).length hi≤(Lt z).length:=by
   unfold cl;split <;> omega
  rcases Nat.eq_zero_or_pos (Lt z).length with p | p
  ·rw [List.eq_nil_of_length_eq_zero p];simp
   exact Lt_inj (List.eq_nil_of_length_eq_zero p)
  ·rw [show cl (Lt z).length 0 lo=0 by omega,show cl (Lt z).length (Lt z).length hi=(Lt z).length by omega,List.take_length,List.drop_zero,T_Lt]
 ·rw [k];rfl
section
variable {X : Cx} {H : Hp} {Q : VK} {K : W.Frag}
theorem rT_add {x y:Str} (hz:(Lt x).length+(Lt y).length≤16777216) (q:Q (.str (T (Lt x++Lt y))) H):rAddS (.str x) (.str y) H Q:=r_addS hz (by rw [app_T];exact q)
theorem rT_len {z:Str} (hz:(Lt z).length≤16777216) (q:Q (.int (Lt z).length) H):rLenT [.str z] H Q:=r_lenS hz q
theorem rT_ix {z:Str} {i:Int} (hz:(Lt z).length≤16777216) (h0:0≤i) (h1:i < (Lt z).length) (q:Q (.str (T [(Lt z).getD i.toNat 0])) H):rIxS (.str z) (.int i) H Q:=by
 refine r_ixS (c:=(Lt z).getD i.toNat 0) hz ?_ q
 unfold atI ixN
 rw [if_pos h0,if_pos h1]
 show (Lt z)[i.toNat]? = _
 rw [List.getD_eq_getElem?_getD,List.getElem?_eq_getElem (by omega)];rfl
theorem rT_ixK {z:Str} {i:Int} (n:Nat) (hn:(Lt z).length=n) (hz:n≤16777216) (h0:0≤i) (h1:i < n) (q : ∀ c,c ∈ Lt z→Q (.str (T [c])) H):rIxS (.str z) (.int i) H Q:=by
 refine rT_ix (by omega) h0 (by omega) (q _ ?_)
 rw [List.getD_eq_getElem?_getD,List.getElem?_eq_getElem (by omega)]
 exact List.getElem_mem _
theorem rT_ixL {z:Str} (hz:(Lt z).length≤16777216) (h1:0 < (Lt z).length) (q:Q (.str (T [(Lt z).getD ((Lt z).length - 1) 0])) H):rIxS (.str z) (.int (-1)) H Q:=by
 refine r_ixS (c:=(Lt z).getD ((Lt z).length - 1) 0) hz ?_ q
 unfold atI ixN
 rw [if_neg (show ¬ (0:Int) ≤ -1 by decide),if_pos (show -((Lt z).length:Int) ≤ -1 by omega)]
 show (Lt z)[((-1:Int)+(Lt z).length).toNat]? = _
 rw [show ((-1:Int)+(Lt z).length).toNat=(Lt z).length - 1 by omega,List.getD_eq_getElem?_getD,List.getElem?_eq_getElem (by omega)];rfl
theorem rT_sl0 {z:Str} {j:Int} (hz:(Lt z).length≤16777216) (h:0≤j) (q:Q (.str (T ((Lt z).take j.toNat))) H):rSlS (.str z) none (some j) H Q:=by
 refine r_slS hz ?_
 rw [slice_T]
 have e:(Lt z).take (cl (Lt z).length (Lt z).length (some j))=(Lt z).take j.toNat:=by
  unfold cl;dsimp only;rw [if_neg (by omega)]
  rcases Int.le_total j (Lt z).length with p | p
  ·rw [Int.min_eq_left p,Int.max_eq_right h]
  ·rw [Int.min_eq_right p,Int.max_eq_right (by omega),List.take_of_length_le (by omega),List.take_of_length_le (by omega)]
 rw [e];exact q
theorem cl_drop (l:List Nat) {i:Int} (h:0≤i) (n d:Nat) (hn:l.length≤n):l.drop (cl n d (some i))=l.drop i.toNat:=by
 unfold cl;dsimp only;rw [if_neg (by omega)]
 rcases Int.le_total i n with p | p
 ·rw [Int.min_eq_left p,Int.max_eq_right h]
 ·rw [Int.min_eq_right p,Int.max_eq_right (by omega),List.drop_of_length_le (by omega),List.drop_of_length_le (by omega)]
theorem cl_take (l:List Nat) {i:Int} (h:0≤i) (d:Nat):l.take (cl l.length d (some i))=l.take i.toNat:=by
 unfold cl;dsimp only;rw [if_neg (by omega)]
 rcases Int.le_total i l.length with p | p
 ·rw [Int.min_eq_left p,Int.max_eq_right h]
 ·rw [Int.min_eq_right p,Int.max_eq_right (by omega),List.take_of_length_le (by omega),List.take_of_length_le (by omega)]
theorem rT_sli {z:Str} {i:Int} (hz:(Lt z).length≤16777216) (h:0≤i) (q:Q (.str (T ((Lt z).drop i.toNat))) H):rSlS (.str z) (some i) none H Q:=by
 refine r_slS hz ?_
 rw [slice_T,cl_drop _ h _ _ (by rw [List.length_take];omega)]
 show Q (.str (T (((Lt z).take (Lt z).length).drop i.toNat))) H
 rw [List.take_length];exact q
theorem rT_slij {z:Str} {i j:Int} (hz:(Lt z).length≤16777216) (h:0≤i) (h':0≤j) (q:Q (.str (T (((Lt z).take j.toNat).drop i.toNat))) H):rSlS (.str z) (some i) (some j) H Q:=by
 refine r_slS hz ?_
 rw [slice_T,cl_drop _ h _ _ (by rw [List.length_take];omega),cl_take _ h']
 exact q
def rMulT:R2:=fun x y H Q=>∃ (z:Str) (n:Int),x = .str z∧y = .int n∧n < 16777216 ∧ -16777216 < n∧(Lt z).length*n.toNat≤16777216∧Q (.str (T (List.replicate n.toNat (Lt z)).flatten)) H
theorem foldl_app : ∀ (xs:List (Array Nat)) (a:Array Nat),(xs.foldl (fun x1 x2=>x1++x2) a).toList=a.toList++(xs.map Array.toList).flatten
 | [],a=>by simp
 | x::xs,a=>by rw [List.foldl_cons,foldl_app xs];simp
theorem mul_T (z:Str) (n:Int):Txt.mul z n=T (List.replicate n.toNat (Lt z)).flatten:=by
 unfold Txt.mul
 split
 ·rw [show n.toNat=0 by omega];rfl
 ·split
  ·rename_i h1 h2
   rw [Bool.or_eq_true] at h2
   rcases h2 with h | h
   ·have:n=1:=by simpa using h
    subst this
    show z=T ([Lt z].flatten)
    simp [T_Lt]
   ·have e:(Lt z).length=0:=(by simpa using h:z.length=0)
    have e':Lt z=[]:=List.eq_nil_of_length_eq_zero e
    refine Lt_inj ?_
    rw [Lt_T,e']
    simp
  ·refine Lt_inj ?_
   show (List.foldl (fun x1 x2=>x1++x2) #[] (List.replicate n.toNat z.cps)).toList=_
   rw [foldl_app,List.map_replicate,Lt_T]
   simp
theorem op_mulT:OpR X (binaryOp .Mult) rMulT:=by
 intro pins s σ H x y v u Q I rx ry h
 obtain ⟨z,n,rfl,rfl,h1,h2,h3,q⟩:=h
 obtain ⟨t,rfl⟩:=rx
 obtain ⟨t',rfl⟩:=ry
 refine SB.mul ⟨?_,fun h4 _=>?_,fun _ _=>?_⟩ fun t' k=>⟨.str _,H,I.tok _,⟨t',rfl⟩,by rw [mul_T];exact q⟩
 ·rw [decide_eq_false (by omega),decide_eq_false (by omega)];rfl
 ·have e:((Lt z).length:Int)*n≤16777216:=by
   have:=Int.ofNat_le.mpr h3
   rw [Int.natCast_mul,Int.toNat_of_nonneg (by omega)] at this;exact this
  intro h5
  have h6:=Int.mul_le_of_le_ediv (c:=n) (by omega) (Int.le_refl ((2 ^ 63 - 1) / n))
  have h7:((2:Int) ^ 63 - 1) / n+1≤(Lt z).length:=h5
  have h8:=Int.mul_le_mul_of_nonneg_right h7 (show 0≤n by omega)
  have h9:=Int.lt_ediv_add_one_mul_self ((2:Int) ^ 63 - 1) (show 0 < n by omega)
  omega
 ·unfold Builtin.Str.tooLong
  exact decide_eq_false (by show ¬ (Lt z).length*n.toNat > 16777216;omega)
theorem rT_mul1 {c:Nat} {n:Int} (h1:n < 16777216) (h2 : -16777216 < n) (q:Q (.str (T (List.replicate n.toNat c))) H):rMulT (.str (T [c])) (.int n) H Q:=
 ⟨T [c],n,rfl,rfl,h1,h2,by rw [Lt_T,List.length_singleton,Nat.one_mul];omega,by rw [Lt_T,List.flatten_replicate_singleton];exact q⟩
theorem r_neT2 {i j:Str} (q:Q (.bl (!decide (i=j))) H):rNe (.str i) (.str j) H Q:=⟨rfl,by
 have e:decide (V.str i=V.str j)=decide (i=j):=by
  by_cases h:i=j
  ·rw [decide_eq_true h,decide_eq_true (congrArg V.str h)]
  ·rw [decide_eq_false h,decide_eq_false (fun z=>h (V.str.inj z))]
 rw [e];exact q⟩
theorem rTT_add {a b:List Nat} (hz:a.length+b.length≤16777216) (q:Q (.str (T (a++b))) H):rAddS (.str (T a)) (.str (T b)) H Q:=rT_add hz q
theorem rTT_len {a:List Nat} (hz:a.length≤16777216) (q:Q (.int a.length) H):rLenT [.str (T a)] H Q:=rT_len hz q
theorem rTT_ix {a:List Nat} {i:Int} (hz:a.length≤16777216) (h0:0≤i) (h1:i < a.length) (q:Q (.str (T [a.getD i.toNat 0])) H):rIxS (.str (T a)) (.int i) H Q:=rT_ix hz h0 h1 q
theorem rTT_ixL {a:List Nat} (hz:a.length≤16777216) (h1:0 < a.length) (q:Q (.str (T [a.getD (a.length - 1) 0])) H):rIxS (.str (T a)) (.int (-1)) H Q:=rT_ixL hz h1 q
theorem rTT_sl0 {a:List Nat} {j:Int} (hz:a.length≤16777216) (h:0≤j) (q:Q (.str (T (a.take j.toNat))) H):rSlS (.str (T a)) none (some j) H Q:=rT_sl0 hz h q
theorem rTT_sli {a:List Nat} {i:Int} (hz:a.length≤16777216) (h:0≤i) (q:Q (.str (T (a.drop i.toNat))) H):rSlS (.str (T a)) (some i) none H Q:=rT_sli hz h q
theorem rTT_slij {a:List Nat} {i j:Int} (hz:a.length≤16777216) (h:0≤i) (h':0≤j) (q:Q (.str (T ((a.take j.toNat).drop i.toNat))) H):rSlS (.str (T a)) (some i) (some j) H Q:=rT_slij hz h h' q
theorem rTT_eq {a b:List Nat} (q:Q (.bl (decide (a=b))) H):rEq (.str (T a)) (.str (T b)) H Q:=r_eqT2 (by
 have e:decide (T a=T b)=decide (a=b):=decide_eq_decide.mpr T_eq
 rw [e];exact q)
theorem rTT_ne {a b:List Nat} (q:Q (.bl (!decide (a=b))) H):rNe (.str (T a)) (.str (T b)) H Q:=r_neT2 (by
 have e:decide (T a=T b)=decide (a=b):=decide_eq_decide.mpr T_eq
 rw [e];exact q)
theorem r_neS {x y:Str} {b:Bool} (h:decide (x=y)=b) (q:Q (.bl (!b)) H):rNe (.str x) (.str y) H Q:=r_neT2 (by rw [h];exact q)
theorem r_ixAll {p:Addr} {xs:List V} {i:Int} (h:SqL K H p xs) (h0:0≤i) (h1:i < xs.length) (q : ∀ x,xs[i.toNat]? = some x→Q x H):rIxL K (.ref p) (.int i) H Q:=by
 have h2:i.toNat < xs.length:=by omega
 have e:atI xs ((i.toNat:Nat):Int)=some xs[i.toNat]:=atI_nat (List.getElem?_eq_getElem h2)
 rw [show ((i.toNat:Nat):Int)=i by omega] at e
 exact r_ixL h e (q _ (List.getElem?_eq_getElem h2))
theorem r_tyS {z:Str} {R:Prop} (q:R):tyV K "str" (.str z) H∧R:=⟨rfl,q⟩
end
def Its (x:Str):It:=⟨fun i _=>i < (Lt x).length,fun i H v H'=>H'=H ∧ ∃ c,(Lt x)[i]? = some c∧v = .str (T [c]),fun i _=>i=(Lt x).length⟩
theorem turn_str {P:Program} {w:World} {K:PySem.W.Frag} {tg:Expr} (x:Str) (t:Tok) (it:Addr) (ty:String) (hty:ty = "str_ascii_iterator" ∨ ty = "str_iterator"):Turn P w K tg (Its x) [it] it (fun i h=>h.IsStrIter it ty x t i) where
 mem:=by simp
 obj:=fun i h st b hb=>by
  have e:b=it:=by simpa using hb
  subst e
  obtain ⟨o,e,c,d⟩:=st
  exact ⟨o,e,fun v z=>by rw [d] at z;cases z⟩
 keep:=fun i h h' st k=>by
  obtain ⟨o,e,c,d⟩:=st
  exact ⟨o,k it (by simp) o e,c,d⟩
 item:=by
  intro X hP hw hK hc i pins s σ H E I hf st hg
  subst hP hw hK
  obtain ⟨f0,f1,f2,f3,f4,f5⟩:=hf it (by simp)
  have W:Walks X.prog X.w X.A it [it] [it] x.cps.size (SignAt x) (fun i h=>h.IsStrIter it ty x t i):=by
   rcases hty with rfl | rfl
   ·exact Walks.strAscii (I.ok.hd hc) it x t
   ·exact Walks.strWide (I.ok.hd hc) it x t
  refine W.item i s _ _ hg st fun v h' tk hv st' kk=>?_
  obtain ⟨c,u,hcu,rfl⟩:=hv
  have I1:Inv X pins σ H { s with heap:=h',toks:=tk }:=I.turned (fun b o hb e=>kk b o (by simpa using hb) e) f0 f1 f3 f4 f5
  obtain ⟨o,e,c1,d⟩:=id st'
  have hn:["enumerate", "zip", "dict_itemiterator", "dict_reverseitemiterator", "odict_iterator", "itertools.zip_longest", "itertools.pairwise"].contains ty=false:=by rcases hty with rfl | rfl <;> decide
  exact ⟨_,rfl,go_of (s:={ s with heap:=h',toks:=tk }) e c1 d hn ⟨.str (T [c]),H,I1,⟨u,rfl⟩,⟨rfl,c,by simpa [Lt] using hcu,rfl⟩,st',fun b hb=>(hf b hb).1⟩⟩
 done:=by
  intro X hP hw hK hc i pins s σ H E I hf st hg
  subst hP hw hK
  obtain ⟨f0,f1,f2,f3,f4,f5⟩:=hf it (by simp)
  have W:Walks X.prog X.w X.A it [it] [it] x.cps.size (SignAt x) (fun i h=>h.IsStrIter it ty x t i):=by
   rcases hty with rfl | rfl
   ·exact Walks.strAscii (I.ok.hd hc) it x t
   ·exact Walks.strWide (I.ok.hd hc) it x t
  have hi:i=x.cps.size:=hg
  subst hi
  exact W.done s _ _ st fun h' tk kk=>⟨rfl,I.turned (fun b o hb e=>kk b o (by simpa using hb) e) f0 f1 f3 f4 f5⟩
 self:=fun _ _ _ _ _ st h=>by
  rcases hty with rfl | rfl
  ·exact wpAny_pyIter_striter_ascii st h
  ·exact wpAny_pyIter_striter_wide st h
section
variable {X : Cx} {tg : Expr}
def iStr (tl:TE):TI:=fun σ H R=>tl σ H fun x H1=>∃ z:Str,x = .str z∧R (Its z) H1
theorem pi_strT {l:Expr} {tl:TE} (hl:PE X l tl):PI X tg l (iStr tl):=by
 intro pins s σ H R I h
 refine thn (hl pins s σ H _ I h) fun v s1 ⟨x,H1,I1,r1,q1⟩=>?_
 obtain ⟨z,e,q⟩:=q1
 subst e
 obtain ⟨t,rfl⟩:=r1
 have hty:strIterType z = "str_ascii_iterator" ∨ strIterType z = "str_iterator" := by unfold strIterType;split <;> simp
 refine wpAny_pyIter_strU ?_
 refine ⟨s1.heap.objs.size,[s1.heap.objs.size],_,_,H1,rfl,I1.kept (t':=s1.toks) fun b o e=>Heap.get?_push_of_some _ e,turn_str z t _ _ hty,⟨_,Heap.get?_push_size _ rfl,rfl,rfl⟩,fun b hb=>?_,q⟩
 have e:b=s1.heap.objs.size:=by simpa using hb
 subst e
 exact I1.fpOk (Nat.le_refl _) (I1.hok.fresh (Nat.le_refl _))
end
theorem int_at {zs:List Int} {i:Nat} {x:V} (h:(zs.map V.int)[i]? = some x) : ∃ n,x = .int n:=by
 obtain ⟨n,_,e⟩:=List.mem_map.mp (List.mem_of_getElem? h)
 exact ⟨n,e.symm⟩
def fv (c:Nat):Int:=if 48≤c∧c≤57 then (c:Int) - 48 else if 97≤c∧c≤102 then (c:Int) - 87 else -1
def fc (d:Nat):Nat:=(Lt "0123456789abcdef").getD d 0
theorem fc_all : ∀ d ∈ List.range 16,fc d < 127∧fv (fc d)=d∧(fc d=48→d=0):=by decide +kernel
theorem fc_ok {d:Nat} (h:d < 16):fc d < 127∧fv (fc d)=d∧(fc d=48→d=0):=fc_all d (List.mem_range.mpr h)
def val (b:Int) (l:List Nat):Int:=l.foldl (fun n c=>n*b+fv c) 0
theorem val_app (b:Int) (l:List Nat) (c:Nat):val b (l++[c])=val b l*b+fv c:=by unfold val;rw [List.foldl_append];rfl
theorem val_noughts (b : Int) (l : List Nat) : ∀ m : Nat, val b (List.replicate m 48 ++ l) = val b l
  | 0 => by simp
  | m + 1 => by
    have ih := val_noughts b l m
    unfold val at ih ⊢
    rw [List.replicate_succ, List.cons_append, List.foldl_cons]
    have : (0 : Int) * b + fv 48 = 0 := by rw [Int.zero_mul]; decide
    rw [this]; exact ih
def FigB (b:Int) (l:List Nat):Prop:=∀ c ∈ l,c < 127∧0≤fv c∧fv c < b
theorem FigB.mono {b b':Int} {l:List Nat} (h:FigB b l) (hb:b≤b'):FigB b' l:=fun c hc=>⟨(h c hc).1,(h c hc).2.1,by have:=(h c hc).2.2;omega⟩
theorem FigB.app {b:Int} {l m:List Nat} (h:FigB b l) (h':FigB b m):FigB b (l++m):=fun c hc=>(List.mem_append.mp hc).elim (h c) (h' c)
theorem FigB.noughts {b:Int} (hb:2≤b) (m:Nat):FigB b (List.replicate m 48):=fun c hc=>by
 rw [List.eq_of_mem_replicate hc];exact ⟨by decide,by decide,by show (0:Int) < b;omega⟩
theorem FigB.one {b d:Nat} (hb:b≤16) (h:d < b):FigB b [fc d]:=fun c hc=>by
 rw [List.mem_singleton.mp hc]
 have:=fc_ok (d:=d) (by omega)
 exact ⟨this.1,by omega,by omega⟩
def figs (b n:Nat):List Nat:=if h:n < b∨b < 2 then [fc n] else figs b (n / b)++[fc (n % b)]
termination_by n
decreasing_by exact Nat.div_lt_self (by omega) (by omega)
theorem figs_lt {b n:Nat} (h:n < b):figs b n=[fc n]:=by rw [figs];simp [h]
theorem figs_ge {b n:Nat} (h2:2≤b) (h:b≤n):figs b n=figs b (n / b)++[fc (n % b)]:=by rw [figs];simp [show ¬ n < b by omega,show ¬ b < 2 by omega]
theorem figs_spec {b : Nat} (h2 : 2 ≤ b) (h16 : b ≤ 16) : ∀ (m n : Nat), n ≤ m → FigB b (figs b n) ∧ val b (figs b n) = n ∧ figs b n ≠ [] ∧ ((figs b n).getD 0 0 = 48 → n = 0) := by
  intro m
  induction m with
  | zero =>
    intro n hn
    rw [figs_lt (by omega)]
    have e := fc_ok (d := n) (by omega)
    exact ⟨FigB.one h16 (by omega), by unfold val; simp [e.2.1], by simp, fun _ => by omega⟩
  | succ m ih =>
    intro n hn
    rcases Nat.lt_or_ge n b with h | h
    · rw [figs_lt h]
      have e := fc_ok (d := n) (by omega)
      exact ⟨FigB.one h16 (by omega), by unfold val; simp [e.2.1], by simp, fun q => e.2.2 (by simpa using q)⟩
    · have hd : n / b < n := Nat.div_lt_self (by omega) (by omega)
      obtain ⟨i1, i2, i3, i4⟩ := ih (n / b) (by omega)
      have hm := Nat.mod_lt n (show b > 0 by omega)
      rw [figs_ge h2 h]
      refine ⟨i1.app (FigB.one h16 hm), ?_, by simp, fun q => ?_⟩
      · rw [val_app, i2, (fc_ok (d := n % b) (by omega)).2.1]
        have := Nat.div_add_mod n b
        rw [Nat.mul_comm] at this
        omega
      · rw [getD_app1 (List.length_pos_iff.mpr i3)] at q
        have := i4 q
        have p : 0 < n / b := Nat.div_pos h (by omega)
        omega
theorem figs_len {b : Nat} (h2 : 2 ≤ b) : ∀ (k n : Nat), n < b ^ (k + 1) → (figs b n).length ≤ k + 1
  | 0, n, h => by rw [Nat.pow_one] at h; rw [figs_lt h]; simp
  | k + 1, n, h => by
    rcases Nat.lt_or_ge n b with h' | h'
    · rw [figs_lt h']; simp
    · rw [figs_ge h2 h', List.length_append]
      have := figs_len h2 k (n / b) (Nat.div_lt_of_lt_mul (by rw [Nat.pow_succ, Nat.mul_comm] at h; exact h))
      simp; omega
theorem figs_240 {b n:Nat} (h2:2≤b) (h:n < 1766847064778384329583297500742918515827483896875618958121606201292619776):(figs b n).length≤240:=by
 refine figs_len h2 239 n (Nat.lt_of_lt_of_le h ?_)
 have e:(1766847064778384329583297500742918515827483896875618958121606201292619776:Nat)=2 ^ 240:=by decide +kernel
 rw [e];exact Nat.pow_le_pow_left h2 240
theorem figs_turn {b m:Nat} (h2:2≤b) (l:List Nat):figs b m++l=if m / b=0 then fc (m % b)::l else figs b (m / b)++fc (m % b)::l:=by
 rcases Nat.lt_or_ge m b with h' | h'
 ·rw [if_pos (Nat.div_eq_of_lt h'),figs_lt h',Nat.mod_eq_of_lt h'];rfl
 ·have p:0 < m / b:=Nat.div_pos h' (by omega)
  rw [if_neg (by omega),figs_ge h2 h',List.append_assoc];rfl
theorem r_kLstF {H:Hp} {Q:VK} {xs:List V} (hz:xs.length≤sizeLine) (h : ∀ p,H p=none→Q (.ref p) (upd H p (.lst xs))):kLst Q xs H:=⟨hz,h⟩
theorem same_upd {H H':Hp} {l:Addr} {o:HO} (g:Same H H') (n:H l=none):Same H (upd H' l o):=fun b u q=>by rw [upd_ne (ne_of_none q n)];exact g b u q
theorem r_bm0 {K:W.Frag} {σ:St} {H:Hp} {Q:VK} {T:String} {r:V→List V→Hp→VK→Prop} {to:TE} (h:to σ H fun x H1=>tyV K T x H1∧r x [] H1 Q):tBM0 K T r to σ H Q:=h
theorem r_reverse {H:Hp} {Q:VK} {l:Addr} {xs:List V} (h:H l=some (.lst xs)) (q:Q .non (upd H l (.lst xs.reverse))):rReverse (.ref l) [] H Q:=⟨l,xs,rfl,rfl,h,q⟩
def jn (m:List Nat):List (List Nat)→List Nat
 | []=>[]
 | x::xs=>x++(xs.map (m ++ ·)).flatten
theorem glue_fold (m : Str) : ∀ (xs : List (List Nat)) (a : Array Nat), ((xs.map T).foldl (fun acc p => acc ++ m.cps ++ p.cps) a).toList = a.toList ++ (xs.map (Lt m ++ ·)).flatten
  | [], a => by simp
  | x :: xs, a => by
    rw [List.map_cons, List.foldl_cons, glue_fold m xs, List.map_cons, List.flatten_cons]
    simp [T]
theorem join_T (m : Str) (xs : List (List Nat)) : Txt.join m (xs.map T) = T (jn (Lt m) xs) := by
  refine Lt_inj ?_
  rw [Lt_T]
  unfold Txt.join Builtin.Str.glued
  cases xs with
  | nil => rfl
  | cons x xs =>
    show (List.foldl (fun acc p => acc ++ m.cps ++ p.cps) (T x).cps (xs.map T)).toList = _
    rw [glue_fold]; rfl
theorem jn_snoc (m:List Nat) {xs:List (List Nat)} (h:xs≠[]) (y:List Nat):jn m (xs++[y])=jn m xs++(m++y):=by
 cases xs with
 | nil=>exact absurd rfl h
 | cons x xs=>unfold jn;simp
theorem jn_nil (xs:List (List Nat)):jn [] xs=xs.flatten:=by
 cases xs with
 | nil=>rfl
 | cons x xs=>unfold jn;simp
theorem joinOk {m : Str} {xs : List (List Nat)} (h : xs.flatten.length + xs.length * (Lt m).length ≤ 16777216) : JoinOk m (xs.map T) = true := by
  have e : ∀ (xs : List (List Nat)) (n : Nat), (xs.map T).foldl (fun x1 x2 => x1 + x2.length + m.length) n = n + xs.flatten.length + xs.length * (Lt m).length := by
    intro xs
    induction xs with
    | nil => intro n; simp
    | cons x xs ih =>
      intro n
      rw [List.map_cons, List.foldl_cons, ih, List.flatten_cons, List.length_append, List.length_cons, Nat.add_mul]
      have e1 : (T x).length = x.length := rfl
      have e2 : m.length = (Lt m).length := rfl
      rw [e1, e2]; omega
  unfold JoinOk Builtin.Str.tooLong
  rw [List.foldl_toArray, e, decide_eq_false (by show ¬ 0 + xs.flatten.length + xs.length * (Lt m).length > 16777216; omega)]
  rfl
def rJoinT (K:W.Frag):V→List V→Hp→VK→Prop:=fun x vs H Q=>∃ (m:Str) (p:Addr) (xs:List (List Nat)),x = .str m∧vs=[.ref p]∧H p=some (.lst (xs.map fun l=>V.str (T l)))∧xs.flatten.length+xs.length*(Lt m).length≤16777216∧Q (.str (T (jn (Lt m) xs))) H
theorem vals_strs : ∀ {xs : List (List Nat)} {us : List Value}, Vals (xs.map fun l => V.str (T l)) us → ∃ ts : List (Str × Tok), us = strValues ts ∧ ts.map (fun x => x.1) = xs.map T
  | [], _, .nil => ⟨[], rfl, rfl⟩
  | x :: xs, _, .cons r t => by
    obtain ⟨ts, rfl, e⟩ := vals_strs t
    obtain ⟨u, rfl⟩ := r
    exact ⟨(T x, u) :: ts, rfl, by rw [List.map_cons, List.map_cons, e]⟩
theorem mt_joinT {X:Cx}:MtR X "str.join" (rJoinT X.K):=by
 intro pins s σ H x vs v us Q I rx rv h
 obtain ⟨m,p,xs,rfl,rfl,hH,hz,q⟩:=h
 obtain ⟨t,rfl⟩:=rx
 obtain ⟨u,rfl,ru⟩:=rv.one
 cases ru
 obtain ⟨its,r,pl,_⟩:=I.list (SqL.of hH)
 obtain ⟨ts,rfl,e⟩:=vals_strs r
 exact SC.join pl.isList e (joinOk hz) fun t' k=>⟨.str _,H,I.tok _,⟨t',rfl⟩,by rw [join_T];exact q⟩
theorem r_joinT {K:W.Frag} {H:Hp} {Q:VK} {m:Str} {p:Addr} {xs:List (List Nat)} (h:H p=some (.lst (xs.map fun l=>V.str (T l)))) (hz:xs.flatten.length+xs.length*(Lt m).length≤16777216) (q:Q (.str (T (jn (Lt m) xs))) H):rJoinT K (.str m) [.ref p] H Q:=⟨m,p,xs,rfl,rfl,h,hz,q⟩
def pcs (a:List Nat) (z g e:Nat):List (List Nat):=if h:e=0∨z=0 then [] else pcs a z g (e - z - g)++[(a.take e).drop (e - z)]
termination_by e
decreasing_by omega
theorem pcs_zero (a:List Nat) (z g:Nat):pcs a z g 0=[]:=by rw [pcs];simp
theorem pcs_pos {a:List Nat} {z g e:Nat} (hz:0 < z) (h:0 < e):pcs a z g e=pcs a z g (e - z - g)++[(a.take e).drop (e - z)]:=by
 rw [pcs];rw [dif_neg (by omega)]
theorem pcs_bd {a : List Nat} {z g : Nat} (hz : 0 < z) : ∀ (m e : Nat), e ≤ m → (pcs a z g e).flatten.length ≤ e ∧ (pcs a z g e).length ≤ e
  | 0, e, h => by rw [show e = 0 by omega, pcs_zero]; simp
  | m + 1, e, h => by
    rcases Nat.eq_zero_or_pos e with p | p
    · rw [p, pcs_zero]; simp
    · obtain ⟨i1, i2⟩ := pcs_bd (a := a) (g := g) hz m (e - z - g) (by omega)
      rw [pcs_pos hz p]
      simp only [List.flatten_append, List.length_append, List.flatten_cons, List.flatten_nil, List.append_nil, List.length_drop, List.length_take, List.length_cons, List.length_nil]
      omega
def RJ (z m:Nat) (b:List Nat):List Nat:=if h:b.length≤z∨z=0 then b else b.take z++m::RJ z m (b.drop z)
termination_by b.length
decreasing_by rw [List.length_drop];omega
theorem RJ_le {z m:Nat} {b:List Nat} (h:b.length≤z):RJ z m b=b:=by rw [RJ];simp [h]
theorem RJ_zero {m:Nat} {b:List Nat}:RJ 0 m b=b:=by rw [RJ];simp
theorem RJ_gt {z m:Nat} {b:List Nat} (hz:0 < z) (h:z < b.length):RJ z m b=b.take z++m::RJ z m (b.drop z):=by
 rw [RJ];rw [dif_neg (by omega)]
theorem RJ_len {z m : Nat} : ∀ (k : Nat) (b : List Nat), b.length ≤ k → b.length ≤ (RJ z m b).length ∧ (RJ z m b).length ≤ 2 * b.length
  | 0, b, h => by rw [RJ_le (by omega)]; omega
  | k + 1, b, h => by
    rcases Nat.eq_zero_or_pos z with p | p
    · subst p; rw [RJ_zero]; omega
    · rcases Nat.lt_or_ge z b.length with q | q
      · have ih := RJ_len (z := z) (m := m) k (b.drop z) (by rw [List.length_drop]; omega)
        rw [List.length_drop] at ih
        rw [RJ_gt p q, List.length_append, List.length_take, List.length_cons]
        omega
      · rw [RJ_le q]; omega
theorem RJ_snoc {z m x : Nat} (hz : 0 < z) : ∀ (k : Nat) (c : List Nat), c.length ≤ k → RJ z m (c ++ [x]) = RJ z m c ++ ((if 0 < c.length ∧ c.length % z = 0 then [m] else []) ++ [x])
  | 0, c, h => by
    have e : c = [] := List.eq_nil_of_length_eq_zero (by omega)
    subst e
    rw [RJ_le (by simp; omega), RJ_le (by simp)]; simp
  | k + 1, c, h => by
    rcases Nat.lt_trichotomy c.length z with p | p | p
    · rw [RJ_le (by simp; omega), RJ_le (by omega), if_neg (by
        intro q; rw [Nat.mod_eq_of_lt p] at q; omega)]; simp
    · rw [RJ_gt hz (by simp; omega), RJ_le (b := c) (by omega), if_pos ⟨by omega, by rw [p]; exact Nat.mod_self z⟩]
      rw [List.take_append_of_le_length (by omega), List.take_of_length_le (by omega), List.drop_append_of_le_length (by omega), List.drop_of_length_le (by omega), RJ_le (by simp; omega)]
      simp
    · rw [RJ_gt hz (by simp; omega), RJ_gt (b := c) hz p]
      rw [List.take_append_of_le_length (by omega), List.drop_append_of_le_length (by omega), RJ_snoc hz k (c.drop z) (by rw [List.length_drop]; omega), List.length_drop]
      have e : (c.length - z) % z = c.length % z := (Nat.mod_eq_sub_mod (by omega)).symm
      rw [e, List.append_assoc, List.cons_append]
      have e2 : (0 < c.length - z ∧ c.length % z = 0) = (0 < c.length ∧ c.length % z = 0) := propext ⟨fun q => ⟨by omega, q.2⟩, fun q => ⟨by omega, q.2⟩⟩
      simp only [e2]
theorem jn_pcs {a : List Nat} {z m : Nat} (hz : 0 < z) : ∀ (k e : Nat), e ≤ k → e ≤ a.length → (jn [m] (pcs a z 0 e)).reverse = RJ z m (a.take e).reverse
  | 0, e, h, _ => by rw [show e = 0 by omega, pcs_zero, RJ_le (by simp)]; simp [jn]
  | k + 1, e, h, ha => by
    rcases Nat.eq_zero_or_pos e with p | p
    · rw [p, pcs_zero, RJ_le (by simp)]; simp [jn]
    · rw [pcs_pos hz p, Nat.sub_zero]
      have le : (a.take e).length = e := by rw [List.length_take]; omega
      rcases Nat.lt_or_ge z e with q | q
      · have ih := jn_pcs (a := a) (m := m) hz k (e - z) (by omega) (by omega)
        have ne : pcs a z 0 (e - z) ≠ [] := by rw [pcs_pos hz (by omega)]; simp
        rw [jn_snoc _ ne, List.reverse_append, List.reverse_append, ih, RJ_gt (b := (a.take e).reverse) hz (by rw [List.length_reverse]; omega), List.take_reverse, List.drop_reverse, le]
        rw [List.take_take, Nat.min_eq_left (show e - z ≤ e by omega)]
        simp
      · rw [show e - z = 0 by omega, pcs_zero, RJ_le (by rw [List.length_reverse]; omega)]
        simp [jn]
def gr (z m:Nat) (a:List Nat):List Nat:=(RJ z m a.reverse).reverse
theorem gr_jn {a:List Nat} {z m:Nat} (hz:0 < z):jn [m] (pcs a z 0 a.length)=gr z m a:=by
 have:=jn_pcs (m:=m) hz a.length a.length (Nat.le_refl _) (Nat.le_refl _)
 rw [List.take_length] at this
 unfold gr
 rw [← this,List.reverse_reverse]
theorem gr_len {a:List Nat} {z m:Nat}:a.length≤(gr z m a).length∧(gr z m a).length≤2*a.length:=by
 have:=RJ_len (z:=z) (m:=m) a.reverse.length a.reverse (Nat.le_refl _)
 unfold gr;rw [List.length_reverse] at this ⊢;exact this
def UJ (z:Nat) (c:List Nat):List Nat:=if h:c.length=0∨z=0 then [] else c.take z++UJ z (c.drop (z+1))
termination_by c.length
decreasing_by rw [List.length_drop];omega
theorem UJ_nil {z:Nat}:UJ z []=[]:=by rw [UJ];simp
theorem UJ_pos {z:Nat} {c:List Nat} (hz:0 < z) (h:0 < c.length):UJ z c=c.take z++UJ z (c.drop (z+1)):=by rw [UJ];rw [dif_neg (by omega)]
def ug (z:Nat) (a:List Nat):List Nat:=if z=0 then a else (UJ z a.reverse).reverse
theorem gr_zero {m:Nat} {a:List Nat}:gr 0 m a=a:=by unfold gr;rw [RJ_zero,List.reverse_reverse]
theorem gr_turn {z m k:Nat} {a:List Nat} (hk:k < a.length):gr z m (a.drop (a.length - (k+1)))=a.getD (a.length - 1 - k) 0::((if 0 < z∧0 < k∧k % z=0 then [m] else [])++gr z m (a.drop (a.length - k))):=by
 have e:a.drop (a.length - (k+1))=a.getD (a.length - 1 - k) 0::a.drop (a.length - k):=by
  rw [List.drop_eq_getElem_cons (by omega),List.getD_eq_getElem?_getD,List.getElem?_eq_getElem (by omega)]
  congr 2 <;> omega
 have lk:(a.drop (a.length - k)).length=k:=by rw [List.length_drop];omega
 rcases Nat.eq_zero_or_pos z with p | p
 ·subst p;rw [gr_zero,gr_zero,e,if_neg (by omega)];rfl
 ·rw [e]
  unfold gr
  rw [List.reverse_cons,RJ_snoc p _ _ (Nat.le_refl _),List.length_reverse,lk]
  by_cases q:0 < k∧k % z=0
  ·rw [if_pos q,if_pos ⟨p,q⟩];simp
  ·rw [if_neg q,if_neg (fun h=>q h.2)];simp
theorem r_ixTs {K:W.Frag} {H:Hp} {Q:VK} {p:Addr} {ts:List (List Nat)} {i:Int} (h:SqL K H p (ts.map fun l=>V.str (T l))) (h0:0≤i) (h1:i < ts.length) (q:Q (.str (T (ts.getD i.toNat []))) H):rIxL K (.ref p) (.int i) H Q:=by
 refine r_ixAll h h0 (by rw [List.length_map];exact h1) fun x hx=>?_
 have h2:i.toNat < ts.length:=by omega
 rw [List.getElem?_map,List.getElem?_eq_getElem h2] at hx
 cases hx
 rw [List.getD_eq_getElem?_getD,List.getElem?_eq_getElem h2] at q
 exact q
section
variable {X : Cx} {H : Hp} {Q : VK} {K : W.Frag}
def rIsN:R2:=fun x y H Q=>y = .non∧Q (.bl (decide (x = .non))) H
theorem op_isN2:OpR X (compareOp .Is) rIsN:=op_isN
theorem r_isNN (q:Q (.bl true) H):rIsN .non .non H Q:=⟨rfl,by rw [decide_eq_true rfl];exact q⟩
theorem r_isNS {x:Str} (q:Q (.bl false) H):rIsN (.str x) .non H Q:=⟨rfl,by rw [decide_eq_false (fun z=>nomatch z)];exact q⟩
inductive NT (H:Hp):V→Prop where
 | int (i:Int):NT H (.int i)
 | non:NT H .non
 | bl (b:Bool):NT H (.bl b)
 | lst {p:Addr} {xs:List V} (e:H p=some (.lst xs)):NT H (.ref p)
 | tup {p:Addr} {xs:List V} (e:H p=some (.tup xs)):NT H (.ref p)
 | dct {p:Addr} (e:H p=some (dctO p)):NT H (.ref p)
theorem NT.same {H H':Hp} {v:V} (h:NT H v) (g:Same H H'):NT H' v:=by
 cases h with
 | int i=>exact .int i
 | non=>exact .non
 | bl b=>exact .bl b
 | lst e=>exact .lst (g _ _ e)
 | tup e=>exact .tup (g _ _ e)
 | dct e=>exact .dct (g _ _ e)
theorem r_isi_nt {v:V} (h:NT H v) (q:Q (.bl false) H):rIsiO K [v,.ty "str"] H Q:=by
 cases h with
 | int i=>exact r_isiO_int (kit_int_str _) q
 | non=>exact r_isiO_non (kit_NoneType_str _) q
 | bl b=>exact r_isiO_bl (kit_bool_str _) q
 | lst e=>exact r_isiO_lst e (kit_list_str _) q
 | tup e=>exact r_isiO_tup e (kit_tuple_str _) q
 | dct e=>exact r_isiO_dct e (kit_dict_str _) q
def Asc (l:List Nat):Prop:=∀ c ∈ l,c < 127
theorem Asc.nil:Asc []:=fun _ h=>nomatch h
theorem Asc.app {l m:List Nat} (h:Asc l) (h':Asc m):Asc (l++m):=fun c hc=>(List.mem_append.mp hc).elim (h c) (h' c)
theorem Asc.one {c:Nat} (h:c < 127):Asc [c]:=fun d hd=>by rw [List.mem_singleton.mp hd];exact h
theorem Asc.take {l:List Nat} (h:Asc l) (n:Nat):Asc (l.take n):=fun c hc=>h c (List.mem_of_mem_take hc)
theorem Asc.drop {l:List Nat} (h:Asc l) (n:Nat):Asc (l.drop n):=fun c hc=>h c (List.mem_of_mem_drop hc)
theorem Asc.rep {l:List Nat} (h:Asc l) (n:Nat):Asc (List.replicate n l).flatten:=fun c hc=>by
 obtain ⟨m,hm,hc⟩:=List.mem_flatten.mp hc
 rw [List.eq_of_mem_replicate hm] at hc
 exact h c hc
theorem FigB.asc {b:Int} {l:List Nat} (h:FigB b l):Asc l:=fun c hc=>(h c hc).1
end
theorem pe_strT {X:Cx} {x:Str} {l:List Nat} {j:Nat} {pos:Pos} (e:x=T l):PE X (.Constant (.str x) j pos) (tC (.str (T l))):=by
 rw [← e];exact pe_str
theorem RJ_length {z m : Nat} (hz : 0 < z) : ∀ (k : Nat) (b : List Nat), b.length ≤ k → 1 ≤ b.length → (RJ z m b).length = b.length + (b.length - 1) / z
  | 0, b, h, h1 => by omega
  | k + 1, b, h, h1 => by
    rcases Nat.lt_or_ge z b.length with q | q
    · have ih := RJ_length (m := m) hz k (b.drop z) (by rw [List.length_drop]; omega) (by rw [List.length_drop]; omega)
      rw [List.length_drop] at ih
      rw [RJ_gt hz q, List.length_append, List.length_take, List.length_cons, ih]
      have e : (b.length - 1) / z = (b.length - z - 1) / z + 1 := by
        rw [Nat.div_eq_sub_div hz (by omega), show b.length - 1 - z = b.length - z - 1 by omega]
      omega
    · rw [RJ_le q, Nat.div_eq_of_lt (by omega)]; omega
theorem UJ_pos_len {z:Nat} {c:List Nat} (hz:0 < z) (h:0 < c.length):0 < (UJ z c).length:=by
 rw [UJ_pos hz h,List.length_append,List.length_take];omega
theorem RJ_UJ {z m : Nat} (hz : 0 < z) : ∀ (k : Nat) (c : List Nat), c.length ≤ k → c.length % (z + 1) ≠ 0 → (∀ j, j < c.length → j % (z + 1) = z → c.getD j 0 = m) → RJ z m (UJ z c) = c
  | 0, c, h, h0, _ => by rw [show c.length = 0 by omega] at h0; simp at h0
  | k + 1, c, h, h0, hm => by
    have p0 : 0 < c.length := by
      rcases Nat.eq_zero_or_pos c.length with p | p
      · rw [p] at h0; simp at h0
      · exact p
    rcases Nat.lt_trichotomy c.length (z + 1) with q | q | q
    · rw [UJ_pos hz p0, List.take_of_length_le (by omega), List.drop_of_length_le (by omega), UJ_nil, List.append_nil, RJ_le (by omega)]
    · rw [q, Nat.mod_self] at h0; exact absurd rfl h0
    · have l1 : (c.take z).length = z := by rw [List.length_take]; omega
      have l2 : (c.drop (z + 1)).length = c.length - (z + 1) := List.length_drop ..
      have ih := RJ_UJ (m := m) hz k (c.drop (z + 1)) (by omega) (by rw [l2, ← Nat.mod_eq_sub_mod (by omega)]; exact h0) (fun j hj he => by
        have z1 := hm (z + 1 + j) (by omega) (by rw [Nat.add_mod_left]; exact he)
        rw [List.getD_eq_getElem?_getD] at z1 ⊢
        rw [List.getElem?_drop]; exact z1)
      have up := UJ_pos_len (c := c.drop (z + 1)) hz (by omega)
      rw [UJ_pos hz p0, RJ_gt hz (by rw [List.length_append, l1]; omega), List.take_append_of_le_length (by omega), List.take_of_length_le (by omega), List.drop_append_of_le_length (by omega), List.drop_of_length_le (by omega), List.nil_append, ih]
      have cz := hm z (by omega) (Nat.mod_eq_of_lt (by omega))
      rw [List.getD_eq_getElem?_getD, List.getElem?_eq_getElem (by omega)] at cz
      have cz' : c[z] = m := cz
      rw [← cz', ← List.drop_eq_getElem_cons, List.take_append_drop]
def GG (z m:Nat) (t:List Nat):Prop:=1≤(ug z t).length∧(ug z t).length≤40∧gr z m (ug z t)=t
theorem GG.len {z m:Nat} {t:List Nat} (h:GG z m t):(ug z t).length+(if 0 < z then ((ug z t).length - 1) / z else 0)=t.length:=by
 have e:=congrArg List.length h.2.2
 rcases Nat.eq_zero_or_pos z with p | p
 ·subst p;rw [gr_zero] at e;simp;exact e
 ·unfold gr at e
  rw [List.length_reverse,RJ_length p _ _ (Nat.le_refl _) (by rw [List.length_reverse];exact h.1),List.length_reverse] at e
  rw [if_pos p];exact e
theorem getD_rev {l:List Nat} {j:Nat} (h:j < l.length):l.reverse.getD j 0=l.getD (l.length - 1 - j) 0:=by
 rw [List.getD_eq_getElem?_getD,List.getD_eq_getElem?_getD,List.getElem?_reverse h]
theorem many_inj {z a b:Nat} (h1:1≤a) (h2:1≤b) (h:a+(a - 1) / z=b+(b - 1) / z):a=b:=by
 rcases Nat.lt_trichotomy a b with p | p | p
 ·have:=Nat.div_le_div_right (c:=z) (show a - 1≤b - 1 by omega);omega
 ·exact p
 ·have:=Nat.div_le_div_right (c:=z) (show b - 1≤a - 1 by omega);omega
theorem GG.of {z m many:Nat} {t:List Nat} (h1:1≤many) (h2:many≤40) (hl:many+(if 0 < z then (many - 1) / z else 0)=t.length) (hm:0 < z → ∀ k,k < t.length→(t.length - 1 - k) % (z+1)=z→t.getD k 0=m):GG z m t:=by
 rcases Nat.eq_zero_or_pos z with p | p
 ·subst p
  have e:ug 0 t=t:=rfl
  unfold GG;rw [e,gr_zero];simp at hl;exact ⟨by omega,by omega,rfl⟩
 ·rw [if_pos p] at hl
  have hn:t.length % (z+1)≠0:=by
   have d:=Nat.div_add_mod (many - 1) z
   have r:=Nat.mod_lt (many - 1) p
   generalize (many - 1) / z=q at *
   generalize (many - 1) % z=r' at *
   have e:t.length=r'+1+(z+1)*q:=by rw [Nat.add_mul,Nat.one_mul];omega
   rw [e,Nat.add_mul_mod_self_left,Nat.mod_eq_of_lt (by omega)];omega
  have rj:=RJ_UJ (m:=m) p _ t.reverse (Nat.le_refl _) (by rw [List.length_reverse];exact hn) (fun j hj he=>by
   rw [List.length_reverse] at hj
   rw [getD_rev hj]
   exact hm p _ (by omega) (by rw [show t.length - 1 - (t.length - 1 - j)=j by omega];exact he))
  have e:ug z t=(UJ z t.reverse).reverse:=by unfold ug;rw [if_neg (by omega)]
  have tp:0 < t.length:=Nat.lt_of_lt_of_le (show 0 < many by omega) (by rw [← hl];exact Nat.le_add_right _ _)
  have up:=UJ_pos_len (c:=t.reverse) p (by rw [List.length_reverse];exact tp)
  have ln:=RJ_length (m:=m) p _ (UJ z t.reverse) (Nat.le_refl _) up
  rw [rj,List.length_reverse] at ln
  have em:=many_inj (z:=z) (a:=(UJ z t.reverse).length) (b:=many) up h1 (by omega)
  refine ⟨by rw [e,List.length_reverse];omega,by rw [e,List.length_reverse];omega,?_⟩
  rw [e];unfold gr;rw [List.reverse_reverse,rj,List.reverse_reverse]
section
variable {σ : St} {H : Hp} {Q : VK} {D : Ends} {K : W.Frag}
def kForR2 (g:TG) (tb:TS) (D:Ends) (σ:St) (vs:List V) (H:Hp):Prop:=∃ i j:Int,vs=[.int i,.int j]∧(-(2 ^ 62)≤i∧i < 2 ^ 62 ∧ -(2 ^ 62)≤j∧j < 2 ^ 62) ∧ ∃ W:Nat→Nat→St→Hp→Prop,(∃ m,W 0 m σ H) ∧ ∀ k m σ H,W k m σ H →
 ((Itr i (j - i).toNat).stop k H∧D.nx σ H)∨((Itr i (j - i).toNat).go k H ∧ ∃ N:St→Hp→Prop,(∀ σ' H',N σ' H' → ∃ m',m' < m∧W (k+1) m' σ' H') ∧ ∀ x H',(Itr i (j - i).toNat).yld k H x H'→g x σ H' fun σ2 H2=>tb { D with nx:=N,ct:=N,bk:=D.nx } σ2 H2)
theorem r_forR2 {ta:TA} {g:TG} {tb:TS} (h:ta σ H (kForR2 g tb D σ)):tFor (iRng2 ta) g tb D σ H:=h
theorem r_kForR2 {g:TG} {tb:TS} {i j:Int} (hb : -(2 ^ 62)≤i∧i < 2 ^ 62 ∧ -(2 ^ 62)≤j∧j < 2 ^ 62) (Pv:Nat→St→Hp→Prop) (h0:Pv 0 σ H)
  (hs : ∀ k σ H,k < (j - i).toNat→Pv k σ H→g (.int (i+k)) σ H fun σ2 H2=>tb { D with nx:=Pv (k+1),ct:=Pv (k+1),bk:=D.nx } σ2 H2) (hd : ∀ σ H,Pv (j - i).toNat σ H→D.nx σ H):kForR2 g tb D σ [.int i,.int j] H:=⟨i,j,rfl,hb,for_range Pv h0 hs hd⟩
end
def KD (w:World) (K:W.Frag) (d:Addr) (z:Str) (v:Addr):Prop:=∃ (es:Array DictEntry) (n:Nat),K.lookup d=some { cls:=.type "dict", data:=.dict es n }∧(∀ e,e ∈ es → ∃ k,Value.isStrOf k e.key=true∧e.hash=hashStr w k)∧findBy Value.isStrOf es z=some (.ref v)
def rIxD (w:World) (K:W.Frag):R2:=fun x y H Q=>∃ d z v,x = .ref d∧y = .str z∧KD w K d z v∧Q (.ref v) H
section
variable {X : Cx} {H : Hp} {Q : VK} {K : W.Frag} {w : World}
theorem ix_kd:IxR X (rIxD X.w X.K):=by
 intro value slice pins s σ H x y v u Q I rx ry h hs
 obtain ⟨d,z,p,rfl,rfl,⟨es,n,lk,ks,f⟩,q⟩:=h
 cases rx
 obtain ⟨t,rfl⟩:=ry
 have ho:=I.kIn d _ lk
 have fin : ∀ k,EP X pins σ Q (.ref p) { s with toks:=k }:=fun k=>⟨.ref p,H,I.tok _,rfl,q⟩
 exact subscriptTail_builtinR (x:=.ref p) ⟨_,ho,rfl⟩ slot_dict_getitem.lookup
  (wpAny_getItem_of (knd:=PySem.strKind X.prog X.w) (k:=z) (f:=fun k=>findBy Value.isStrOf es k) (Q:=fun r s'=>r = .ref p∧EP X pins σ Q r s') (by simp [PySem.strKind,Value.isStrOf]) ⟨_,es,n,ho,⟨rfl,rfl,rfl⟩,rfl,ks,fun k=>rfl⟩ f ⟨rfl,fin _⟩) hs
theorem r_ixD {d v:Addr} {z:Str} (h:KD w K d z v) (q:Q (.ref v) H):rIxD w K (.ref d) (.str z) H Q:=⟨d,z,v,rfl,rfl,h,q⟩
theorem r_ixQ {p:Addr} {xs:List V} {i:Int} {v:V} (h:SqT K H p xs) (e:atI xs i=some v) (q:Q v H):rIxT K (.ref p) (.int i) H Q:=⟨p,xs,i,v,rfl,rfl,h,e,q⟩
theorem SqT.same {H H':Hp} {p:Addr} {xs:List V} (h:SqT K H p xs) (e:Same H H'):SqT K H' p xs:=by
 rcases h with h | h
 ·rcases h with h | ⟨o,h⟩
  ·exact .inl (.inl (e _ _ h))
  ·exact .inl (.inr ⟨o,e _ _ h⟩)
 ·exact .inr h
def rNeT (K:W.Frag):R2:=fun x y H Q=>∃ p q xs ys,x = .ref p∧y = .ref q∧SqT K H p xs∧SqT K H q ys∧xs.all flatV=true∧ys.all flatV=true∧Q (.bl (!eqVs xs ys)) H
theorem op_neT (hu:X.A.units < cLine):OpR X (compareOp .NotEq) (rNeT X.K):=by
 intro pins s σ H x y v u Q I rx ry h
 obtain ⟨p,q,xs,ys,rfl,rfl,hx,hy,fx,fy,k⟩:=h
 cases rx;cases ry
 obtain ⟨its,r,pl,hz⟩:=I.tuple hx
 obtain ⟨its2,r2,pl2,hz2⟩:=I.tuple hy
 have e1:its.toArray.size=xs.length:=by simp [r.length]
 have e2:its2.toArray.size=ys.length:=by simp [r2.length]
 refine SeqAt.RcNeAt.tuples (e:=fun j=>eqV (xs.getD j .non) (ys.getD j .non)) pl pl2 hu (fun j h1 h2=>?_) _ _ _ _ ⟨.bl _,H,I,rfl,?_⟩
 ·exact eqAt_V (by simpa using Vals.getD j (by simpa using h1) r) (by simpa using Vals.getD j (by simpa using h2) r2) (flat_getD j fx) (flat_getD j fy)
 ·rw [e1,e2];exact k
theorem r_neQ {p q:Addr} {xs ys:List V} (h1:SqT K H p xs) (h2:SqT K H q ys) (f1:xs.all flatV=true) (f2:ys.all flatV=true) (k:Q (.bl (!eqVs xs ys)) H):rNeT K (.ref p) (.ref q) H Q:=⟨p,q,xs,ys,rfl,rfl,h1,h2,f1,f2,k⟩
theorem eqVs_texts (a b:Str):eqVs [.str a,.str b] [.str a,.str b]=true:=by
 unfold eqVs
 simp [List.range,List.range.loop,eqV]
theorem r_neQt {p q:Addr} {a b:Str} (h1:SqT K H p [.str a,.str b]) (h2:SqT K H q [.str a,.str b]) (k:Q (.bl false) H):rNeT K (.ref p) (.ref q) H Q:=r_neQ h1 h2 rfl rfl (by rw [eqVs_texts];exact k)
theorem SqT.mod {p:Addr} {xs:List V} {its:List Value} {n:Nat} (lk:K.lookup p=some { cls:=.type "tuple", data:=.seq its.toArray n }) (hz:its.length≤1000) (r:Vals xs its):SqT K H p xs:=.inr ⟨_,its.toArray,n,lk,rfl,rfl,small (by simpa using hz),by simpa using r⟩
end
def stL (x:Str) (b:Bool):List Nat:=if x = "minus" then (if b then [45] else []) else if x = "plus" then (if b then [45] else [43]) else if x = "blank" then (if b then [45] else [32]) else if x = "brackets" then (if b then [40] else []) else []
def stT (x:Str) (b:Bool):List Nat:=if x = "minus" then [] else if x = "plus" then [] else if x = "blank" then [] else if x = "brackets" then (if b then [41] else []) else (if b then [45] else [])
def Style (x:Str):Prop:=x = "minus" ∨ x = "plus" ∨ x = "blank" ∨ x = "brackets" ∨ x = "behind"
theorem st_minus (b:Bool):stL "minus" b=(if b then [45] else [])∧stT "minus" b=[]:=by unfold stL stT;cases b <;> decide +kernel
theorem st_plus (b:Bool):stL "plus" b=(if b then [45] else [43])∧stT "plus" b=[]:=by unfold stL stT;cases b <;> decide +kernel
theorem st_blank (b:Bool):stL "blank" b=(if b then [45] else [32])∧stT "blank" b=[]:=by unfold stL stT;cases b <;> decide +kernel
theorem st_brackets (b:Bool):stL "brackets" b=(if b then [40] else [])∧stT "brackets" b=(if b then [41] else []):=by unfold stL stT;cases b <;> decide +kernel
theorem st_behind (b:Bool):stL "behind" b=[]∧stT "behind" b=(if b then [45] else []):=by unfold stL stT;cases b <;> decide +kernel
theorem st_len {x:Str} (h:Style x) (b:Bool):(stL x b).length≤1∧(stT x b).length≤1:=by
 rcases h with rfl | rfl | rfl | rfl | rfl
 ·rw [(st_minus b).1,(st_minus b).2];cases b <;> decide
 ·rw [(st_plus b).1,(st_plus b).2];cases b <;> decide
 ·rw [(st_blank b).1,(st_blank b).2];cases b <;> decide
 ·rw [(st_brackets b).1,(st_brackets b).2];cases b <;> decide
 ·rw [(st_behind b).1,(st_behind b).2];cases b <;> decide
def Sty (w:World) (K:W.Frag) (d:Addr):Prop:=∀ (x:Str),Style x → ∃ p a b:Addr,KD w K d x p ∧ ∀ H:Hp,SqT K H p [.ref a,.ref b]∧SqT K H a [.str (T (stL x false)),.str (T (stT x false))]∧SqT K H b [.str (T (stL x true)),.str (T (stT x true))]
theorem sty_mk {w:World} {K:W.Frag} {d:Addr} {n0:Nat} {t0:Tok} {p0 a0 b0:Addr} {n01 n02 n03:Nat} {u01 u02 u03 u04:Tok} {t1:Tok} {p1 a1 b1:Addr} {n11 n12 n13:Nat} {u11 u12 u13 u14:Tok} {t2:Tok} {p2 a2 b2:Addr} {n21 n22 n23:Nat} {u21 u22 u23 u24:Tok} {t3:Tok} {p3 a3 b3:Addr} {n31 n32 n33:Nat} {u31 u32 u33 u34:Tok} {t4:Tok} {p4 a4 b4:Addr} {n41 n42 n43:Nat} {u41 u42 u43 u44:Tok}
  (hd:K.lookup d=some { cls:=.type "dict", data:=.dict #[⟨PyData.keyHash w.params "minus", .str "minus" t0,.ref p0⟩,⟨PyData.keyHash w.params "plus", .str "plus" t1,.ref p1⟩,⟨PyData.keyHash w.params "blank", .str "blank" t2,.ref p2⟩,⟨PyData.keyHash w.params "brackets", .str "brackets" t3,.ref p3⟩,⟨PyData.keyHash w.params "behind", .str "behind" t4,.ref p4⟩] n0 })
  (hp0:K.lookup p0=some { cls:=.type "tuple", data:=.seq #[.ref a0,.ref b0] n01 })
  (ha0:K.lookup a0=some { cls:=.type "tuple", data:=.seq #[.str "" u01,.str "" u02] n02 })
  (hb0:K.lookup b0=some { cls:=.type "tuple", data:=.seq #[.str "-" u03,.str "" u04] n03 })
  (hp1:K.lookup p1=some { cls:=.type "tuple", data:=.seq #[.ref a1,.ref b1] n11 })
  (ha1:K.lookup a1=some { cls:=.type "tuple", data:=.seq #[.str "+" u11,.str "" u12] n12 })
  (hb1:K.lookup b1=some { cls:=.type "tuple", data:=.seq #[.str "-" u13,.str "" u14] n13 })
  (hp2:K.lookup p2=some { cls:=.type "tuple", data:=.seq #[.ref a2,.ref b2] n21 })
  (ha2:K.lookup a2=some { cls:=.type "tuple", data:=.seq #[.str " " u21,.str "" u22] n22 })
  (hb2:K.lookup b2=some { cls:=.type "tuple", data:=.seq #[.str "-" u23,.str "" u24] n23 })
  (hp3:K.lookup p3=some { cls:=.type "tuple", data:=.seq #[.ref a3,.ref b3] n31 })
  (ha3:K.lookup a3=some { cls:=.type "tuple", data:=.seq #[.str "" u31,.str "" u32] n32 })
  (hb3:K.lookup b3=some { cls:=.type "tuple", data:=.seq #[.str "(" u33,.str ")" u34] n33 })
  (hp4:K.lookup p4=some { cls:=.type "tuple", data:=.seq #[.ref a4,.ref b4] n41 })
  (ha4:K.lookup a4=some { cls:=.type "tuple", data:=.seq #[.str "" u41,.str "" u42] n42 })
  (hb4:K.lookup b4=some { cls:=.type "tuple", data:=.seq #[.str "" u43,.str "-" u44] n43 }):Sty w K d:=by
 have ks : ∀ e,e ∈ (#[⟨PyData.keyHash w.params "minus", .str "minus" t0,.ref p0⟩,⟨PyData.keyHash w.params "plus", .str "plus" t1,.ref p1⟩,⟨PyData.keyHash w.params "blank", .str "blank" t2,.ref p2⟩,⟨PyData.keyHash w.params "brackets", .str "brackets" t3,.ref p3⟩,⟨PyData.keyHash w.params "behind", .str "behind" t4,.ref p4⟩]:Array DictEntry) → ∃ k,Value.isStrOf k e.key=true∧e.hash=hashStr w k:=by
  intro e he
  simp only [List.mem_toArray,List.mem_cons,List.not_mem_nil,or_false] at he
  rcases he with rfl | rfl | rfl | rfl | rfl
  ·exact ⟨"minus", by simp [Value.isStrOf],rfl⟩
  ·exact ⟨"plus", by simp [Value.isStrOf],rfl⟩
  ·exact ⟨"blank", by simp [Value.isStrOf],rfl⟩
  ·exact ⟨"brackets", by simp [Value.isStrOf],rfl⟩
  ·exact ⟨"behind", by simp [Value.isStrOf],rfl⟩
 intro x hx
 rcases hx with rfl | rfl | rfl | rfl | rfl
 ·refine ⟨p0,a0,b0,⟨_,_,hd,ks,?_⟩,fun H=>⟨.mod hp0 (by simp) (.cons rfl (.cons rfl .nil)),.mod ha0 (by simp) (.cons ⟨u01,?_⟩ (.cons ⟨u02,?_⟩ .nil)),.mod hb0 (by simp) (.cons ⟨u03,?_⟩ (.cons ⟨u04,?_⟩ .nil))⟩⟩
  ·unfold findBy
   simp only [List.find?_toArray,List.find?_cons]
   rfl
  ·exact congrArg (fun z=>Value.str z _) (by rw [(st_minus _).1];decide +kernel)
  ·exact congrArg (fun z=>Value.str z _) (by rw [(st_minus _).2];decide +kernel)
  ·exact congrArg (fun z=>Value.str z _) (by rw [(st_minus _).1];decide +kernel)
  ·exact congrArg (fun z=>Value.str z _) (by rw [(st_minus _).2];decide +kernel)
 ·refine ⟨p1,a1,b1,⟨_,_,hd,ks,?_⟩,fun H=>⟨.mod hp1 (by simp) (.cons rfl (.cons rfl .nil)),.mod ha1 (by simp) (.cons ⟨u11,?_⟩ (.cons ⟨u12,?_⟩ .nil)),.mod hb1 (by simp) (.cons ⟨u13,?_⟩ (.cons ⟨u14,?_⟩ .nil))⟩⟩
  ·unfold findBy
   simp only [List.find?_toArray,List.find?_cons]
   rfl
  ·exact congrArg (fun z=>Value.str z _) (by rw [(st_plus _).1];decide +kernel)
  ·exact congrArg (fun z=>Value.str z _) (by rw [(st_plus _).2];decide +kernel)
  ·exact congrArg (fun z=>Value.str z _) (by rw [(st_plus _).1];decide +kernel)
  ·exact congrArg (fun z=>Value.str z _) (by rw [(st_plus _).2];decide +kernel)
 ·refine ⟨p2,a2,b2,⟨_,_,hd,ks,?_⟩,fun H=>⟨.mod hp2 (by simp) (.cons rfl (.cons rfl .nil)),.mod ha2 (by simp) (.cons ⟨u21,?_⟩ (.cons ⟨u22,?_⟩ .nil)),.mod hb2 (by simp) (.cons ⟨u23,?_⟩ (.cons ⟨u24,?_⟩ .nil))⟩⟩
  ·unfold findBy
   simp only [List.find?_toArray,List.find?_cons]
   rfl
  ·exact congrArg (fun z=>Value.str z _) (by rw [(st_blank _).1];decide +kernel)
  ·exact congrArg (fun z=>Value.str z _) (by rw [(st_blank _).2];decide +kernel)
  ·exact congrArg (fun z=>Value.str z _) (by rw [(st_blank _).1];decide +kernel)
  ·exact congrArg (fun z=>Value.str z _) (by rw [(st_blank _).2];decide +kernel)
 ·refine ⟨p3,a3,b3,⟨_,_,hd,ks,?_⟩,fun H=>⟨.mod hp3 (by simp) (.cons rfl (.cons rfl .nil)),.mod ha3 (by simp) (.cons ⟨u31,?_⟩ (.cons ⟨u32,?_⟩ .nil)),.mod hb3 (by simp) (.cons ⟨u33,?_⟩ (.cons ⟨u34,?_⟩ .nil))⟩⟩
  ·unfold findBy
   simp only [List.find?_toArray,List.find?_cons]
   rfl
  ·exact congrArg (fun z=>Value.str z _) (by rw [(st_brackets _).1];decide +kernel)
  ·exact congrArg (fun z=>Value.str z _) (by rw [(st_brackets _).2];decide +kernel)
  ·exact congrArg (fun z=>Value.str z _) (by rw [(st_brackets _).1];decide +kernel)
  ·exact congrArg (fun z=>Value.str z _) (by rw [(st_brackets _).2];decide +kernel)
 ·refine ⟨p4,a4,b4,⟨_,_,hd,ks,?_⟩,fun H=>⟨.mod hp4 (by simp) (.cons rfl (.cons rfl .nil)),.mod ha4 (by simp) (.cons ⟨u41,?_⟩ (.cons ⟨u42,?_⟩ .nil)),.mod hb4 (by simp) (.cons ⟨u43,?_⟩ (.cons ⟨u44,?_⟩ .nil))⟩⟩
  ·unfold findBy
   simp only [List.find?_toArray,List.find?_cons]
   rfl
  ·exact congrArg (fun z=>Value.str z _) (by rw [(st_behind _).1];decide +kernel)
  ·exact congrArg (fun z=>Value.str z _) (by rw [(st_behind _).2];decide +kernel)
  ·exact congrArg (fun z=>Value.str z _) (by rw [(st_behind _).1];decide +kernel)
  ·exact congrArg (fun z=>Value.str z _) (by rw [(st_behind _).2];decide +kernel)
section
variable {X : Cx} {σ : St} {H : Hp} {Q : VK} {D : Ends} {K : W.Frag}
def kForT (K:PySem.W.Frag) (g:TG) (tb:TS) (D:Ends) (σ:St) (x:V) (H:Hp):Prop:=∃ a,x = .ref a∧(∃ xs,SqT K H a xs) ∧ ∃ W:Nat→Nat→St→Hp→Prop,(∃ m,W 0 m σ H) ∧ ∀ i m σ H,W i m σ H →
 ((Itt K a).stop i H∧D.nx σ H)∨((Itt K a).go i H ∧ ∃ N:St→Hp→Prop,(∀ σ' H',N σ' H' → ∃ m',m' < m∧W (i+1) m' σ' H') ∧ ∀ x H',(Itt K a).yld i H x H'→g x σ H' fun σ2 H2=>tb { D with nx:=N,ct:=N,bk:=D.nx } σ2 H2)
theorem r_forT {tl:TE} {g:TG} {tb:TS} (h:tl σ H (kForT K g tb D σ)):tFor (iTup K tl) g tb D σ H:=h
theorem r_kForT {g:TG} {tb:TS} {a:Addr} {xs:List V} (hx:SqT K H a xs) (Pv:Nat→St→Hp→Prop) (h0:Pv 0 σ H) (hl : ∀ i σ H,i≤xs.length→Pv i σ H→SqT K H a xs)
  (hs : ∀ i x σ H,xs[i]? = some x→Pv i σ H→g x σ H fun σ2 H2=>tb { D with nx:=Pv (i+1),ct:=Pv (i+1),bk:=D.nx } σ2 H2) (hd : ∀ σ H,Pv xs.length σ H→D.nx σ H):kForT K g tb D σ (.ref a) H:=⟨a,rfl,⟨xs,hx⟩,for_tup Pv h0 hl hs hd⟩
theorem in_all : ∀ c ∈ List.range 127,(!(Builtin.Str.occurrences "0123456789abcdef" (T [c]) 0 (Str.ofString "0123456789abcdef").length 1).isEmpty)=decide (0≤fv c):=by decide +kernel
theorem r_inF {c:Nat} (h:c < 127) (q:Q (.bl (decide (0≤fv c))) H):rInS (.str (T [c])) (.str "0123456789abcdef") H Q:=r_inS (by rw [in_all c (List.mem_range.mpr h)];exact q)
theorem rTT_slE {lo hi:Option Int} (q:Q (.str (T [])) H):rSlS (.str (T [])) lo hi H Q:=by
 refine r_slS (by decide) ?_
 rw [slice_T,Lt_T];simpa using q
end
def bod (x:Str) (b:Bool) (t:List Nat):List Nat:=(t.take (t.length - (stT x b).length)).drop (stL x b).length
def Fg (l:List Nat):Prop:=l≠[]∧0≤fv (l.getD 0 0)∧0≤fv (l.getD (l.length - 1) 0)
def Sgd (x:Str) (b:Bool) (t:List Nat):Prop:=Fg (bod x b t)∧stL x b++bod x b t++stT x b=t
theorem bod_len {x:Str} {b:Bool} {t:List Nat}:(bod x b t).length=t.length - (stT x b).length - (stL x b).length:=by
 unfold bod;rw [List.length_drop,List.length_take];omega
theorem bod_asc {x:Str} {b:Bool} {t:List Nat} (h:Asc t):Asc (bod x b t):=(h.take _).drop _
theorem getD_asc {t:List Nat} {i:Nat} (h:Asc t) (hi:i < t.length):t.getD i 0 < 127:=by
 rw [List.getD_eq_getElem?_getD,List.getElem?_eq_getElem hi];exact h _ (List.getElem_mem hi)
theorem no_fig_eq {c d:Nat} (h:0≤fv c) (e:c=d) (hd:fv d = -1):False:=by rw [e,hd] at h;omega
theorem one_way {x:Str} (hx:Style x) {t:List Nat} (h0:Sgd x false t) (h1:Sgd x true t):False:=by
 have b0:=List.length_pos_iff.mpr h0.1.1
 have b1:=List.length_pos_iff.mpr h1.1.1
 have e0:=h0.2
 have e1:=h1.2
 have f0:=h0.1.2
 generalize hB:bod x false t=B at *
 generalize hC:bod x true t=C at *
 have e:=e0.trans e1.symm
 rcases hx with rfl | rfl | rfl | rfl | rfl
 ·rw [(st_minus _).1,(st_minus _).2,(st_minus _).1,(st_minus _).2] at e
  have z1:=congrArg (fun l=>l.getD 0 0) e
  exact no_fig_eq f0.1 (by simpa using z1) (by decide)
 ·rw [(st_plus _).1,(st_plus _).2,(st_plus _).1,(st_plus _).2] at e
  have z1:=congrArg (fun l=>l.getD 0 0) e
  simp at z1
 ·rw [(st_blank _).1,(st_blank _).2,(st_blank _).1,(st_blank _).2] at e
  have z1:=congrArg (fun l=>l.getD 0 0) e
  simp at z1
 ·rw [(st_brackets _).1,(st_brackets _).2,(st_brackets _).1,(st_brackets _).2] at e
  have z1:=congrArg (fun l=>l.getD 0 0) e
  exact no_fig_eq f0.1 (by simpa using z1) (by decide)
 ·rw [(st_behind _).1,(st_behind _).2,(st_behind _).1,(st_behind _).2] at e
  have e':B=C++[45]:=by simpa using e
  have z1:B.getD (B.length - 1) 0=45:=by
   rw [e',List.length_append,List.length_singleton,Nat.add_sub_cancel,getD_app2 (Nat.le_refl _),Nat.sub_self];rfl
  exact no_fig_eq f0.2 z1 (by decide)
theorem st_asc {x:Str} (h:Style x) (b:Bool):Asc (stL x b)∧Asc (stT x b):=by
 unfold Asc
 rcases h with rfl | rfl | rfl | rfl | rfl
 ·rw [(st_minus b).1,(st_minus b).2];cases b <;> decide
 ·rw [(st_plus b).1,(st_plus b).2];cases b <;> decide
 ·rw [(st_blank b).1,(st_blank b).2];cases b <;> decide
 ·rw [(st_brackets b).1,(st_brackets b).2];cases b <;> decide
 ·rw [(st_behind b).1,(st_behind b).2];cases b <;> decide
section
variable {X : Cx} {H : Hp} {Q : VK} {K : W.Frag} {σ : St}
def rRjT:V→List V→Hp→VK→Prop:=fun x vs H Q=>∃ (a:List Nat) (i:Int) (c:Nat),x = .str (T a)∧vs=[.int i,.str (T [c])]∧0≤i∧i≤1000∧Q (.str (T (List.replicate (i.toNat - a.length) c++a))) H
theorem mt_rjustT:MtR X "str.rjust" rRjT:=by
 intro pins s σ H x vs v us Q I rx rv h
 obtain ⟨a,i,c,rfl,rfl,h0,h1,q⟩:=h
 obtain ⟨t,rfl⟩:=rx
 obtain ⟨u1,u2,rfl,r1,r2⟩:=vals2 rv
 obtain ⟨t1,rfl⟩:=r1
 obtain ⟨t2,rfl⟩:=r2
 have pk:PadOk i=true:=by
  unfold PadOk Builtin.Str.tooLong fitsSsize
  have : ¬ i.toNat > sizeLine:=by show ¬ i.toNat > 16777216;omega
  rw [decide_eq_false this]
  simp
  omega
 refine rjust_fill pk rfl fun t' k=>⟨.str _,H,I.tok _,⟨t',rfl⟩,?_⟩
 have e:Txt.rjustF (T a) i ((T [c]).cps.getD 0 0)=T (List.replicate (i.toNat - a.length) c++a):=Lt_inj (rjustF_list (T a) i c)
 rw [e];exact q
theorem r_rjT {a:List Nat} {i:Int} {c:Nat} (h0:0≤i) (h1:i≤1000) (q:Q (.str (T (List.replicate (i.toNat - a.length) c++a))) H):rRjT (.str (T a)) [.int i,.str (T [c])] H Q:=⟨a,i,c,rfl,rfl,h0,h1,q⟩
end
def dgs (b p n:Nat):List Nat:=List.replicate (p+1 - (figs b n).length) 48++figs b n
theorem dgs_spec {b p n:Nat} (h2:2≤b) (h16:b≤16) (hp:p≤6) (h:n < b ^ (40+p)):FigB b (dgs b p n)∧val b (dgs b p n)=n∧p+1≤(dgs b p n).length∧(dgs b p n).length≤40+p∧((dgs b p n).getD 0 0=48→(dgs b p n).length=p+1):=by
 have s:=figs_spec h2 h16 n n (Nat.le_refl _)
 have ln:=figs_len h2 (39+p) n (by rw [show 39+p+1=40+p by omega];exact h)
 have ps:=List.length_pos_iff.mpr s.2.2.1
 have ld:(dgs b p n).length=p+1 - (figs b n).length+(figs b n).length:=by unfold dgs;rw [List.length_append,List.length_replicate]
 refine ⟨(FigB.noughts (by omega) _).app s.1,?_,by omega,by omega,fun z=>?_⟩
 ·unfold dgs;rw [val_noughts];exact s.2.1
 ·rcases Nat.lt_or_ge (p+1) (figs b n).length with q | q
  ·have e:dgs b p n=figs b n:=by unfold dgs;rw [show p+1 - (figs b n).length=0 by omega];rfl
   rw [e] at z
   have:=s.2.2.2 z
   subst this
   rw [figs_lt (by omega)] at q
   simp at q
  ·omega
def whl (b p n:Nat):List Nat:=(dgs b p n).take ((dgs b p n).length - p)
def rst (b p n:Nat):List Nat:=(dgs b p n).drop ((dgs b p n).length - p)
def bdy (b p pt z m n:Nat):List Nat:=if p=0 then gr z m (whl b p n) else gr z m (whl b p n)++[pt]++rst b p n
theorem whl_rst (b p n:Nat):whl b p n++rst b p n=dgs b p n:=List.take_append_drop _ _
theorem whl_spec {b p n:Nat} (h2:2≤b) (h16:b≤16) (hp:p≤6) (h:n < b ^ (40+p)):1≤(whl b p n).length∧(whl b p n).length≤40∧(rst b p n).length=p∧((whl b p n).getD 0 0=48→(whl b p n).length=1):=by
 have s:=dgs_spec h2 h16 hp h
 have lw:(whl b p n).length=(dgs b p n).length - p:=by unfold whl;rw [List.length_take];omega
 refine ⟨by omega,by omega,by unfold rst;rw [List.length_drop];omega,fun z=>?_⟩
 have e:(whl b p n).getD 0 0=(dgs b p n).getD 0 0:=by
  rw [← whl_rst b p n,getD_app1 (by omega)]
 rw [e] at z
 have:=s.2.2.2.2 z
 omega
theorem gr_front {z m k:Nat} {a:List Nat} (hk:k < a.length):gr z m (a.drop k)=a.getD k 0::((if 0 < z∧0 < a.length - (k+1)∧(a.length - (k+1)) % z=0 then [m] else [])++gr z m (a.drop (k+1))):=by
 have t:=gr_turn (z:=z) (m:=m) (a:=a) (k:=a.length - (k+1)) (by omega)
 rw [show a.length - (a.length - (k+1)+1)=k by omega,show a.length - 1 - (a.length - (k+1))=k by omega,show a.length - (a.length - (k+1))=k+1 by omega] at t
 exact t
theorem RJ_mem {z m : Nat} : ∀ (k : Nat) (b : List Nat), b.length ≤ k → ∀ c ∈ RJ z m b, c ∈ b ∨ c = m
  | 0, b, h, c, hc => by rw [RJ_le (by omega)] at hc; exact .inl hc
  | k + 1, b, h, c, hc => by
    rcases Nat.eq_zero_or_pos z with p | p
    · subst p; rw [RJ_zero] at hc; exact .inl hc
    · rcases Nat.lt_or_ge z b.length with q | q
      · rw [RJ_gt p q] at hc
        rcases List.mem_append.mp hc with hc | hc
        · exact .inl (List.mem_of_mem_take hc)
        · rcases List.mem_cons.mp hc with hc | hc
          · exact .inr hc
          · rcases RJ_mem k (b.drop z) (by rw [List.length_drop]; omega) c hc with hc | hc
            · exact .inl (List.mem_of_mem_drop hc)
            · exact .inr hc
      · rw [RJ_le q] at hc; exact .inl hc
theorem gr_asc {z m:Nat} {a:List Nat} (h:Asc a) (hm:m < 127):Asc (gr z m a):=fun c hc=>by
 unfold gr at hc
 rcases RJ_mem _ a.reverse (Nat.le_refl _) c (List.mem_reverse.mp hc) with z | z
 ·exact h c (List.mem_reverse.mp z)
 ·rw [z];exact hm
theorem RJ_head {z m:Nat} {b:List Nat} (h:0 < b.length):(RJ z m b).getD 0 0=b.getD 0 0:=by
 rcases Nat.eq_zero_or_pos z with p | p
 ·subst p;rw [RJ_zero]
 ·rcases Nat.lt_or_ge z b.length with q | q
  ·rw [RJ_gt p q,getD_app1 (by rw [List.length_take];omega),List.getD_eq_getElem?_getD,List.getElem?_take,if_pos p,← List.getD_eq_getElem?_getD]
  ·rw [RJ_le q]
theorem gr_last {z m:Nat} {a:List Nat} (h:0 < a.length):(gr z m a).getD ((gr z m a).length - 1) 0=a.getD (a.length - 1) 0:=by
 have l:=gr_len (z:=z) (m:=m) (a:=a)
 have e1:(RJ z m a.reverse).getD 0 0=a.reverse.getD 0 0:=RJ_head (by rw [List.length_reverse];exact h)
 rw [getD_rev h] at e1
 have e2:(gr z m a).reverse=RJ z m a.reverse:=by unfold gr;rw [List.reverse_reverse]
 rw [← e2,getD_rev (by omega)] at e1
 rw [show (gr z m a).length - 1=(gr z m a).length - 1 - 0 by omega,e1];rfl
theorem gr_head {z m:Nat} {a:List Nat} (h:0 < a.length):(gr z m a).getD 0 0=a.getD 0 0:=by
 have f:=gr_front (z:=z) (m:=m) (a:=a) (k:=0) h
 rw [List.drop_zero] at f
 rw [f];rfl
theorem FigB.get {b:Int} {l:List Nat} (h:FigB b l) {i:Nat} (hi:i < l.length):0≤fv (l.getD i 0):=by
 rw [List.getD_eq_getElem?_getD,List.getElem?_eq_getElem hi];exact (h _ (List.getElem_mem hi)).2.1
theorem bdy_spec {b p pt z m n:Nat} (h2:2≤b) (h16:b≤16) (hp:p≤6) (h:n < b ^ (40+p)) (hpt:pt < 127) (hm:m < 127):Fg (bdy b p pt z m n)∧Asc (bdy b p pt z m n)∧(bdy b p pt z m n).length≤100:=by
 have ds:=dgs_spec h2 h16 hp h
 have ws:=whl_spec h2 h16 hp h
 have wr:=whl_rst b p n
 have fw:FigB b (whl b p n):=fun c hc=>ds.1 c (by rw [← wr];exact List.mem_append_left _ hc)
 have fr:FigB b (rst b p n):=fun c hc=>ds.1 c (by rw [← wr];exact List.mem_append_right _ hc)
 have gl:=gr_len (z:=z) (m:=m) (a:=whl b p n)
 have ag:=gr_asc (z:=z) (m:=m) fw.asc hm
 unfold bdy Fg
 rcases Nat.eq_zero_or_pos p with q | q
 ·rw [if_pos q]
  refine ⟨⟨List.length_pos_iff.mp (by omega),?_,?_⟩,ag,by omega⟩
  ·rw [gr_head (by omega)];exact fw.get (by omega)
  ·rw [gr_last (by omega)];exact fw.get (by omega)
 ·rw [if_neg (by omega)]
  refine ⟨⟨by simp,?_,?_⟩,(ag.app (Asc.one hpt)).app fr.asc,by simp only [List.length_append,List.length_singleton];omega⟩
  ·rw [List.append_assoc,getD_app1 (by omega),gr_head (by omega)];exact fw.get (by omega)
  ·rw [getD_app2 (by simp only [List.length_append,List.length_singleton];omega)]
   exact fr.get (by simp only [List.length_append,List.length_singleton];omega)
theorem bod_sg {x:Str} {b:Bool} {B:List Nat}:bod x b (stL x b++B++stT x b)=B:=by
 unfold bod
 rw [show (stL x b++B++stT x b).length - (stT x b).length=(stL x b++B).length by simp only [List.length_append];omega,List.take_append_of_le_length (Nat.le_refl _),List.take_length,List.drop_append,List.drop_of_length_le (Nat.le_refl _),Nat.sub_self];rfl
def PassOn (X:Cx) (E:XK):Prop:=∀ (pins:List (Addr × Obj)) (σ:St) (e:Value) (s':Shared),XP X pins σ E e s'→X.xe e s'
section
variable {P : Program} {w : World} {K : W.Frag} {mg : Str → Option Value} {base : Heap} {N : List Str} {qual : Str} {scope : Scope} {f : Addr} {cd : Value} {A : Around} {outer : List Env} {s : Shared} {H : Hp} {E : XK}
theorem passes_on : PassOn (cxOf (CXE P w) P w K mg base N qual scope f cd A outer s H E) E := by
  intro pins σ e s' h
  obtain ⟨H1, s1, I1, fl⟩ := h
  obtain ⟨x, C, a0, H', B, rfl, hos, hbare, fly, clo, hx1, hx2, q⟩ := fl
  refine wpAny_leaves_onW I1.ok.frames rfl fly fun h2 fly2 sm => ?_
  refine ⟨x, C, a0, H', B, rfl, hos.trans I1.os, hbare, fly2, fun h3 st sm3 => ?_, ?_, hx2, q⟩
  · have cl := clo h3 st (sm.trans sm3)
    have I3 := I1.call' (s' := { s' with heap := h3 }) hos cl.1 cl.2 hbare (fun b z => nomatch z)
    exact ⟨I3.base, I3.hok⟩
  · cases z : s.heap.get? x with
    | none => rfl
    | some o =>
      obtain ⟨o', e1⟩ := I1.base.there x o z (fun h => nomatch h)
      rw [hx1] at e1; cases e1
end
theorem passes_cx {P:Program} {w:World} {K:W.Frag} {mg:Str→Option Value} {base:Heap} {N:List Str} {qual:Str} {scope:Scope} {f:Addr} {cd:Value} {A:Around} {outer:List Env} {s:Shared} {H:Hp} {E:XK}:Passes (CXE P w) (cxOf (CXE P w) P w K mg base N qual scope f cd A outer s H E) E:=fun pins σ H1 s1 e s' I h=>passes_on pins σ e s' ⟨H1,s1,I,h⟩
abbrev tsV (ts:List (List Nat)):List V:=ts.map fun l=>V.str (T l)
theorem flat_ts (ts:List (List Nat)):(tsV ts).all flatV=true:=by
 rw [List.all_eq_true];intro x hx
 obtain ⟨l,_,rfl⟩:=List.mem_map.mp hx
 rfl
theorem eqV_T (a b:List Nat):eqV (.str (T a)) (.str (T b))=decide (a=b):=by
 show (T a == T b)=_
 rw [Bool.eq_iff_iff,beq_iff_eq,decide_eq_true_iff,T_eq]
section
variable {X : Cx} {H : Hp} {Q : VK} {K : W.Frag}
theorem inV_ts (t:List Nat) (ts:List (List Nat)):inV (.str (T t)) (tsV ts)=decide (t ∈ ts):=by
 unfold inV
 rw [Bool.eq_iff_iff,List.any_eq_true,decide_eq_true_iff]
 constructor
 ·rintro ⟨y,hy,e⟩
  obtain ⟨l,hl,rfl⟩:=List.mem_map.mp hy
  rw [eqV_T,decide_eq_true_iff] at e
  exact e ▸ hl
 ·intro h
  exact ⟨_,List.mem_map.mpr ⟨t,h,rfl⟩,by rw [eqV_T,decide_eq_true_iff]⟩
theorem r_ninTs {p:Addr} {t:List Nat} {ts:List (List Nat)} (h:SqL K H p (tsV ts)) (q:Q (.bl (!decide (t ∈ ts))) H):rIn K true (.str (T t)) (.ref p) H Q:=⟨p,_,rfl,.inl h,rfl,flat_ts ts,by rw [inV_ts];exact q⟩
theorem r_ixTsL {p:Addr} {ts:List (List Nat)} (h:SqL K H p (tsV ts)) (h0:0 < ts.length) (q:Q (.str (T (ts.getD (ts.length - 1) []))) H):rIxL K (.ref p) (.int (-1)) H Q:=by
 refine r_ixL h (v:=.str (T (ts.getD (ts.length - 1) []))) ?_ q
 unfold atI ixN
 rw [List.length_map,if_neg (show ¬ (0:Int) ≤ -1 by decide),if_pos (show -(ts.length:Int) ≤ -1 by omega)]
 show (tsV ts)[((-1:Int)+ts.length).toNat]? = _
 rw [show ((-1:Int)+ts.length).toNat=ts.length - 1 by omega,List.getElem?_map,List.getD_eq_getElem?_getD,List.getElem?_eq_getElem (by omega)]
 rfl
def rListOf (K:W.Frag):List V→Hp→VK→Prop:=fun xs H Q=>∃ p ys,xs=[.ref p]∧(SqL K H p ys∨SqT K H p ys) ∧ ∀ l,H l=none→Q (.ref l) (upd H l (.lst ys))
theorem call_listOf:CallR X (.type "list") (rListOf X.K):=call_list_of
theorem r_listOf {p:Addr} {ys:List V} (h:SqL K H p ys) (q : ∀ l H',Same H H'→H l=none→H' l=some (.lst ys)→Q (.ref l) H'):rListOf K [.ref p] H Q:=⟨p,ys,rfl,.inl h,fun l hl=>q l _ (same_upd (Same.refl _) hl) hl upd_same⟩
theorem r_kLstN {xs:List V} (hz:xs.length≤sizeLine) (q : ∀ l H',Same H H'→H l=none→H' l=some (.lst xs)→Q (.ref l) H'):kLst Q xs H:=⟨hz,fun l hl=>q l _ (same_upd (Same.refl _) hl) hl upd_same⟩
end
def lk (n w:Int):Int:=if n < w then w - n else 0
def Side (x:Str):Prop:=x = "left" ∨ x = "right" ∨ x = "middle"
def pA (x:Str) (n w:Int):Int:=if x = "left" then 0 else if x = "right" then lk n w else lk n w / 2
def pB (x:Str) (n w:Int):Int:=lk n w - pA x n w
theorem lk_bd (n w:Int) (h0:0≤n) (hw:w≤40):0≤lk n w∧lk n w≤40∧(w≤n→lk n w=0)∧(n≤w→lk n w=w - n):=by unfold lk;split <;> omega
theorem pAl (n w:Int):pA "left" n w=0:=by unfold pA;rw [if_pos rfl]
theorem pAr (n w:Int):pA "right" n w=lk n w:=by unfold pA;rw [if_neg (by decide +kernel),if_pos rfl]
theorem pAm (n w:Int):pA "middle" n w=lk n w / 2:=by unfold pA;rw [if_neg (by decide +kernel),if_neg (by decide +kernel)]
def PadsB (x:Str) (n w:Int):Prop:=0≤pA x n w∧0≤pB x n w∧pA x n w+pB x n w=lk n w∧(x = "left" → pA x n w=0)∧(x = "right" → pB x n w=0)∧(x = "middle" → pB x n w=pA x n w∨pB x n w=pA x n w+1)
theorem pads_bd {x:Str} {n w:Int} (hs:Side x) (h0:0≤n) (hw:w≤40):PadsB x n w:=by
 have b:=lk_bd n w h0 hw
 unfold PadsB pB
 rcases hs with rfl | rfl | rfl
 ·rw [pAl];exact ⟨by omega,by omega,by omega,fun _=>rfl,fun h=>absurd h (by decide +kernel),fun h=>absurd h (by decide +kernel)⟩
 ·rw [pAr];exact ⟨by omega,by omega,by omega,fun h=>absurd h (by decide +kernel),fun _=>by omega,fun h=>absurd h (by decide +kernel)⟩
 ·rw [pAm];exact ⟨by omega,by omega,by omega,fun h=>absurd h (by decide +kernel),fun h=>absurd h (by decide +kernel),fun _=>by omega⟩
def pad (t:List Nat) (w:Int) (f:Nat) (x:Str):List Nat:=List.replicate (pA x t.length w).toNat f++t++List.replicate (pB x t.length w).toNat f
theorem pad_len {t:List Nat} {w:Int} {f:Nat} {x:Str} (h:PadsB x t.length w):((pad t w f x).length:Int)=t.length+lk t.length w:=by
 unfold pad;obtain ⟨h1,h2,h3,_⟩:=h
 simp only [List.length_append,List.length_replicate];omega
def sl (t:List Nat) (w:Int) (x:Str) (n:Nat):List Nat:=(t.take ((pA x n w)+n).toNat).drop (pA x n w).toNat
def gd (t:List Nat) (w:Int) (f:Nat) (x:Str) (n:Nat):Bool:=decide (pad (sl t w x n) w f x=t)
def nxt (t:List Nat) (w:Int) (f:Nat) (x:Str):List Nat:=if x = "left" ∨ (x = "middle" ∧ (w - t.length) % 2=1) then t++[f] else [f]++t
def Fst (t:List Nat) (w:Int) (f:Nat) (x:Str):Prop:=w < t.length∨((x = "left" → t.drop (t.length - 1)≠[f])∧(x = "right" → t.take 1≠[f])∧(x = "middle" → t.take 1≠[f]∧t.drop (t.length - 1)≠[f]))
structure Fnd (t:List Nat) (w:Int) (f:Nat) (x:Str) (W:List Nat) (F:List (List Nat)):Prop where
 has:t ∈ F
 pos:0 < F.length
 last:F.getD (F.length - 1) []=W
 each : ∀ k,k < F.length→pad (F.getD k []) w f x=W
 len : ∀ k,k < F.length→(F.getD k []).length≤W.length
 next : ∀ k,0 < k→k < F.length→F.getD k []=nxt (F.getD (k - 1) []) w f x
 first:Fst t w f x→F.getD 0 []=t
def fa (f:Nat):List Nat→Nat
 | []=>0
 | c::t=>if c=f then fa f t+1 else 0
structure FunD (K:W.Frag) (x qual:Str) (st:Stmt) (f:Addr) (fd:FuncData):Prop where
 ex : ∃ (oc:Value) (od:Option Addr) (dV kV doc pm:Value) (an:Option Addr) (cdv ct:Value) (osl:Array (Option Value)),
  fd=W.fnOf x qual (defArgs st) (defBody st) (defScope st) dV kV doc pm an cdv ct∧K.lookup f=some ⟨oc,od,.func fd,osl⟩∧W.codeIn K cdv qual=true
 kp:W.keepIn K (.ref f)=true
section
variable {P : Program} {w : World} {K : W.Frag} {mg : Str → Option Value} {base : Heap}
theorem FunD.ok {x qual:Str} {st:Stmt} {f:Addr} {fd:FuncData} {N ps:List Str} {k:Nat} {sp:Sp} (F:FunD K x qual st f fd) (S:FnScope N ps (defScope st)) (len : ∀ vs H Q E,sp vs H Q E→vs.length=ps.length)
  (hbody : ∀ (cdv:Value) (A:Around) (outer:List Env) (s:Shared) (H:Hp) (vs:List V) (Q:VK) (E:XK),Room k (A.deeper (envOfC qual (defScope st) s.heap.objs.size f cdv))→sp vs H Q E →
   ∃ t,PSs (cxOf CX0 P w K mg base N qual (defScope st) f cdv A outer s H E).nox (defBody st) t∧t { nx:=fun _ H'=>Q .non H',rt:=Q } (start N vs) H):FnOk P w K mg base CX0 (k+1) f fd ps sp:=by
 obtain ⟨oc,od,dV,kV,doc,pm,an,cdv,ct,osl,rfl,lk,hcd⟩:=F.ex
 refine fn_of lk hcd S len fun A outer s H vs Q E hr hsp=>?_
 obtain ⟨t,h,q⟩:=hbody cdv A outer s H vs Q E hr hsp
 exact ⟨t,h.nox,q⟩
theorem FunD.okX {x qual:Str} {st:Stmt} {f:Addr} {fd:FuncData} {N ps:List Str} {k:Nat} {sp:Sp} (F:FunD K x qual st f fd) (S:FnScope N ps (defScope st)) (len : ∀ vs H Q E,sp vs H Q E→vs.length=ps.length)
  (hbody : ∀ (cdv:Value) (A:Around) (outer:List Env) (s:Shared) (H:Hp) (vs:List V) (Q:VK) (E:XK),Room k (A.deeper (envOfC qual (defScope st) s.heap.objs.size f cdv))→sp vs H Q E →
   Takes (cxOf (CXE P w) P w K mg base N qual (defScope st) f cdv A outer s H E) E→Passes (CXE P w) (cxOf (CXE P w) P w K mg base N qual (defScope st) f cdv A outer s H E) E → ∃ t,PSs (cxOf (CXE P w) P w K mg base N qual (defScope st) f cdv A outer s H E) (defBody st) t∧t { nx:=fun _ H'=>Q .non H',rt:=Q } (start N vs) H):FnOk P w K mg base (CXE P w) (k+1) f fd ps sp:=by
 obtain ⟨oc,od,dV,kV,doc,pm,an,cdv,ct,osl,rfl,lk,hcd⟩:=F.ex
 exact fn_of lk hcd S len fun A outer s H vs Q E hr hsp=>hbody cdv A outer s H vs Q E hr hsp (fun pins σ H s h' x C args I hm q=>leaves_made I hm q) passes_cx
theorem FunD.binds {x qual:Str} {st:Stmt} {f:Addr} {fd:FuncData} {ps:List Str} (F:FunD K x qual st f fd)
  (h : ∀ (dV kV doc pm:Value) (an:Option Addr) (cdv ct:Value) (us:List Value),us.length=ps.length→bindArgs (W.fnOf x qual (defArgs st) (defBody st) (defScope st) dV kV doc pm an cdv ct) ⟨us,[]⟩=pure (ps.zip us)):Binds K fd ps []:=by
 obtain ⟨oc,od,dV,kV,doc,pm,an,cdv,ct,osl,rfl,lk,hcd⟩:=F.ex
 exact .all (h dV kV doc pm an cdv ct)
theorem funD_mk {x qual:Str} {st:Stmt} {f:Addr} {oc:Value} {od an:Option Addr} {osl:Array (Option Value)} {dV kV doc pm cdv ct:Value} (l:K.lookup f=some ⟨oc,od,.func (W.fnOf x qual (defArgs st) (defBody st) (defScope st) dV kV doc pm an cdv ct),osl⟩)
  (c:W.codeIn K cdv qual=true) (k:W.keepIn K (.ref f)=true):FunD K x qual st f (W.fnOf x qual (defArgs st) (defBody st) (defScope st) dV kV doc pm an cdv ct):=⟨⟨oc,od,dV,kV,doc,pm,an,cdv,ct,osl,rfl,l,c⟩,k⟩
end
def HasM (P:Program) (w:World) (K:W.Frag) (mg:Str→Option Value) (base:Heap) (CX:CXT) (C:Addr) (m:Str) (k:Nat) (ps:List Str) (sp:Sp):Prop:=
 ∃ (f:Addr) (fd:FuncData),FnOk P w K mg base CX k f fd ps sp∧Meth K C m f∧Binds K fd ps []
def HasI (P:Program) (w:World) (K:W.Frag) (mg:Str→Option Value) (base:Heap) (CX:CXT) (C:Addr) (k:Nat) (ps:List Str) (sp:Sp):Prop:=
 ∃ (f:Addr) (fd:FuncData),FnOk P w K mg base CX k f fd ps sp∧Mk K C f∧Binds K fd ps []
structure CMeth (K:W.Frag) (C:Addr) (m:Str) (f:Addr):Prop where
 sp:W.specialIn K (.ref C) "__getattribute__" = some (some (.builtin "type.__getattribute__"))
 rd:W.readsIn K C (.type "type")=true
 fc:W.findCls K (.ref C) (.type "type") m=some (.val (.ref f))
 kp:W.keepIn K (.ref f)=true
def HasC (P:Program) (w:World) (K:W.Frag) (mg:Str→Option Value) (base:Heap) (CX:CXT) (C:Addr) (m:Str) (k:Nat) (ps:List Str) (sp:Sp):Prop:=
 ∃ (f:Addr) (fd:FuncData),FnOk P w K mg base CX k f fd ps sp∧CMeth K C m f∧Binds K fd ps []
section
variable {X : Cx} {CX : CXT} {k n : Nat} {C : Addr} {ps : List Str} {sp : Sp} {E : XK} {x m : Str} {p np pos apos : Pos} {e o : Expr} {es : List Expr} {ta : TE} {t : TA}
theorem pe_methH {pl:Sem Bool} (F:HasM X.prog X.w X.K X.mg X.base CX C m k ps sp) (c:Cls X.K C) (hx:Passes CX X E) (hr:Room n X.A) (he:PE X o ta) (ha:PA X (e::es) t) (hk:k≤n:=by decide)
  (hst:starEach (e::es) X.env=(false,eval e X.env)::starEach es X.env:=by rfl) (hpl:(backTo pos (starEach es X.env)).any (·.1)=false:=by rfl)
  (ht:eval (.Call (.Attribute o m apos) (e::es) [] pos) X.env=(do
   let ov ← eval o X.env
   standAt apos.atName
   let (f,first) ← holding [ov] (getMethod ov m pl)
   callWith pos f first (backTo pos (starEach (e::es) X.env)) (backToKw pos (keywordEach [] X.env))):=by rfl) :
  PE X (.Call (.Attribute o m apos) (e::es) [] pos) (tMeth C m sp [] E ta t):=by
 obtain ⟨f,fd,G,M,b⟩:=F
 exact pe_meth (pl:=pl) he c M (G.mono hk) hr b .nil hx ha hst hpl ht
theorem pe_makeH (F:HasI X.prog X.w X.K X.mg X.base CX C k ps sp) (hx:Passes CX X E) (hr:Room n X.A) (hg:Gl X x) (hm:X.mg x=some (.ref C)) (ha:PA X (e::es) t) (hk:k+1≤n:=by decide)
  (hdb:(x == ("__debug__" : Str))=false:=by decide) (he:starEach (e::es) X.env=(false,eval e X.env)::starEach es X.env:=by rfl) (hpl:(backTo pos (starEach es X.env)).any (·.1)=false:=by rfl) :
  PE X (.Call (.Name x p) (e::es) [] pos) (tMake C sp [] E t):=by
 obtain ⟨f,fd,G,M,b⟩:=F
 exact pe_make M G (hr.mono hk) hg hm b .nil hx ha hdb he hpl
theorem pe_cmethH {pl:Sem Bool} (F:HasC X.prog X.w X.K X.mg X.base CX C m k ps sp) (hx:Passes CX X E) (hr:Room n X.A) (hg:Gl X x) (hm:X.mg x=some (.ref C)) (ha:PA X (e::es) t) (hk:k≤n:=by decide)
  (hdb:(x == ("__debug__" : Str))=false:=by decide) (hst:starEach (e::es) X.env=(false,eval e X.env)::starEach es X.env:=by rfl) (hpl:(backTo pos (starEach es X.env)).any (·.1)=false:=by rfl)
  (ht:eval (.Call (.Attribute (.Name x np) m apos) (e::es) [] pos) X.env=(do
   let ov ← eval (.Name x np) X.env
   standAt apos.atName
   let (f,first) ← holding [ov] (getMethod ov m pl)
   callWith pos f first (backTo pos (starEach (e::es) X.env)) (backToKw pos (keywordEach [] X.env))):=by rfl) :
  PE X (.Call (.Attribute (.Name x np) m apos) (e::es) [] pos) (tCall sp [] E t):=by
 intro pins s σ H Q I h
 obtain ⟨f,fd,G,M,b⟩:=F
 refine W.methodCall_KW (pl:=pl) (ld_glob I hg hm ?_ hdb) ht
 refine W.method_cls I.kIn M.sp (W.cls_value I.kIn M.rd M.fc rfl ?_)
 have I1:=I.tok (s.toks+1)
 refine W.callWith_K (first:=[]) (h₀:=X.base) I.ok.mod.kin M.kp (thn (ha pos pins _ σ H _ I1 h) fun us s2 ⟨vs,H2,I2,r,q2⟩=>⟨I2.kIn,?_⟩) hst hpl
 exact run_fn (us:=us) (vs:=vs) (G.mono hk) hr b .nil hx I2 r q2
end
section
variable {σ : St} {H : Hp} {Q : VK} {D : Ends} {K : W.Frag} {C : Addr} {m f : Str} {sp : Sp} {E : XK} {ta tv : TE} {t : TA} {a : Addr}
def InsM (H:Hp) (a C:Addr) (m:Str):Prop:=∃ dx fs,H a=some (.ins C dx fs)∧fs.lookup m=none
def FldAt (K:W.Frag) (H:Hp) (a:Addr) (f:Str) (v:V):Prop:=∃ C dx fs,H a=some (.ins C dx fs)∧Cls K C∧NoAttr K C f∧fs.lookup f=some v
theorem InsM.same {H':Hp} (g:Same H H') (h:InsM H a C m):InsM H' a C m:=by obtain ⟨dx,fs,e,l⟩:=h;exact ⟨dx,fs,g _ _ e,l⟩
theorem FldAt.same {H':Hp} {v:V} (g:Same H H') (h:FldAt K H a f v):FldAt K H' a f v:=by obtain ⟨C,dx,fs,e,l⟩:=h;exact ⟨C,dx,fs,g _ _ e,l⟩
def kMeth (C:Addr) (m:Str) (sp:Sp) (dvs:List V) (E:XK) (t:TA) (σ:St) (Q:VK):VK:=fun x H1=>∃ a dx fs,x = .ref a∧H1 a=some (.ins C dx fs)∧fs.lookup m=none∧t σ H1 fun vs H2=>sp (x::(vs++dvs)) H2 Q E
theorem r_meth {dvs:List V} (h:ta σ H (kMeth C m sp dvs E t σ Q)):tMeth C m sp dvs E ta t σ H Q:=h
theorem r_kMeth {dvs:List V} (hi:InsM H a C m) (h:t σ H fun vs H2=>sp (.ref a::(vs++dvs)) H2 Q E):kMeth C m sp dvs E t σ Q (.ref a) H:=by
 obtain ⟨dx,fs,e,l⟩:=hi
 exact ⟨a,dx,fs,rfl,e,l,h⟩
def kFld (K:W.Frag) (f:Str) (Q:VK):VK:=fun x H1=>∃ a C dx fs v,x = .ref a∧H1 a=some (.ins C dx fs)∧Cls K C∧NoAttr K C f∧fs.lookup f=some v∧Q v H1
theorem r_fld (h:ta σ H (kFld K f Q)):tFld K ta f σ H Q:=h
theorem r_kFld {v:V} (hi:FldAt K H a f v) (q:Q v H):kFld K f Q (.ref a) H:=by
 obtain ⟨C,dx,fs,e,c,n,l⟩:=hi
 exact ⟨a,C,dx,fs,v,rfl,e,c,n,l,q⟩
def kSet (K:W.Frag) (f:Str) (y:V) (D:Ends) (σ:St):VK:=fun x H2=>∃ a C dx fs,x = .ref a∧H2 a=some (.ins C dx fs)∧Cls K C∧NoAttr K C f∧fs.length < 1000∧D.nx σ (upd H2 a (.ins C dx (putF f y fs)))
theorem r_sFld (h:tv σ H fun y H1=>ta σ H1 (kSet K f y D σ)):sFld K ta tv f D σ H:=h
theorem r_kSet {dx:Addr} {fs:List (Str × V)} {y:V} (e:H a=some (.ins C dx fs)) (c:Cls K C) (n:NoAttr K C f) (l:fs.length < 1000) (q:D.nx σ (upd H a (.ins C dx (putF f y fs)))):kSet K f y D σ (.ref a) H:=⟨a,C,dx,fs,rfl,e,c,n,l,q⟩
def kMake (C:Addr) (sp:Sp) (dvs:List V) (E:XK) (Q:VK):List V→Hp→Prop:=fun vs H1=>∀ x dx,H1 x=none→H1 dx=none→dx≠x →
 sp (.ref x::(vs++dvs)) (upd (upd H1 dx (.own x)) x (.ins C dx [])) (fun v H2=>v = .non∧Q (.ref x) H2) E
theorem r_make {dvs:List V} (h:t σ H (kMake C sp dvs E Q)):tMake C sp dvs E t σ H Q:=h
theorem putF_nil (f:Str) (v:V):putF f v []=[(f,v)]:=rfl
theorem putF_ne {f k:Str} {v x:V} {r:List (Str × V)} (h:k≠f):putF f v ((k,x)::r)=(k,x)::putF f v r:=by
 rw [show putF f v ((k,x)::r)=(if k=f then (k,v)::r else (k,x)::putF f v r) from rfl,if_neg h]
theorem lk_eq {k:Str} {x:V} {r:List (Str × V)}:((k,x)::r).lookup k=some x:=by simp [List.lookup]
theorem lk_ne {f k:Str} {x:V} {r:List (Str × V)} (h:f≠k):((k,x)::r).lookup f=r.lookup f:=by
 have:(f == k)=false:=by simpa using h
 simp [List.lookup,this]
end
def Wk (σc σ:St):Prop:=σc.length=σ.length ∧ ∀ (i:Nat) v,σc[i]? = some (some v)→σ[i]? = some (some v)
theorem Wk.nil:Wk [] []:=⟨rfl,fun i v h=>h⟩
theorem Wk.one {a b:St} {x:Option V} (h:Wk a b):Wk (x::a) (x::b):=⟨by rw [List.length_cons,List.length_cons,h.1],fun i v e=>by
 cases i with
 | zero=>exact e
 | succ i=>exact h.2 i v e⟩
theorem Wk.any {a b:St} {x:Option V} (h:Wk a b):Wk (none::a) (x::b):=⟨by rw [List.length_cons,List.length_cons,h.1],fun i v e=>by
 cases i with
 | zero=>exact absurd (Option.some.inj e) (by simp)
 | succ i=>exact h.2 i v e⟩
section
variable {X : Cx} {pins pins0 : List (Addr × Obj)} {σ σc : St} {H : Hp} {s : Shared} {E : XK}
theorem SP.outExc {y:Addr} {D:Ends} {f:Flow} {s':Shared} (ok:X.Ok) (h:SP (X.inExc y) pins D f s'):SP X pins D f s':=by
 cases f with
 | next=>obtain ⟨σ',H',I,q⟩:=h;exact ⟨σ',H',I.outExc ok,q⟩
 | brk=>obtain ⟨σ',H',I,q⟩:=h;exact ⟨σ',H',I.outExc ok,q⟩
 | cont=>obtain ⟨σ',H',I,q⟩:=h;exact ⟨σ',H',I.outExc ok,q⟩
 | ret u=>obtain ⟨v,σ',H',I,r,q⟩:=h;exact ⟨v,σ',H',I.outExc ok,r,q⟩
end
section
variable {X : Cx} {cx : Str} {C' : Addr} {ts : TS} {th : Addr → TS} {np hpos pos : Pos} {b₀ : Stmt} {suite body : List Stmt} {rest hs : List ExceptHandler} {h₀ : ExceptHandler} {tb : St → XK → TS}
theorem isx {B:Heap} {l:List Env} {y C:Addr} {a0:Value} {h:Heap} (fl:Heap.FlyingW B l y (.ref C) a0 h):ExAt y C h:=by
 obtain ⟨_,_,_,oe,vs,_,_,_,h1,⟨h2,_⟩,h3,_⟩:=fl
 exact ⟨oe,h1,h2,vs,h3⟩
end
section
variable {X : Cx} {pins0 : List (Addr × Obj)} {σc : St} {k n : Nat} {C : Addr} {ps : List Str} {sp : Sp} {E : XK} {x m : Str} {p np pos apos : Pos} {e o : Expr} {es : List Expr} {ta : TE} {t : TA}
def tMethT (C:Addr) (m:Str) (sp:Sp) (E:XK) (σc:St) (ta:TE) (t:TA):TE:=fun σ H Q=>ta σ H (kMeth C m (fun vs H Q E=>Wk σc σ∧sp vs H Q E) [] E t σ Q)
variable {σ : St} {H : Hp} {Q : VK}
theorem r_methT (h:ta σ H (kMeth C m (fun vs H Q E=>Wk σc σ∧sp vs H Q E) [] E t σ Q)):tMethT C m sp E σc ta t σ H Q:=h
theorem r_wk {R:Prop} (h:Wk σc σ) (q:R):Wk σc σ∧R:=⟨h,q⟩
end
section
variable {X : Cx} {tg : Expr}
def picks (z:Str) (lo hi:Option Int) (st:Int):List Nat:=(Builtin.Str.strSliceIndices lo hi st z.length).filterMap ((Lt z)[·]?)
def rSl3:V→Option Int→Option Int→Int→Hp→VK→Prop:=fun x lo hi st H Q=>∃ z:Str,x = .str z∧st≠0∧z.length≤sizeLine∧(picks z lo hi st).length≤sizeLine ∧ ∀ y,(y=T (picks z lo hi st)∨(st=1∧y=z))→Q (.str y) H
def tSl3 (r:V→Option Int→Option Int→Int→Hp→VK→Prop) (te:TE) (tl th:TO) (ts:TE):TE:=fun σ H Q=>te σ H fun x H1=>tl σ H1 fun l H2=>th σ H2 fun u H3=>ts σ H3 fun s H4=>∃ i,s = .int i∧r x l u i H4 Q
theorem part_of {v:Value} {o:Option Int} (p:IsPart v o) : ∃ l:Option (Int × Tok),v=partValue l∧l.map (·.1)=o:=by
 cases p with
 | none=>exact ⟨none,rfl,rfl⟩
 | int i t=>exact ⟨some (i,t),rfl,rfl⟩
theorem pe_slice3 {e st:Expr} {lo hi:Option Expr} {te ts:TE} {tl th:TO} {p2 pos:Pos} (he:PE X e te) (hl:PO X lo tl) (hu:PO X hi th) (hs:PE X st ts):PE X (.Subscript e (.Slice lo hi (some st) p2) pos) (tSl3 rSl3 te tl th ts):=by
 intro pins s σ H Q I h
 refine Subscript_ (thn (he pins s σ H _ I h) fun v s1 ⟨x,H1,I1,r1,q1⟩=>?_)
 refine wpAny_Slice (thn (hl pins s1 σ H1 _ I1 q1) fun vl s2 ⟨l,H2,I2,pl,q2⟩=>thn (hu pins s2 σ H2 _ I2 q2) fun vu s3 ⟨u,H3,I3,pu,q3⟩=>?_)
 refine thn (hs pins s3 σ H3 _ I3 q3) fun vs s4 ⟨y,H4,I4,r4,i,ey,z,ex,hst,hz,hzp,q4⟩=>?_
 subst ey ex
 obtain ⟨t,rfl⟩:=r1
 obtain ⟨t4,rfl⟩:=r4
 obtain ⟨l',rfl,hl'⟩:=part_of pl
 obtain ⟨u',rfl,hu'⟩:=part_of pu
 have I5:Inv X pins σ H4 { s4 with heap:=s4.heap.push { cls:=.type "slice", data:=.fields #[partValue l',partValue u',.int i t4] } }:=I4.kept (t':=s4.toks) fun b ob q=>Heap.get?_push_of_some _ q
 show wpAny (model X.prog X.w) X.A (subscriptTail e (.Slice lo hi (some st) p2) (.str z t) (.ref s4.heap.objs.size)) (EP X pins σ Q) X.xe { s4 with heap:=s4.heap.push { cls:=.type "slice", data:=.fields #[partValue l',partValue u',.int i t4] } }
 refine tail_any (ops:=[.ref s4.heap.objs.size,.str z t]) (typeIs_str _ _ _) PySem.F.slot_str_getitem.lookup ?_ (by with_unfolding_all rfl)
 refine wpAny_getItem_str_slice (l:=l') (u:=u') (st:=some (i,t4)) ⟨_,Heap.get?_push_size _ rfl,rfl,rfl⟩ (by simpa using hst) ?_
 have e:slicePicked z l' u' (some (i,t4))=Builtin.Str.strSliceIndices l u i z.length:=by unfold slicePicked;rw [hl',hu'];rfl
 unfold sliceMade
 rw [e]
 have ep:(⟨((Builtin.Str.strSliceIndices l u i z.length).filterMap (z.cps[·]?)).toArray⟩:Str)=T (picks z l u i):=by
  unfold picks T;congr 3;funext k;simp [Lt]
 rw [ep]
 refine post_val_or_str ⟨?_,fun t' k=>⟨.str _,H4,I5.tok _,⟨t',rfl⟩,q4 _ ?_⟩⟩
 ·split
  ·exact hz
  ·exact hzp
 ·split
  ·rename_i hc
   rw [Bool.and_eq_true] at hc
   exact .inr ⟨by simpa using hc.1,rfl⟩
  ·exact .inl rfl
theorem r_sl3 {σ:St} {H:Hp} {Q:VK} {r:V→Option Int→Option Int→Int→Hp→VK→Prop} {te ts:TE} {tl th:TO} (h:te σ H fun x H1=>tl σ H1 fun l H2=>th σ H2 fun u H3=>ts σ H3 fun s H4=>∃ i,s = .int i∧r x l u i H4 Q):tSl3 r te tl th ts σ H Q:=h
theorem r_kCompRN {σ:St} {H:Hp} {Q:VK} {is:List Nat} {tt:TT} {te:TE} {j:Int} (h1 : -(2 ^ 62)≤j) (h2:j < 2 ^ 62) (hz:j.toNat≤sizeLine) (Pv:Nat→List V→Hp→Prop) (h0:Pv 0 [] H) (hl : ∀ i ys H,i≤j.toNat→Pv i ys H→ys.length≤i)
  (hs : ∀ i ys H,i < j.toNat→Pv i ys H→tt (some (.int (0+i))::is.map fun j=>(σ[j]?).getD none) H fun ok H2=>if ok=true then te (some (.int (0+i))::is.map fun j=>(σ[j]?).getD none) H2 fun y H3=>NxC j.toNat Pv i (ys++[y]) H3 else NxC j.toNat Pv i ys H2)
  (hd : ∀ ys H,Pv j.toNat ys H → ∀ p H',Same H H'→H p=none→H' p=some (.lst ys)→Q (.ref p) H'):kCompR is tt te σ Q [.int j] H:=by
 refine ⟨j,rfl,h1,h2,fun i m ys H=>m=j.toNat - i∧i≤j.toNat∧Pv i ys H,⟨j.toNat,by simp,Nat.zero_le _,h0⟩,?_⟩
 rintro i m ys H ⟨rfl,hi,p⟩
 have ly:=hl i ys H hi p
 refine ⟨by omega,?_⟩
 by_cases hlt:i < j.toNat
 ·refine .inr ⟨hlt,by omega,fun x H' y=>?_⟩
  obtain ⟨e,y⟩:=y
  subst e y
  exact hs i ys _ hlt p
 ·have e:i=j.toNat:=by omega
  subst e
  exact .inl ⟨Nat.le_refl _,fun p' hp=>hd ys H p p' _ (same_new hp _) hp upd_same⟩
end
def NoAttrs (K:W.Frag) (C:Addr):List Str→Prop
 | []=>True
 | f::r=>NoAttr K C f∧NoAttrs K C r
theorem NoAttrs.at {K : W.Frag} {C : Addr} {f : Str} : ∀ {l : List Str}, NoAttrs K C l → f ∈ l → NoAttr K C f
  | [], _, h => by cases h
  | g :: r, n, h => by
    rcases List.mem_cons.mp h with rfl | h
    · exact n.1
    · exact n.2.at h
def bfs (wd:Int) (f:Nat) (x:Str) (st:Bool) (more:List (Str × V)):List (Str × V):=("width", .int wd)::("fill", .str (T [f]))::("side", .str x)::("strict", .bl st)::more
def bns:List Str:=["width", "fill", "side", "strict"]
structure FormAt (K:W.Frag) (H:Hp) (a C:Addr) (wd:Int) (f:Nat) (x:Str) (st:Bool) (more:List (Str × V)):Prop where
 at_ : ∃ dx,H a=some (.ins C dx (bfs wd f x st more))
 cl:Cls K C
 na:NoAttrs K C (bns++more.map (·.1))
section
variable {K : W.Frag} {H H' : Hp} {a C : Addr} {wd : Int} {f : Nat} {x : Str} {st : Bool} {more : List (Str × V)} {g m : Str} {v : V}
theorem FormAt.same (s:Same H H') (F:FormAt K H a C wd f x st more):FormAt K H' a C wd f x st more:=⟨F.at_.imp fun _ e=>s _ _ e,F.cl,F.na⟩
theorem bfs_width:(bfs wd f x st more).lookup ("width" : Str)=some (.int wd):=lk_eq
theorem bfs_fill:(bfs wd f x st more).lookup ("fill" : Str)=some (.str (T [f])):=(lk_ne (by decide +kernel)).trans lk_eq
theorem bfs_side:(bfs wd f x st more).lookup ("side" : Str)=some (.str x):=(lk_ne (by decide +kernel)).trans ((lk_ne (by decide +kernel)).trans lk_eq)
theorem bfs_strict:(bfs wd f x st more).lookup ("strict" : Str)=some (.bl st):=(lk_ne (by decide +kernel)).trans ((lk_ne (by decide +kernel)).trans ((lk_ne (by decide +kernel)).trans lk_eq))
theorem bfs_more (h:g ∉ bns):(bfs wd f x st more).lookup g=more.lookup g:=by
 simp only [bns,List.mem_cons,List.not_mem_nil,or_false,not_or] at h
 exact (lk_ne h.1).trans ((lk_ne h.2.1).trans ((lk_ne h.2.2.1).trans (lk_ne h.2.2.2)))
theorem FormAt.fld (F:FormAt K H a C wd f x st more) (n:g ∈ bns++more.map (·.1)) (l:(bfs wd f x st more).lookup g=some v):FldAt K H a g v:=by
 obtain ⟨dx,e⟩:=F.at_
 exact ⟨C,dx,_,e,F.cl,F.na.at n,l⟩
theorem FormAt.width (F:FormAt K H a C wd f x st more):FldAt K H a "width" (.int wd):=F.fld (List.mem_append_left _ (by decide +kernel)) bfs_width
theorem FormAt.fill (F:FormAt K H a C wd f x st more):FldAt K H a "fill" (.str (T [f])):=F.fld (List.mem_append_left _ (by decide +kernel)) bfs_fill
theorem FormAt.side (F:FormAt K H a C wd f x st more):FldAt K H a "side" (.str x):=F.fld (List.mem_append_left _ (by decide +kernel)) bfs_side
theorem FormAt.strict (F:FormAt K H a C wd f x st more):FldAt K H a "strict" (.bl st):=F.fld (List.mem_append_left _ (by decide +kernel)) bfs_strict
theorem FormAt.own (F:FormAt K H a C wd f x st more) (h:g ∉ bns) (l:more.lookup g=some v) (n:g ∈ more.map (·.1)):FldAt K H a g v:=F.fld (List.mem_append_right _ n) ((bfs_more h).trans l)
theorem FormAt.meth (F:FormAt K H a C wd f x st more) (h:m ∉ bns) (l:more.lookup m=none):InsM H a C m:=by
 obtain ⟨dx,e⟩:=F.at_
 exact ⟨dx,_,e,(bfs_more h).trans l⟩
theorem bfs_put (h:g ∉ bns):putF g v (bfs wd f x st more)=bfs wd f x st (putF g v more):=by
 simp only [bns,List.mem_cons,List.not_mem_nil,or_false,not_or] at h
 unfold bfs
 rw [putF_ne (Ne.symm h.1),putF_ne (Ne.symm h.2.1),putF_ne (Ne.symm h.2.2.1),putF_ne (Ne.symm h.2.2.2)]
end
theorem pe_fldK {X:Cx} {K:W.Frag} {e:Expr} {f:Str} {pos:Pos} {ta:TE} (hK:X.K=K) (he:PE X e ta) (hb:attributeBase e f X.env (eval e X.env)=eval e X.env):PE X (.Attribute e f pos) (tFld K ta f):=hK ▸ pe_fld he hb
section
variable {X : Cx} {K : W.Frag} {σ : St} {H : Hp} {Q : VK} {is : List Nat} {tt : TT} {te : TE}
theorem range_allB (bs:List Bool):((List.range bs.length).all fun i=>(bs[i]?).getD true)=bs.all id:=by
 rw [Bool.eq_iff_iff,List.all_eq_true,List.all_eq_true]
 constructor
 ·intro h b hb
  obtain ⟨i,hi,rfl⟩:=List.getElem_of_mem hb
  have:=h i (List.mem_range.mpr hi)
  simpa [List.getElem?_eq_getElem hi] using this
 ·intro h i hi
  have hi':=List.mem_range.mp hi
  have:=h _ (List.getElem_mem hi')
  simpa [List.getElem?_eq_getElem hi'] using this
def rAll (K:W.Frag):List V→Hp→VK→Prop:=fun xs H Q=>∃ (p:Addr) (bs:List Bool),xs=[.ref p]∧SqL K H p (bs.map V.bl)∧Q (.bl (bs.all id)) H
theorem call_allB (hc:X.calm=true):CallR X (.builtin "all") (rAll X.K):=by
 intro pins s σ H xs us Q I r h
 obtain ⟨p,bs,rfl,hp,q⟩:=h
 obtain ⟨u,rfl,ru⟩:=r.one
 cases ru
 obtain ⟨its,ri,pl,hz⟩:=I.list hp
 have hl:=pl.isList
 have hlt:p < s.heap.objs.size:=by obtain ⟨_,e,_⟩:=hl;exact Heap.lt_size e
 have hlen:its.length=bs.length:=by have:=ri.length;rw [List.length_map] at this;exact this.symm
 refine call_all_walk (wpAny_pyIter_list hl ?_)
 refine ⟨s.heap.objs.size,[s.heap.objs.size,p],[s.heap.objs.size],its.toArray.size,_,_,fun i=>(bs[i]?).getD true,rfl,Walks.list (A:=X.A.in1) (I.ok.hd hc) _ p (Nat.ne_of_lt hlt) its.toArray,
  ⟨⟨_,Heap.get?_push_size _ rfl,rfl,rfl⟩,hl.push _⟩,fun i v s' Q' E' hP hQ=>?_,fun h' tk hk=>?_⟩
 ·have hP':its[i]? = some v:=by simpa using hP
  have hi:i < bs.length:=by
   rcases Nat.lt_or_ge i its.length with z | z
   ·omega
   ·rw [List.getElem?_eq_none z] at hP';cases hP'
  obtain ⟨u,hu,ru⟩:=ri.get (i:=i) (x:=.bl bs[i]) (by rw [List.getElem?_map,List.getElem?_eq_getElem hi];rfl)
  rw [hP'] at hu;cases hu
  cases ru
  simp only [List.getElem?_eq_getElem hi,Option.getD_some] at hQ
  exact wpAny_truthy_bool hQ
 ·have e:((List.range its.toArray.size).all fun i=>(bs[i]?).getD true)=bs.all id:=by
   rw [List.size_toArray,hlen];exact range_allB bs
  rw [e]
  exact ⟨.bl _,H,I.kept fun b x eb=>hk b x (fun hm=>by rw [List.mem_singleton.mp hm] at eb;exact Nat.lt_irrefl _ (Heap.lt_size eb)) (Heap.get?_push_of_some _ eb),rfl,q⟩
theorem r_all {p:Addr} {bs:List Bool} (h:SqL K H p (bs.map V.bl)) (q:Q (.bl (bs.all id)) H):rAll K [.ref p] H Q:=⟨p,bs,rfl,h,q⟩
theorem r_inTx {c:Nat} {a:List Nat} (q:Q (.bl (decide (c ∈ a))) H):rInS (.str (T [c])) (.str (T a)) H Q:=r_inS (by
 have e:=PySem.StrLaws.found_one (T a) c
 rw [show (T [c])=(⟨#[c]⟩:Str) from rfl,e];exact q)
theorem bo_all:bootBuiltins "all" = some (.builtin "all"):=by decide +kernel
def kCompS (is:List Nat) (tt:TT) (te:TE) (σ:St) (Q:VK) (x:V) (H:Hp):Prop:=∃ z:Str,x = .str z∧kComp is tt te σ Q (Its z) H
theorem r_compS {tl:TE} (h:tl σ H (kCompS is tt te σ Q)):tComp is (iStr tl) tt te σ H Q:=h
theorem r_kCompS {a:List Nat} (hz:a.length≤sizeLine) (Pv:Nat→List V→Hp→Prop) (h0:Pv 0 [] H) (hl : ∀ i ys H,i≤a.length→Pv i ys H→ys.length≤i)
  (hs : ∀ i c ys H,a[i]? = some c→i < a.length→Pv i ys H→tt (some (.str (T [c]))::is.map fun j=>(σ[j]?).getD none) H fun ok H2=>if ok=true then te (some (.str (T [c]))::is.map fun j=>(σ[j]?).getD none) H2 fun y H3=>NxC a.length Pv i (ys++[y]) H3 else NxC a.length Pv i ys H2)
  (hd : ∀ ys H,Pv a.length ys H → ∀ p H',Same H H'→H' p=some (.lst ys)→Q (.ref p) H'):kCompS is tt te σ Q (.str (T a)) H:=by
 refine ⟨T a,rfl,fun i m ys H=>m=a.length - i∧i≤a.length∧Pv i ys H,⟨a.length,by simp,Nat.zero_le _,h0⟩,?_⟩
 rintro i m ys H ⟨rfl,hi,p⟩
 have ly:=hl i ys H hi p
 refine ⟨by omega,?_⟩
 by_cases hlt:i < a.length
 ·refine .inr ⟨hlt,by omega,fun x H' y=>?_⟩
  obtain ⟨rfl,c,hc,rfl⟩:=y
  exact hs i c ys _ hc hlt p
 ·have e:i=a.length:=by omega
  subst e
  exact .inl ⟨rfl,fun p' hp=>hd ys H p p' _ (same_new hp _) upd_same⟩
end
mutual
inductive Dt (K:W.Frag) (H:Hp):V→PyData→Prop
 | non:Dt K H .non .none
 | bl (b:Bool):Dt K H (.bl b) (.bool b)
 | int (i:Int):Dt K H (.int i) (.int i)
 | str (z:Str):Dt K H (.str z) (.str z)
 | lst {p:Addr} {xs:List V} {ds:List PyData}:SqL K H p xs→Dts K H xs ds→Dt K H (.ref p) (.list ds)
 | tup {p:Addr} {xs:List V} {ds:List PyData}:SqT K H p xs→Dts K H xs ds→Dt K H (.ref p) (.tuple ds)
inductive Dts (K:W.Frag) (H:Hp):List V→List PyData→Prop
 | nil:Dts K H [] []
 | cons {x:V} {d:PyData} {xs:List V} {ds:List PyData}:Dt K H x d→Dts K H xs ds→Dts K H (x::xs) (d::ds)
end
section
variable {X : Cx} {pins : List (Addr × Obj)} {σ : St} {H H' : Hp} {s : Shared} {K : W.Frag} {Q : VK}
mutual
theorem Dt.same (g:Same H H') : ∀ {x:V} {d:PyData},Dt K H x d→Dt K H' x d
 | _,_,.non=>.non
 | _,_,.bl b=>.bl b
 | _,_,.int i=>.int i
 | _,_,.str z=>.str z
 | _,_,.lst h hs=>.lst (g.seq h) (Dts.same g hs)
 | _,_,.tup h hs=>.tup (SqT.same h g) (Dts.same g hs)
theorem Dts.same (g:Same H H') : ∀ {xs:List V} {ds:List PyData},Dts K H xs ds→Dts K H' xs ds
 | _,_,.nil=>.nil
 | _,_,.cons h hs=>.cons (Dt.same g h) (Dts.same g hs)
end
end
end L2
namespace L2
open PySem PySem.Spec PyProof.Rows
section
variable {X : Cx} {H : Hp} {Q : VK} {K : W.Frag}
def rIndexT:V→List V→Hp→VK→Prop:=fun x vs H Q=>∃ (l:Addr) (zs:List Str) (z:Str) (j:Nat),x = .ref l∧vs=[.str z]∧H l=some (.lst (zs.map V.str))∧zs[j]? = some z∧(∀ m,m < j→zs[m]? ≠ some z)∧j < 1000∧Q (.int j) H
theorem mt_indexT:MtM X "list.index" rIndexT:=by
 intro pins s σ H x vs v us Q I rx rv h
 obtain ⟨l,zs,z,j,rfl,rfl,hH,hj,hno,hj1,q⟩:=h
 cases rx
 obtain ⟨u,rfl,ru⟩:=rv.one
 obtain ⟨_,its,n,r,hl,e⟩:=I.lstM hH
 have fl:(zs.map V.str).all flatV=true:=by
  rw [List.all_eq_true];intro x hx
  obtain ⟨l,_,rfl⟩:=List.mem_map.mp hx
  rfl
 have it : ∀ (m:Nat) (hm:m < its.toArray.size),∃ (y:Str) (t:Tok),zs[m]? = some y∧its.toArray[m] = .str y t:=fun m hm=>by
  have hm':m < its.length:=by simpa using hm
  have hz:m < zs.length:=by have:=r.length;rw [List.length_map] at this;omega
  obtain ⟨w,hw,rw'⟩:=r.get (i:=m) (x:=.str zs[m]) (by rw [List.getElem?_map,List.getElem?_eq_getElem hz];rfl)
  obtain ⟨t,rfl⟩:=rw'
  refine ⟨zs[m],t,List.getElem?_eq_getElem hz,?_⟩
  rw [List.getElem?_eq_getElem hm'] at hw
  simpa using Option.some.inj hw
 have hjz:j < its.toArray.size:=by
  have:=r.length;rw [List.length_map] at this
  rcases Nat.lt_or_ge j zs.length with z1 | z1
  ·simp;omega
  ·rw [List.getElem?_eq_none z1] at hj;cases hj
 refine call_meets F.slot_list_index ⟨_,e,rfl⟩ F.entry_list_index (F.args_list_index_2 _ _) (SeqAt.list_indexAt l its.toArray n none #[] u (eqU (.str z)) j hjz (by omega) ?_ fun m hm hmj=>?_) ⟨e,fun y hy=>mem_eqAt ru rfl r fl y (by simpa using hy),⟨.int j,H,I.tok _,⟨_,rfl⟩,q⟩⟩
 ·obtain ⟨y,t,h1,h2⟩:=it j hjz
  rw [hj] at h1;cases h1
  rw [h2]
  show (z == z)=true
  simp
 ·obtain ⟨y,t,h1,h2⟩:=it m hm
  rw [h2]
  show (y == z)=false
  simpa using fun ee=>hno m hmj (by rw [h1,ee])
theorem r_indexT {l:Addr} {zs:List Str} {z:Str} (j:Nat) (h:H l=some (.lst (zs.map V.str))) (hj:zs[j]? = some z) (hno : ∀ m,m < j→zs[m]? ≠ some z) (hj1:j < 1000) (q:Q (.int j) H):rIndexT (.ref l) [.str z] H Q:=⟨l,zs,z,j,rfl,rfl,h,hj,hno,hj1,q⟩
end
def RsA (H:Hp) (v:V) (d:PyData):Prop:=(∃ z:Str,v = .str z∧d = .str z) ∨ ∃ (q:Addr) (z:Str),v = .ref q∧H q=some (.tup [.str z])∧d = .tuple [.str z]
section
variable {H H' : Hp} {v : V} {d : PyData} {K : W.Frag}
theorem RsA.tag {q:Addr} {z:Str} (h:H q=some (.tup [.str z])):RsA H (.ref q) (.tuple [.str z]):=.inr ⟨q,z,rfl,h,rfl⟩
theorem RsA.same (g:Same H H') (h:RsA H v d):RsA H' v d:=by
 rcases h with ⟨z,a,b⟩ | ⟨q,z,a,e,b⟩
 ·exact .inl ⟨z,a,b⟩
 ·exact .inr ⟨q,z,a,g _ _ e,b⟩
theorem RsA.put {p:Addr} {xs ys:List V} (hp:H p=some (.lst xs)) (h:RsA H v d):RsA (upd H p (.lst ys)) v d:=by
 rcases h with ⟨z,a,b⟩ | ⟨q,z,a,e,b⟩
 ·exact .inl ⟨z,a,b⟩
 ·exact .inr ⟨q,z,a,by rw [upd_ne (ne_of e hp (by intro z;cases z))];exact e,b⟩
end
theorem picks_step {a:List Nat} {s st:Int} (h0:0≤s) (h1:s < a.length) (h2:1≤st):picks (T a) (some s) none st≠[]∧(∀ c ∈ picks (T a) (some s) none st,c ∈ a)∧((picks (T a) (some s) none st).length:Int)≤a.length+st:=by
 have e:Builtin.Str.strSliceIndices (some s) none st (T a).length=(List.range (((a.length:Int) - s+st - 1) / st).toNat).map fun k:Nat=>(s+st*(k:Int)).toNat:=by
  have l:((T a).length:Int)=a.length:=rfl
  unfold Builtin.Str.strSliceIndices
  dsimp only
  rw [l,if_neg (show ¬ s < 0 by omega),if_pos (show st > 0 by omega),if_pos (show st > 0 by omega),Int.min_eq_left (by omega),Int.max_eq_right h0]
  unfold sliceRange
  rw [if_pos (show st > 0 by omega),if_pos h1]
 have hc:1≤((a.length:Int) - s+st - 1) / st:=Int.le_ediv_of_mul_le (by omega) (by omega)
 have hc2:((a.length:Int) - s+st - 1) / st≤(a.length:Int) - s+st - 1:=Int.ediv_le_self _ (by omega)
 unfold picks
 rw [e,Lt_T]
 refine ⟨fun z=>?_,fun c hcm=>?_,?_⟩
 ·rw [List.filterMap_eq_nil_iff] at z
  have:=z (s+st*((0:Nat):Int)).toNat (List.mem_map.mpr ⟨0,List.mem_range.mpr (by omega),rfl⟩)
  rw [show (s+st*((0:Nat):Int)).toNat=s.toNat by simp,List.getElem?_eq_getElem (by omega)] at this
  cases this
 ·obtain ⟨i,_,hi⟩:=List.mem_filterMap.mp hcm
  exact List.mem_of_getElem? hi
 ·have:=List.length_filterMap_le (fun x=>a[x]?) ((List.range (((a.length:Int) - s+st - 1) / st).toNat).map fun k:Nat=>(s+st*(k:Int)).toNat)
  rw [List.length_map,List.length_range] at this
  omega
theorem pe_callH0 {X:Cx} {x:Str} {k n:Nat} {ps:List Str} {sp:Sp} {p pos:Pos} (F:Has X.prog X.w X.K X.mg X.base x k ps sp) (hr:Room n X.A) (hg:Gl X x) (hk:k≤n:=by decide) (hdb:(x == ("__debug__" : Str))=false:=by decide) :
  PE X (.Call (.Name x p) [] [] pos) (tCall sp [] E0 tNil):=by
 obtain ⟨f,fd,G,hm,kp,hb⟩:=F
 exact pe_call0 G (hr.mono hk) hg hm kp hb .nil pass0 hdb
section
variable {X : Cx} {pos : Pos}
def tPar3 (i j k:Nat) (ta:TA):TS:=fun D σ H=>ta σ H fun vs H1=>∃ v1 v2 v3,vs=[v1,v2,v3]∧D.nx (((σ.set k (some v3)).set j (some v2)).set i (some v1)) H1
theorem ps_par3 {i j k : Nat} {x y z : Str} {a b c : Expr} {ta : TA} {px py pz pt : Pos} {kt k2 pt2} (hc : X.calm = true) (hN : X.N.Nodup) (hi : X.N[i]? = some x) (hj : X.N[j]? = some y) (hk : X.N[k]? = some z)
    (hx : X.env.scope.names.lookup x = some .local) (hy : X.env.scope.names.lookup y = some .local) (hz : X.env.scope.names.lookup z = some .local) (ha : PA X [a, b, c] ta)
    (hw : swappedStores [.Tuple [.Name x px, .Name y py, .Name z pz] kt pt] (.Tuple [a, b, c] k2 pt2) X.env = pure (some [x, y, z]))
    (hs : swapsWithSole [.Tuple [.Name x px, .Name y py, .Name z pz] kt pt] (.Tuple [a, b, c] k2 pt2) pos.line X.env = pure false := by rfl) :
    PS X (.Assign [.Tuple [.Name x px, .Name y py, .Name z pz] kt pt] (.Tuple [a, b, c] k2 pt2) pos) (tPar3 i j k ta) := by
  intro pins s σ H D I h
  rw [exec_Assign_arm]
  refine wpAny_bind (wpAny_standAt ?_)
  rw [hs]
  refine wpAny_bind (wpAny_pure ?_)
  rw [if_neg (by decide)]
  refine wpAny_bind (Tuple_ (thn (ha _ pins s σ H _ I h) fun us s1 ⟨vs, H1, I1, r1, q1⟩ => ?_))
  obtain ⟨v1, v2, v3, e1, q1⟩ := q1
  subst e1
  obtain ⟨u1, u2, u3, rfl, rv1, rv2, rv3⟩ : ∃ u1 u2 u3, us = [u1, u2, u3] ∧ RelV v1 u1 ∧ RelV v2 u2 ∧ RelV v3 u3 := by
    cases r1 with
    | cons p q =>
      cases q with
      | cons p' q' =>
        cases q' with
        | cons p'' q'' =>
          cases q''
          exact ⟨_, _, _, rfl, p, p', p''⟩
  refine wpAny_newObj_type ?_ (by show 3 ≤ sizeLine; decide)
  have I2 : Inv X pins σ H1 { s1 with heap := s1.heap.push { cls := .type "tuple", data := .seq [u1, u2, u3].toArray } } := I1.kept (t' := s1.toks) fun b o e => Heap.get?_push_of_some _ e
  rw [hw]
  refine wpAny_bind (wpAny_pure ?_)
  show wpAny (model X.prog X.w) X.A (do rule "assign.swapped-stores"; let items ← unpackItems (.ref s1.heap.objs.size) 3 none; assignInOrder [fun v => bindName X.env z v, fun v => bindName X.env y v, fun v => bindName X.env x v] items.reverse; pure Flow.next) _ _ _
  refine wpAny_bind (wpAny_rule (wpAny_bind (unpackItems_tuple (items := #[u1, u2, u3]) (I.ok.hd hc) (IsTup.new s1.heap _) fun h' hx' => ?_)))
  have I3 := I2.kept (h' := h') (t' := s1.toks) fun b o e => hx' b o (Nat.ne_of_lt (Heap.lt_size e)) e
  show wpAny _ _ (assignInOrder [fun v => bindName X.env z v, fun v => bindName X.env y v, fun v => bindName X.env x v] [u3, u2, u1] >>= fun _ => pure Flow.next) _ _ _
  refine wpAny_bind (assignInOrder_cons (wpAny_bindName (store_ok I3 hN hk (.inl hz) rv3 (fun s2 I4 => ?_) (.inr hz))))
  refine assignInOrder_cons (wpAny_bindName (store_ok I4 hN hj (.inl hy) rv2 (fun s3 I5 => ?_) (.inr hy)))
  refine assignInOrder_cons (wpAny_bindName (store_ok I5 hN hi (.inl hx) rv1 (fun s4 I6 => assignInOrder_nil (wpAny_pure ?_)) (.inr hx)))
  exact ⟨_, H1, I6, q1⟩
def kPar3 (i j k:Nat) (D:Ends) (σ:St) (vs:List V) (H1:Hp):Prop:=∃ v1 v2 v3,vs=[v1,v2,v3]∧D.nx (((σ.set k (some v3)).set j (some v2)).set i (some v1)) H1
theorem r_par3 {i j k:Nat} {ta:TA} {D:Ends} {σ:St} {H:Hp} (h:ta σ H (kPar3 i j k D σ)):tPar3 i j k ta D σ H:=h
theorem r_three {i j k:Nat} {D:Ends} {σ:St} {H:Hp} {v1 v2 v3:V} (h:D.nx (((σ.set k (some v3)).set j (some v2)).set i (some v1)) H):kPar3 i j k D σ [v1,v2,v3] H:=⟨v1,v2,v3,rfl,h⟩
end
def low (b:Nat):Nat→Nat→List Nat
 | 0,_=>[]
 | p+1,n=>low b p (n / b)++[fc (n % b)]
theorem low_len (b:Nat) : ∀ p n,(low b p n).length=p
 | 0,_=>rfl
 | p+1,n=>by unfold low;rw [List.length_append,low_len b p];rfl
theorem fc0:fc 0=48:=by decide +kernel
theorem figs_pos {b n:Nat} (h2:2≤b):1≤(figs b n).length:=by
 rcases Nat.lt_or_ge n b with h | h
 ·rw [figs_lt h,List.length_singleton];exact Nat.le_refl _
 ·rw [figs_ge h2 h,List.length_append,List.length_singleton];omega
theorem dgs_turn {b p n:Nat} (h2:2≤b):dgs b (p+1) n=dgs b p (n / b)++[fc (n % b)]:=by
 unfold dgs
 rcases Nat.lt_or_ge n b with h | h
 ·rw [figs_lt h,Nat.div_eq_of_lt h,figs_lt (by omega),Nat.mod_eq_of_lt h,fc0]
  rw [List.length_singleton,List.length_singleton,show p+1+1 - 1=p+1 by omega,show p+1 - 1=p by omega,List.replicate_succ']
 ·rw [figs_ge h2 h,List.length_append,List.length_singleton,show p+1+1 - ((figs b (n / b)).length+1)=p+1 - (figs b (n / b)).length by omega,List.append_assoc]
theorem dgs_low {b : Nat} (h2 : 2 ≤ b) : ∀ p n, dgs b p n = figs b (n / b ^ p) ++ low b p n
  | 0, n => by
    have := figs_pos (b := b) (n := n) h2
    unfold dgs low
    rw [show 0 + 1 - (figs b n).length = 0 by omega, Nat.pow_zero, Nat.div_one, List.append_nil]; rfl
  | p + 1, n => by
    rw [dgs_turn h2, dgs_low h2 p, Nat.div_div_eq_div_mul, Nat.pow_succ, Nat.mul_comm (b ^ p) b, List.append_assoc]; rfl
theorem whl_low {b p n:Nat} (h2:2≤b):whl b p n=figs b (n / b ^ p)∧rst b p n=low b p n:=by
 have l:=low_len b p n
 unfold whl rst
 rw [dgs_low h2,List.length_append,l,Nat.add_sub_cancel]
 exact ⟨List.take_left' rfl,List.drop_left' rfl⟩
def pz (b p r:Nat):List Nat:=List.replicate (p - (figs b r).length) 48++figs b r
theorem pz_turn {b p r:Nat} (h2:2≤b) (hp:0 < p):pz b (p+1) r=pz b p (r / b)++[fc (r % b)]:=by
 unfold pz
 rcases Nat.lt_or_ge r b with h | h
 ·rw [figs_lt h,Nat.div_eq_of_lt h,figs_lt (by omega),Nat.mod_eq_of_lt h,fc0]
  obtain ⟨q,rfl⟩ : ∃ q,p=q+1:=⟨p - 1,by omega⟩
  rw [List.length_singleton,List.length_singleton,show q+1+1 - 1=q+1 by omega,show q+1 - 1=q by omega,List.replicate_succ']
 ·rw [figs_ge h2 h,List.length_append,List.length_singleton,show p+1 - ((figs b (r / b)).length+1)=p - (figs b (r / b)).length by omega,List.append_assoc]
theorem low_mod {b : Nat} (h2 : 2 ≤ b) : ∀ p n, low b p n = low b p (n % b ^ p)
  | 0, n => rfl
  | p + 1, n => by
    unfold low
    rw [low_mod h2 p (n / b)]
    have e1 : n % b ^ (p + 1) / b = n / b % b ^ p := by rw [Nat.pow_succ, Nat.mul_comm, Nat.mod_mul_right_div_self]
    have e2 : n % b ^ (p + 1) % b = n % b := Nat.mod_mod_of_dvd n (by rw [Nat.pow_succ]; exact Nat.dvd_mul_left b (b ^ p))
    rw [e1, e2]
theorem low_pz {b : Nat} (h2 : 2 ≤ b) : ∀ p r, 0 < p → r < b ^ p → low b p r = pz b p r
  | 1, r, _, h => by
    rw [Nat.pow_one] at h
    unfold low pz low
    rw [figs_lt h, Nat.mod_eq_of_lt h]; rfl
  | p + 2, r, _, h => by
    rw [pz_turn h2 (by omega), ← low_pz h2 (p + 1) (r / b) (by omega) (Nat.div_lt_of_lt_mul (by rw [Nat.pow_succ, Nat.mul_comm] at h; exact h))]
    rfl
theorem bdy_div {b p pt z m n:Nat} (h2:2≤b):bdy b p pt z m n=if p=0 then gr z m (figs b (n / b ^ p)) else gr z m (figs b (n / b ^ p))++[pt]++pz b p (n % b ^ p):=by
 unfold bdy
 rw [(whl_low h2).1,(whl_low h2).2]
 split
 ·rfl
 ·rename_i hp
  rw [low_mod h2,low_pz h2 p _ (by omega) (Nat.mod_lt _ (Nat.pow_pos (by omega)))]
theorem binds_dflt {K:W.Frag} {fd:FuncData} {ps:List Str} {t:Addr} {oc:Value} {od:Option Addr} {it:Array Value} {n:Nat} {osl:Array (Option Value)} (hl:K.lookup t=some ⟨oc,od,.seq it n,osl⟩) (hd:fd.defaults = .ref t)
  (h : ∀ us:List Value,us.length=ps.length → ∃ k,bindArgs fd ⟨us,[]⟩=seqItems? fd.defaults >>= k∧k (some it)=pure (ps.zip us)):Binds K fd ps []:=fun s us hK hlen=>by
 rw [List.append_nil] at hlen ⊢
 obtain ⟨k,h1,h2⟩:=h us hlen
 exact .of_defaults hd (hK _ _ hl) rfl h1 h2
set_option maxHeartbeats 1000000
def C2 (h:Heap) (e:Addr):Prop:=∃ o vs,h.get? e=some o∧o.data = .fields vs∧vs[2]? = some .none
theorem nofields {h:Heap} {e b:Addr} {oe o:Obj} {vs:Array Value} (a:h.get? e=some oe) (d:oe.data = .fields vs) (q:h.get? b=some o) (n : ∀ us,o.data ≠ .fields us):b≠e:=by
 rintro rfl
 rw [a] at q
 cases q
 exact n vs d
theorem noted_heap {base h g:Heap} {l:List Env} {e:Addr} {oe ob:Obj} {vs ts:Array Value} {a0 fl:Value} (FF:h.FunFrames base l) (sg:Heap.SlotsOnly (l.filterMap (·.frame)) h g) (a1:h.get? e=some oe)
  (a2:base.StaysIn h) (a3:base.get? e=none) (a4:oe.data = .fields vs) (a5:1 < vs.size) (a6:vs[0]? = some a0) (a7:vs[2]? = some .none) (b1:ob.data = .fields ts) (b2:ts[3]? = some fl) :
  Heap.NotedW base l e oe.cls a0 fl h ((g.push ob).update e (Obj.mapFields (·.setIfInBounds 1 (Value.ref g.objs.size))))∧C2 ((g.push ob).update e (Obj.mapFields (·.setIfInBounds 1 (Value.ref g.objs.size)))) e:=by
 have nf:e ∉ l.filterMap (·.frame):=fun m=>by
  obtain ⟨_,o,q,n⟩:=FF.mem m
  exact nofields a1 a4 q n rfl
 have g1:g.get? e=some oe:=(sg.2.1 e nf).trans a1
 have ne:g.objs.size≠e:=fun z=>Nat.lt_irrefl _ (z ▸ Heap.lt_size g1)
 have d1:(Obj.mapFields (·.setIfInBounds 1 (Value.ref g.objs.size)) oe).data=_:=Obj.data_mapFields a4 _
 have self:((g.push ob).update e (Obj.mapFields (·.setIfInBounds 1 (Value.ref g.objs.size)))).get? e=some (Obj.mapFields (·.setIfInBounds 1 (Value.ref g.objs.size)) oe):=
  Heap.get?_update_self _ (Heap.get?_push_of_some _ g1) (Obj.isFreed_of_fields d1)
 have kp : ∀ {b:Addr} {o:Obj},b≠e→g.get? b=some o→((g.push ob).update e (Obj.mapFields (·.setIfInBounds 1 (Value.ref g.objs.size)))).get? b=some o:=fun {b o} n q=>by
  rw [Heap.get?_update_other _ _ (Ne.symm n)];exact Heap.get?_push_of_some _ q
 have new:((g.push ob).update e (Obj.mapFields (·.setIfInBounds 1 (Value.ref g.objs.size)))).get? g.objs.size=some ob:=by
  rw [Heap.get?_update_other _ _ (Ne.symm ne)];exact Heap.get?_push_size g (Obj.isFreed_of_fields b1)
 have bg:base.StaysIn g:=fun b o q=>(sg.2.1 b fun m=>by rw [(FF.mem m).1] at q;cases q).trans (a2 b o q)
 have oth : ∀ b o,h.get? b=some o→(∀ us,o.data ≠ .fields us) → ∃ sl,((g.push ob).update e (Obj.mapFields (·.setIfInBounds 1 (Value.ref g.objs.size)))).get? b=some { o with slots:=sl }:=fun b o q n=>by
  obtain ⟨sl,q1⟩:=sg.2.2 b o q
  exact ⟨sl,kp (nofields a1 a4 q n) q1⟩
 refine ⟨⟨fun b o q=>kp (fun z=>by rw [z,a3] at q;cases q) (bg b o q),FF.of_keeps fun b o q n=>?_,⟨_,_,g.objs.size,ob,ts,self,⟨Obj.cls_mapFields _ _,?_⟩,d1,?_,?_,ne,new,b1,b2⟩,oth⟩,⟨_,_,self,d1,?_⟩⟩
 ·obtain ⟨sl,q1⟩:=oth b o q n
  exact ⟨_,q1,rfl⟩
 ·rw [Array.getElem?_setIfInBounds_ne (by decide)];exact a6
 ·rw [Array.getElem?_setIfInBounds_self_of_lt a5]
 ·cases z:base.get? g.objs.size with
  | none=>rfl
  | some o=>exact absurd (Heap.lt_size (bg _ o z)) (Nat.lt_irrefl _)
 ·rw [Array.getElem?_setIfInBounds_ne (by decide)];exact a7
section
variable {M : Model} {A : Around} {E : Value → Shared → Prop} {s : Shared} {base : Heap} {env : Env} {outer : List Env} {L e : Addr} {Q : Unit → Shared → Prop}
theorem entryC {oe:Obj} {vs:Array Value} {head a0:Value} {hadNext:Bool} (fr:A.frames=some (env::outer)) (FF:s.heap.FunFrames base (env::outer)) (ef:env.frame=some L) (a1:s.heap.get? e=some oe)
  (a2:base.StaysIn s.heap) (a3:base.get? e=none) (a4:oe.data = .fields vs) (a5:1 < vs.size) (a6:vs[0]? = some a0) (a7:vs[2]? = some .none)
  (k : ∀ h',Heap.NotedW base (env::outer) e oe.cls a0 (rawInt L) s.heap h'→C2 h' e→Q () { s with heap:=h' }) :
  wpAny M A (do let a ← frameOf env;let pl ← entryPlaceOf L hadNext;let b ← EntryCells.newEntry head a .none (rawInt L) .none pl;setField (.ref e) 1 b) Q E s:=by
 have nf:e ∉ (env::outer).filterMap (·.frame):=fun m=>by
  obtain ⟨_,o,q,n⟩:=FF.mem m
  exact nofields a1 a4 q n rfl
 refine wpAny_bind (wpAny_frameOf_fun fr FF ef fun g sg=>wpAny_bind (wpAny_entryPlaceOf fun pl ip=>?_))
 unfold EntryCells.newEntry newFields
 refine wpAny_bind (wpAny_newObj_type (wpAny_setField (Heap.get?_push_of_some _ ((sg.2.1 e nf).trans a1)) a4 a5 ?_) (ip.sizeOk5 _ _ _ _ _))
 have nh:=noted_heap (ob:={ cls:=.type "traceback", dict:=none,data:=.fields ([head,.ref L,.none,rawInt L,.none]++(if pl.isEmpty then List.replicate 6 Value.none else pl)).toArray }) FF sg a1 a2 a3 a4 a5 a6 a7 rfl (fl:=rawInt L) (by simp)
 exact k _ nh.1 nh.2
theorem flightC {l:List Env} {cls a0 fl:Value} (a2:base.StaysIn s.heap) (FF:s.heap.FunFrames base l) (tr:s.heap.TracedAtW base e cls a0 fl) (c2:C2 s.heap e)
  (k : ∀ h',base.StaysIn h'→h'.FunFrames base l→h'.TracedW base e cls a0→C2 h' e→s.heap.UpToSlots h'→Q () { s with heap:=h' }):wpAny M A (setFlight (.ref e) none) Q E s:=by
 obtain ⟨oe,vs,t,ot,ts,q1,q2,q3,q4,q5,q6,q7,q8,q9⟩:=tr
 obtain ⟨o',us,c1,c3,c4⟩:=c2
 rw [q1] at c1
 cases c1
 rw [q3] at c3
 cases c3
 unfold setFlight
 refine wpAny_bind (wpAny_field q1 q3 q4 ?_)
 have nn:(Value.ref t != Value.none)=true:=by simp
 rw [if_pos nn]
 have lt3:=(Array.getElem?_eq_some_iff.mp q9).1
 have ot' : ∀ {b:Addr},b≠t→(s.heap.update t (Obj.mapFields (·.setIfInBounds 3 ((none:Option Addr).elim Value.none fun f=>rawInt f)))).get? b=s.heap.get? b:=fun {b} n=>Heap.get?_update_other _ _ (Ne.symm n)
 have df:=Obj.data_mapFields q8 (·.setIfInBounds 3 ((none:Option Addr).elim Value.none fun f=>rawInt f))
 refine wpAny_setField q7 q8 lt3 (k _ (fun b o q=>(ot' fun z=>by rw [z,q5] at q;cases q).trans (a2 b o q)) (FF.of_keeps fun b o q n=>⟨o,(ot' (nofields q7 q8 q n)).trans q,rfl⟩)
  ⟨oe,vs,t,_,_,(ot' (Ne.symm q6)).trans q1,q2,q3,q4,q5,q6,Heap.get?_update_self _ q7 (Obj.isFreed_of_fields df),df,?_⟩ ⟨oe,vs,(ot' (Ne.symm q6)).trans q1,q3,c4⟩ fun b o q n=>⟨o.slots,(ot' (nofields q7 q8 q n)).trans q⟩)
 rw [Array.getElem?_setIfInBounds_self_of_lt lt3];rfl
theorem leaves_madeC {h:Heap} {cls:Value} {args:List Value} (fr:A.frames=some (env::outer)) (ef:env.frame=some L) (a2:base.StaysIn h) (FF:h.FunFrames base (env::outer)) (mk:Heap.MadeExcOf h s.heap e cls args)
  (k : ∀ h' a0,Heap.FlyingW base outer e cls a0 h'→C2 h' e→s.heap.UpToSlots h'→Q () { s with heap:=h' }):wpAny M A (leaving env (.ref e)) Q E s:=by
 obtain ⟨t,m1,m2,m3⟩:=mk.there
 have out:base.get? e=none:=by
  cases z:base.get? e with
  | none=>rfl
  | some o=>have:=a2 e o z;rw [mk.new] at this;cases this
 have FF1:s.heap.FunFrames base (env::outer):=FF.of_keeps fun b o q _=>⟨o,mk.keeps b o q,rfl⟩
 unfold leaving noteFrame
 simp only [ef]
 refine wpAny_bind (wpAny_bind (wpAny_field m1 rfl (x:=.none) rfl ?_))
 have nn : ¬ ((Value.none != Value.none)=true):=by decide
 rw [if_neg nn]
 refine entryC fr FF1 ef m1 (fun b o q=>mk.keeps b o (a2 b o q)) out rfl (by show 1 < 6;decide) (a0:=.ref t) rfl rfl fun h1 nd c1=>?_
 obtain ⟨n1,n2,n3,n4⟩:=nd
 exact flightC (s:={ s with heap:=h1 }) n1 n2 n3 c1 fun h2 w1 w2 w3 w4 w5=>k h2 _ ⟨w1,out,w2.2.2,w3⟩ w4 (Heap.UpToSlots.trans (h₂:=h1) n4 w5)
theorem looksC {cls a0:Value} (fr:A.frames=some (env::outer)) (ef:env.frame=some L) (fly:Heap.FlyingW base (env::outer) e cls a0 s.heap) (c2:C2 s.heap e)
  (k : ∀ h',Heap.HeldW base (env::outer) e cls a0 L h'→C2 h' e→s.heap.UpToSlots h'→Q () { s with heap:=h' }):wpAny M A (noteFrame (.ref e) env) Q E s:=by
 obtain ⟨f1,f2,f3,oe,vs,t,ot,ts,q1,⟨q2,q2'⟩,q3,q4,q5,q6,q7,q8,q9⟩:=fly
 obtain ⟨o',us,c1,c3,c4⟩:=c2
 rw [q1] at c1
 cases c1
 rw [q3] at c3
 cases c3
 subst q2
 unfold noteFrame
 simp only [ef]
 refine wpAny_bind (wpAny_field q1 q3 q4 ?_)
 have nn:(Value.ref t != Value.none)=true:=by simp
 have n3 : ¬ ((Value.none == rawInt L)=true):=by simp [rawInt]
 rw [if_pos nn]
 refine wpAny_bind (wpAny_field q7 q8 q9 ?_)
 rw [if_neg n3]
 have ot' : ∀ {b:Addr},b≠t→(s.heap.update t (Obj.mapFields (·.setIfInBounds 3 Value.none))).get? b=s.heap.get? b:=fun {b} n=>Heap.get?_update_other _ _ (Ne.symm n)
 refine wpAny_bind (wpAny_setField q7 q8 (Array.getElem?_eq_some_iff.mp q9).1 ?_)
 refine entryC fr (f3.of_keeps fun b o q n=>⟨o,(ot' (nofields q7 q8 q n)).trans q,rfl⟩) ef ((ot' (Ne.symm q6)).trans q1) (fun b o q=>(ot' fun z=>by rw [z,q5] at q;cases q).trans (f1 b o q)) f2 q3 (Array.getElem?_eq_some_iff.mp q4).1 q2' c4 fun h1 nd cc=>?_
 exact k h1 ⟨nd.1,f2,nd.2.1,nd.2.2.1⟩ cc fun b o q n=>nd.2.2.2 b o ((ot' (nofields q7 q8 q n)).trans q) n
theorem landsC {l:List Env} {cls a0:Value} (hd:Heap.HeldW base l e cls a0 L s.heap) (c2:C2 s.heap e)
  (k : ∀ h',Heap.FlyingW base l e cls a0 h'→C2 h' e→s.heap.UpToSlots h'→Q () { s with heap:=h' }):wpAny M A (setFlight (.ref e) none) Q E s:=
 flightC hd.1 hd.2.2.1 hd.2.2.2 c2 fun h' w1 w2 w3 w4 w5=>k h' ⟨w1,hd.2.1,w2,w3⟩ w4 w5
theorem landsC2 {l:List Env} {cls a0:Value} (fl:Heap.FlyingW base l e cls a0 s.heap) (c2:C2 s.heap e)
  (k : ∀ h',Heap.FlyingW base l e cls a0 h'→C2 h' e→s.heap.UpToSlots h'→Q () { s with heap:=h' }):wpAny M A (setFlight (.ref e) none) Q E s:=
 flightC fl.1 fl.2.2.1 fl.2.2.2.at c2 fun h' w1 w2 w3 w4 w5=>k h' ⟨w1,fl.2.1,w2,w3⟩ w4 w5
end
theorem unchain_entry:entryFor table "proto.unchain" = some Builtin.«proto.unchain» := entryFor_of_tree (by kernel_rfl)
section
variable {prog : Program} {w : World} {A : Around} {E : Value → Shared → Prop} {s : Shared}
theorem unchain_ok {e y:Addr} {Q:Value→Shared→Prop} (c2:C2 s.heap y) (k:Q .none s):wpAny (model prog w) A (runValue (.builtin "proto.unchain" ⟨[.ref e,.ref y,.ref y,.bool false],[]⟩)) Q E s:=by
 obtain ⟨o,vs,q1,q2,q3⟩:=c2
 refine wpAny_runValue (codeAny_builtin unchain_entry ?_)
 show wpAny _ _ (do let context ← field (.ref y) 2;_) _ _ _
 refine wpAny_bind (wpAny_field q1 q2 q3 ?_)
 have nn:((Value.none == Value.none)=true):=by decide
 rw [if_pos nn]
 exact wpAny_pure k
theorem raiseNew_chained {α:Type} {e y:Addr} {oe:Obj} {vs:Array Value} {Q:α→Shared→Prop} (hh:A.handled=some (.ref y)) (ne:y≠e) (c2:C2 s.heap y) (a1:s.heap.get? e=some oe) (a2:oe.data = .fields vs) (a3:2 < vs.size)
  (k:E (.ref e) { s with heap:=s.heap.update e (Obj.mapFields (·.setIfInBounds 2 (.ref y))) }):wpAny (model prog w) A (raiseNew (.ref e):Sem α) Q E s:=by
 unfold raiseNew
 refine wpAny_bind (wpAny_handled ?_)
 rw [hh]
 have nn:((Value.ref y != Value.ref e)=true):=by simp [ne]
 dsimp only
 rw [if_pos nn]
 refine wpAny_bind (wpAny_holding (unchain_ok c2 ?_))
 have up:wpAny (model prog w) A (setField (.ref e) 2 (.ref y)) (fun _ s'=>wpAny (model prog w) A (throw (.ref e):Sem α) Q E s') E s:=wpAny_setField a1 a2 a3 (wpAny_throw k)
 exact wpAny_bind up
end
structure MadeR (h h':Heap) (e C:Addr):Prop where
 keeps : ∀ b o,h.get? b=some o→h'.get? b=some o
 new:h.get? e=none
 there : ∃ oe vs a0,h'.get? e=some oe∧oe.cls = .ref C∧oe.data = .fields vs∧vs[1]? = some .none∧vs[0]? = some a0
def CXE2 (P:Program) (w:World):CXT:=fun outer H s E e s'=>∃ (x C:Addr) (a0:Value) (H':Hp) (B:Heap),e = .ref x∧s'.os=s.os∧AllBare s'.gens∧Heap.FlyingW B outer x (.ref C) a0 s'.heap∧C2 s'.heap x ∧
 (∀ h',B.StaysIn h'→s'.heap.UpToSlots h'→Un (frs outer) [] H H' s.heap h'∧HOk P w H' h')∧s.heap.get? x=none∧H' x=none∧E (.ref C) none H'
section
variable {P : Program} {w : World} {K : W.Frag} {mg : Str → Option Value} {base : Heap} {N : List Str} {qual : Str} {scope : Scope} {f : Addr} {cd : Value} {A : Around} {outer : List Env} {s : Shared} {H : Hp} {E : XK} {CX : CXT}
theorem clo_new {pins:List (Addr × Obj)} {σ:St} {H1:Hp} {s1:Shared} {h' h2:Heap} (I:Inv (cxOf CX P w K mg base N qual scope f cd A outer s H E) pins σ H1 s1) (kp : ∀ b o,s1.heap.get? b=some o→h'.get? b=some o) (f4:h'.UpToSlots h2) :
  ∀ h3,(W.hideAll s1.heap (frs (envOfC qual scope s.heap.objs.size f cd::outer))).StaysIn h3→h2.UpToSlots h3→Un (frs outer) [] H H1 s.heap h3∧HOk P w H1 h3:=by
 intro h3 st sm
 have hst : ∀ b ∈ frs (envOfC qual scope s.heap.objs.size f cd::outer),H1 b=none:=I.stkFree
 have FF:s1.heap.FunFrames base (envOfC qual scope s.heap.objs.size f cd::outer):=I.stack
 have old : ∀ b o,s.heap.get? b=some o→b≠s.heap.objs.size:=fun b o e=>Nat.ne_of_lt (Heap.lt_size e)
 have sub : ∀ b,b ∈ frs (envOfC qual scope s.heap.objs.size f cd::outer)→b=s.heap.objs.size∨b ∈ frs outer:=fun b hb=>List.mem_cons.mp (I.stkSub b hb)
 have here : ∀ b o,s1.heap.get? b=some o→b ∉ frs (envOfC qual scope s.heap.objs.size f cd::outer)→h3.get? b=some o:=fun b o e n=>st b o (W.hideAll_get _ e n)
 have fram : ∀ b o,s1.heap.get? b=some o→b ∈ frs (envOfC qual scope s.heap.objs.size f cd::outer) → ∃ sl,h3.get? b=some { o with slots:=sl }:=fun b o e m=>by
  obtain ⟨_,o',e',nf⟩:=FF.mem m
  have z:o'=o:=Option.some.inj (e'.symm.trans e)
  subst z
  obtain ⟨sl,e2⟩:=f4 b o' (kp b o' e) nf
  obtain ⟨sl',e3⟩:=sm b _ e2 nf
  exact ⟨sl',e3⟩
 refine ⟨⟨fun b o e n hb hx=>?_,fun b o e n hb hx=>?_,fun b o e n hx=>I.base.free b o e n hx,fun b o e hx=>?_,I.base.tups,I.base.frzs,I.base.tbls⟩,fun a u e=>?_⟩
 ·exact here b o (I.base.keep b o e n hb hx) fun z=>(sub b z).elim (old b o e) hb
 ·obtain ⟨sl,e1⟩:=I.base.slot b o e n hb hx
  have mem:b ∈ frs (envOfC qual scope s.heap.objs.size f cd::outer):=by
   show b ∈ List.filterMap _ _
   rw [List.filterMap_cons]
   exact List.mem_cons_of_mem _ hb
  obtain ⟨sl',e2⟩:=fram b _ e1 mem
  exact ⟨sl',e2⟩
 ·obtain ⟨o',e1⟩:=I.base.there b o e hx
  by_cases mem:b ∈ frs (envOfC qual scope s.heap.objs.size f cd::outer)
  ·obtain ⟨sl,e2⟩:=fram b o' e1 mem
   exact ⟨_,e2⟩
  ·exact ⟨o',here b o' e1 mem⟩
 ·refine (I.hok a u e).stay (fun b ob hb eb=>here b ob eb fun z=>?_) (fun _ z=>z) (fun _ _ z=>z)
  have:=hst b z
  rcases hb with rfl | hb
  ·rw [e] at this;cases this
  ·rw [hb] at this;cases this
theorem new_at {pins : List (Addr × Obj)} {σ : St} {H1 : Hp} {s1 : Shared} {x : Addr} (I : Inv (cxOf CX P w K mg base N qual scope f cd A outer s H E) pins σ H1 s1) (nw : s1.heap.get? x = none) : s.heap.get? x = none ∧ H1 x = none := by
  constructor
  · cases z : s.heap.get? x with
    | none => rfl
    | some o =>
      obtain ⟨o', e1⟩ := I.base.there x o z (fun h => nomatch h)
      rw [nw] at e1; cases e1
  · cases z : H1 x with
    | none => rfl
    | some o =>
      obtain ⟨ob, e1⟩ := (I.hok x o z).is
      rw [nw] at e1; cases e1
theorem frames_hide {pins:List (Addr × Obj)} {σ:St} {H1:Hp} {s1:Shared} (I:Inv (cxOf CX P w K mg base N qual scope f cd A outer s H E) pins σ H1 s1):s1.heap.FunFrames (W.hideAll s1.heap (frs (envOfC qual scope s.heap.objs.size f cd::outer))) (envOfC qual scope s.heap.objs.size f cd::outer):=by
 have FF:s1.heap.FunFrames base (envOfC qual scope s.heap.objs.size f cd::outer):=I.stack
 exact W.funFrames_hide FF fun env he b hb=>List.mem_filterMap.mpr ⟨env,he,hb⟩
theorem leaves_made2 {pins:List (Addr × Obj)} {σ:St} {H1:Hp} {s1:Shared} {h':Heap} {x C:Addr} {args:List Value}
  (I:Inv (cxOf (CXE2 P w) P w K mg base N qual scope f cd A outer s H E) pins σ H1 s1) (hm:Heap.MadeExcOf s1.heap h' x (.ref C) args) (q:E (.ref C) none H1) :
  (cxOf (CXE2 P w) P w K mg base N qual scope f cd A outer s H E).xe (.ref x) { s1 with heap:=h' }:=by
 have nw:=new_at I hm.new
 refine leaves_madeC (s:={ s1 with heap:=h' }) (base:=W.hideAll s1.heap (frs (envOfC qual scope s.heap.objs.size f cd::outer))) I.ok.frames rfl (fun b o e=>W.of_hideAll _ e) (frames_hide I) hm fun h2 a0 f1 f2 f4=>?_
 exact ⟨x,C,a0,H1,_,rfl,I.os,I.bare,f1,f2,clo_new I hm.keeps f4,nw.1,nw.2,q⟩
end
theorem Fun.okX2 {P:Program} {w:World} {K:W.Frag} {mg:Str→Option Value} {base:Heap} {x qual:Str} {st:Stmt} {f:Addr} {fd:FuncData} {N ps:List Str} {k:Nat} {sp:Sp} (F:Fun K x qual st f fd) (S:FnScope N ps (defScope st)) (len : ∀ vs H Q E,sp vs H Q E→vs.length=ps.length)
  (hbody : ∀ (cdv:Value) (A:Around) (outer:List Env) (s:Shared) (H:Hp) (vs:List V) (Q:VK) (E:XK),Room k (A.deeper (envOfC qual (defScope st) s.heap.objs.size f cdv))→sp vs H Q E →
   Takes (cxOf (CXE2 P w) P w K mg base N qual (defScope st) f cdv A outer s H E) E → ∃ t,PSs (cxOf (CXE2 P w) P w K mg base N qual (defScope st) f cdv A outer s H E) (defBody st) t∧t { nx:=fun _ H'=>Q .non H',rt:=Q } (start N vs) H):FnOk P w K mg base (CXE2 P w) (k+1) f fd ps sp:=by
 obtain ⟨oc,od,kV,doc,pm,an,cdv,ct,osl,rfl,lk,hcd⟩:=F.ex
 exact fn_of lk hcd S len fun A outer s H vs Q E hr hsp=>hbody cdv A outer s H vs Q E hr hsp fun pins σ H s h' x C args I hm q=>leaves_made2 I hm q
def XP2 (X:Cx) (pins:List (Addr × Obj)) (σ:St) (E:XK) (e:Value) (s':Shared):Prop:=∃ H1 s1,Inv X pins σ H1 s1∧CXE2 X.prog X.w X.stack H1 s1 E e s'
def Cx.tr2 (X:Cx) (pins:List (Addr × Obj)) (σc:St) (E:XK):Cx:={ X with pn:=X.pn++pins,xe:=XP2 X pins σc E }
section
variable {X : Cx} {pins pins0 : List (Addr × Obj)} {σ σc : St} {H : Hp} {s : Shared} {E : XK}
theorem Cx.Ok.tr2 (ok:X.Ok):(X.tr2 pins σc E).Ok:=⟨ok.mod,ok.kind,ok.glob,ok.blt,ok.above,ok.inj,ok.has,ok.cab,ok.hd,ok.frames,ok.stk,ok.exf,ok.bs,ok.bsz,ok.noex,ok.exfs,ok.funs,ok.frf⟩
theorem Cx.Ok.untr2 (ok:(X.tr2 pins σc E).Ok):X.Ok:=⟨ok.mod,ok.kind,ok.glob,ok.blt,ok.above,ok.inj,ok.has,ok.cab,ok.hd,ok.frames,ok.stk,ok.exf,ok.bs,ok.bsz,ok.noex,ok.exfs,ok.funs,ok.frf⟩
theorem Inv.tr2 (I:Inv X pins σ H s):Inv (X.tr2 pins σc E) [] σ H s:=⟨I.ok.tr2,I.os,I.bare,I.base,I.loc,I.cell,I.free,I.freeC,fun p hp=>I.pin p (by simpa [Cx.tr2] using hp),I.hok,I.len⟩
theorem Inv.untr2 (I:Inv (X.tr2 pins0 σc E) pins σ H s):Inv X pins0 σ H s:=⟨I.ok.untr2,I.os,I.bare,I.base,I.loc,I.cell,I.free,I.freeC,fun p hp=>I.pin p (List.mem_append_left _ hp),I.hok,I.len⟩
theorem SP.untr2 {D:Ends} {f:Flow} {s':Shared} (h:SP (X.tr2 pins0 σc E) pins D f s'):SP X pins0 D f s':=by
 cases f with
 | next=>obtain ⟨σ',H',I,q⟩:=h;exact ⟨σ',H',I.untr2,q⟩
 | brk=>obtain ⟨σ',H',I,q⟩:=h;exact ⟨σ',H',I.untr2,q⟩
 | cont=>obtain ⟨σ',H',I,q⟩:=h;exact ⟨σ',H',I.untr2,q⟩
 | ret u=>obtain ⟨v,σ',H',I,r,q⟩:=h;exact ⟨v,σ',H',I.untr2,r,q⟩
end
section
variable {X : Cx} {pins0 : List (Addr × Obj)} {σc : St} {k n : Nat} {C : Addr} {ps : List Str} {sp : Sp} {E : XK} {x m : Str} {p np pos apos : Pos} {e o : Expr} {es : List Expr} {ta : TE} {t : TA}
theorem run_fnT2 {pins : List (Addr × Obj)} {σ : St} {H : Hp} {s : Shared} {Q : VK} {us : List Value} {vs : List V} {f : Addr} {fd : FuncData} (F : FnOk X.prog X.w X.K X.mg X.base (CXE2 X.prog X.w) k f fd ps sp) (hr : Room k X.A) (hb : Binds X.K fd ps [])
    (I : Inv (X.tr2 pins0 σc E) pins σ H s) (r : Vals vs us) (wk : Wk σc σ) (h : sp (vs ++ []) H Q E) : wpAny (model X.prog X.w) X.A (call (.ref f) us) (EP (X.tr2 pins0 σc E) pins σ Q) (X.tr2 pins0 σc E).xe s := by
  have r2 : Vals (vs ++ []) (us ++ []) := r.append .nil
  have hl : (us ++ []).length = ps.length := by rw [← r2.length]; exact F.len _ _ _ _ h
  have e0 : Env0 X.prog X.w X.K X.mg X.base X.A X.stack s H := I.env0
  refine wpAny_call (codeAny_mono (F.run X.A X.stack s H ⟨us, []⟩ (us ++ []) (vs ++ []) Q E hr e0 (hb s us I.kIn hl) r2 h) fun r s' hq => ?_)
  cases r with
  | error e => exact ⟨H, s, I.untr2.weak wk.1 wk.2, hq⟩
  | ok fl =>
    cases fl with
    | ret u => exact I.after hq
    | next => exact False.elim hq
    | brk => exact False.elim hq
    | cont => exact False.elim hq
end
section
variable {X : Cx} {H : Hp} {Q : VK} {K : W.Frag}
open PySem.Builtin PySem.Builtin.Str in
def dEnt (w:World) (e:Str × Tok × Value):DictEntry:=⟨hashStr w e.1,.str e.1 e.2.1,e.2.2⟩
def KDs (w:World) (K:W.Frag) (d:Addr) (ks:List Str):Prop:=(d == sysModules)=false ∧ ∃ (kvs:List (Str × Tok × Value)) (n:Nat),K.lookup d=some { cls:=.type "dict", data:=.dict (kvs.map (dEnt w)).toArray n }∧ks=kvs.map (·.1)∧ks.Nodup∧ks.length≤1000
theorem isStrOf_shape {k:Str} {v:Value} (h:Value.isStrOf k v=true) : ∃ t,v = .str k t:=by
 rcases keyIs_shape (k:=Sum.inr k) h with ⟨i,t,z,_⟩ | ⟨x,t,z,e⟩
 ·cases z
 ·cases z;exact ⟨t,e⟩
end
theorem kds_sty {w:World} {K:W.Frag} {d:Addr} {n0:Nat} {t0 t1 t2 t3 t4:Tok} {v0 v1 v2 v3 v4:Value} (lo:(d == sysModules)=false)
  (hd:K.lookup d=some { cls:=.type "dict", data:=.dict #[⟨PyData.keyHash w.params "minus", .str "minus" t0,v0⟩,⟨PyData.keyHash w.params "plus", .str "plus" t1,v1⟩,⟨PyData.keyHash w.params "blank", .str "blank" t2,v2⟩,⟨PyData.keyHash w.params "brackets", .str "brackets" t3,v3⟩,⟨PyData.keyHash w.params "behind", .str "behind" t4,v4⟩] n0 }):KDs w K d ["minus", "plus", "blank", "brackets", "behind"]:=
 ⟨lo,[("minus", t0,v0),("plus", t1,v1),("blank", t2,v2),("brackets", t3,v3),("behind", t4,v4)],n0,hd,rfl,by decide +kernel,by decide⟩
def wfs (L:Addr) (n:Nat):List (Str × V):=[("words", .ref L),("at", .int n)]
def Wr (K:W.Frag) (C:Addr) (H:Hp) (a:Addr) (rest:List (List Nat)):Prop:=∃ (dx L:Addr) (ws:List (List Nat)) (n:Nat),H a=some (.ins C dx (wfs L n))∧SqL K H L (tsV ws)∧n≤ws.length∧ws.drop n=rest∧ws.length≤100
section
variable {K : W.Frag} {C : Addr} {H H' : Hp} {a L dx : Addr} {n : Nat} {rest : List (List Nat)}
theorem Wr.same (g:Same H H') (h:Wr K C H a rest):Wr K C H' a rest:=let ⟨d,L,ws,n,e1,e2,e3,e4,e5⟩:=h;⟨d,L,ws,n,g.at e1,g.seq e2,e3,e4,e5⟩
theorem SB.tup {xs:List V} {p:Addr} (s:SB a H H') (w:Wr K C H a rest) (h:H p=some (.tup xs)):H' p=some (.tup xs):=by
 obtain ⟨d,L,ws,n,e1,_⟩:=w
 exact s p _ (fun z=>by subst z;rw [e1] at h;cases h) h
theorem SB.lst {xs:List V} {p:Addr} (s:SB a H H') (w:Wr K C H a rest) (h:H p=some (.lst xs)):H' p=some (.lst xs):=by
 obtain ⟨d,L,ws,n,e1,_⟩:=w
 exact s p _ (fun z=>by subst z;rw [e1] at h;cases h) h
theorem SB.trans {F:Hp} (s:SB a H H') (t:SB a H' F):SB a H F:=fun b o n e=>t b o n (s b o n e)
theorem SB.of (g:Same H H'):SB a H H':=fun b o _ e=>g _ _ e
end
section
variable {X : Cx} {tg : Expr}
structure StepB (lo hi c:Int) (n:Nat):Prop where
 one:1≤c
 lit:Builtin.Range.small lo hi c=true
 num:Builtin.Range.rangeSize lo hi c=n
 room:Builtin.divisionGoesByPylong (hi - lo) c=false
end
def tOrE (t1 t2:TE):TE:=fun σ H Q=>t1 σ H Q∨t2 σ H Q
section
variable {X : Cx} {σ : St} {H : Hp} {Q : VK} {K : W.Frag} {w : World}
theorem pe_orE {e:Expr} {t1 t2:TE} (h1:PE X e t1) (h2:PE X e t2):PE X e (tOrE t1 t2):=fun pins s σ H Q I h=>h.elim (h1 pins s σ H Q I) (h2 pins s σ H Q I)
theorem r_orL {t1 t2:TE} (h:t1 σ H Q):tOrE t1 t2 σ H Q:=.inl h
theorem r_orR {t1 t2:TE} (h:t2 σ H Q):tOrE t1 t2 σ H Q:=.inr h
end
section
variable {X : Cx} {CX : CXT} {k : Nat} {f : Addr} {fd : FuncData} {ps : List Str} {sp : Sp} {dvs : List V} {ds : List Value} {E : XK} {x : Str} {p pos : Pos} {e a : Expr} {es : List Expr} {te ta : TE} {t : TA}
structure FnOkp (P:Program) (w:World) (K:W.Frag) (mg:Str→Option Value) (base:Heap) (CX:CXT) (k:Nat) (f:Addr) (fd:FuncData) (ps:List Str) (sp:Sp):Prop where
 len : ∀ vs H Q E,sp vs H Q E→vs.length=ps.length
 run : ∀ (A:Around) (outer:List Env) (s:Shared) (H:Hp) (args:Args) (us:List Value) (vs:List V) (Q:VK) (E:XK),0 < s.toks→Room k A→Env0 P w K mg base A outer s H→BindsTo s fd args (ps.zip us)→Vals vs us→sp vs H Q E →
  codeAny (model P w) A (.call (.ref f) args) (CR CX outer P w H s Q E) s
end
def PSsp (X:Cx) (st:List Stmt) (t:TS):Prop:=
 ∀ (pins:List (Addr × Obj)) (s:Shared) (σ:St) (H:Hp) (D:Ends),0 < s.toks→Inv X pins σ H s→t D σ H→wpAny (model X.prog X.w) X.A (execs st X.env) (SP X pins D) X.xe s
theorem PSsp.nox {X:Cx} {st:List Stmt} {t:TS} (h:PSsp X.nox st t):PSsp X st t:=fun pins s σ H D l I hw =>
 wpAny_mono (h pins s σ H D l (I.wish _) hw) (fun _ _ q=>q.unwish) fun _ _ z=>False.elim z
theorem FnOkp.mono {P:Program} {w:World} {K:W.Frag} {mg:Str→Option Value} {base:Heap} {CX:CXT} {j k:Nat} {f:Addr} {fd:FuncData} {ps:List Str} {sp:Sp} (F:FnOkp P w K mg base CX j f fd ps sp) (h:j≤k) :
  FnOkp P w K mg base CX k f fd ps sp:=⟨F.len,fun A outer s H args us vs Q E l hr=>F.run A outer s H args us vs Q E l (hr.mono h)⟩
def Df (K:W.Frag) (x:Str) (st:Stmt) (f:Addr):Prop:=∃ (oc:Value) (od:Option Addr) (kV dc pm:Value) (an:Option Addr) (cd ct:Value) (sl:Array (Option Value)),W.nsIn K mainGlobals x=some (some (.ref f)) ∧
 K.lookup f=some ⟨oc,od,.func (W.fnOf x x (defArgs st) (defBody st) (defScope st) .none kV dc pm an cd ct),sl⟩∧W.codeIn K cd x=true∧W.keepIn K (.ref f)=true
def Dm (K:W.Frag) (q m:Str) (st:Stmt) (dV:Value) (C f:Addr):Prop:=∃ (oc:Value) (od:Option Addr) (kV dc pm:Value) (an:Option Addr) (cd ct:Value) (sl:Array (Option Value)),W.findIn K (.ref C) m=some (some (.ref f)) ∧
 K.lookup f=some ⟨oc,od,.func (W.fnOf m q (defArgs st) (defBody st) (defScope st) dV kV dc pm an cd ct),sl⟩∧W.codeIn K cd q=true∧W.keepIn K (.ref f)=true∧W.isFn K (.ref f)=true
section
variable {K : W.Frag} {x q m : Str} {st : Stmt} {f C t : Addr} {oc dV : Value} {od : Option Addr} {kV dc pm : Value} {an : Option Addr} {cd ct : Value} {sl : Array (Option Value)}
theorem df_mk (a:W.nsIn K mainGlobals x=some (some (.ref f))) (l:K.lookup f=some ⟨oc,od,.func (W.fnOf x x (defArgs st) (defBody st) (defScope st) .none kV dc pm an cd ct),sl⟩) (c:W.codeIn K cd x=true) (k:W.keepIn K (.ref f)=true):Df K x st f:=⟨oc,od,kV,dc,pm,an,cd,ct,sl,a,l,c,k⟩
theorem dm_mk (a:W.findIn K (.ref C) m=some (some (.ref f))) (l:K.lookup f=some ⟨oc,od,.func (W.fnOf m q (defArgs st) (defBody st) (defScope st) dV kV dc pm an cd ct),sl⟩) (c:W.codeIn K cd q=true) (k:W.keepIn K (.ref f)=true) (n:W.isFn K (.ref f)=true):Dm K q m st dV C f:=⟨oc,od,kV,dc,pm,an,cd,ct,sl,a,l,c,k,n⟩
variable {h : Heap} {mg : Str → Option Value} {P : Program} {w : World} {base : Heap} {k : Nat} {ps : List Str} {sp : Sp} {CX : CXT}
end
section
variable {M : Model} {A : Around} {E : Value → Shared → Prop} {s : Shared} {base : Heap} {env : Env} {outer : List Env} {L e : Addr} {Q : Unit → Shared → Prop}
theorem leaves_onC {cls a0:Value} (fr:A.frames=some (env::outer)) (ef:env.frame=some L) (fly:Heap.FlyingW base (env::outer) e cls a0 s.heap) (c2:C2 s.heap e)
  (k : ∀ h',Heap.FlyingW base outer e cls a0 h'→C2 h' e→s.heap.UpToSlots h'→Q () { s with heap:=h' }):wpAny M A (leaving env (.ref e)) Q E s:=by
 unfold leaving
 refine wpAny_bind (looksC fr ef fly c2 fun h1 held c1 sm1=>?_)
 exact landsC (s:={ s with heap:=h1 }) held c1 fun h2 fl c3 sm2=>k h2 ⟨fl.1,fl.2.1,fl.2.2.1.2.2,fl.2.2.2⟩ c3 (sm1.trans sm2)
end
section
variable {P : Program} {w : World} {K : W.Frag} {mg : Str → Option Value} {base : Heap} {N : List Str} {qual : Str} {scope : Scope} {f : Addr} {cd : Value} {A : Around} {outer : List Env} {s : Shared} {H : Hp} {E : XK}
theorem passes_cx2 : Passes (CXE2 P w) (cxOf (CXE2 P w) P w K mg base N qual scope f cd A outer s H E) E := by
  intro pins σ H1 s1 e s' I1 fl
  obtain ⟨x, C, a0, H', B, rfl, hos, hbare, fly, c2, clo, hx1, hx2, q⟩ := fl
  refine leaves_onC I1.ok.frames rfl fly c2 fun h2 fly2 c3 sm => ?_
  refine ⟨x, C, a0, H', B, rfl, hos.trans I1.os, hbare, fly2, c3, fun h3 st sm3 => ?_, ?_, hx2, q⟩
  · have cl := clo h3 st (sm.trans sm3)
    have I3 := I1.call' (s' := { s' with heap := h3 }) hos cl.1 cl.2 hbare (fun b z => nomatch z)
    exact ⟨I3.base, I3.hok⟩
  · cases z : s.heap.get? x with
    | none => rfl
    | some o =>
      obtain ⟨o', e1⟩ := I1.base.there x o z (fun h => nomatch h)
      rw [hx1] at e1; cases e1
end
section
variable {X : Cx} {pins0 : List (Addr × Obj)} {σc : St} {k n : Nat} {C : Addr} {ps : List Str} {sp : Sp} {E : XK} {x m : Str} {p np pos apos : Pos} {e o : Expr} {es : List Expr} {ta : TE} {t : TA}
theorem pe_methT2 {pl:Sem Bool} (F:HasM X.prog X.w X.K X.mg X.base (CXE2 X.prog X.w) C m k ps sp) (c:Cls X.K C) (hr:Room n X.A) (he:PE (X.tr2 pins0 σc E) o ta) (ha:PA (X.tr2 pins0 σc E) (e::es) t) (hk:k≤n:=by decide)
  (hst:starEach (e::es) X.env=(false,eval e X.env)::starEach es X.env:=by rfl) (hpl:(backTo pos (starEach es X.env)).any (·.1)=false:=by rfl)
  (ht:eval (.Call (.Attribute o m apos) (e::es) [] pos) X.env=(do
   let ov ← eval o X.env
   standAt apos.atName
   let (f,first) ← holding [ov] (getMethod ov m pl)
   callWith pos f first (backTo pos (starEach (e::es) X.env)) (backToKw pos (keywordEach [] X.env))):=by rfl) :
  PE (X.tr2 pins0 σc E) (.Call (.Attribute o m apos) (e::es) [] pos) (tMethT C m sp E σc ta t):=by
 intro pins s σ H Q I h
 obtain ⟨f,fd,G,M,b⟩:=F
 refine W.methodCall_KW (pl:=pl) (thn (he pins s σ H _ I h) fun u s1 ⟨x,H1,I1,rx,a,dx,fs,ex,ea,l,q⟩=>?_) ht
 subst ex
 obtain rfl:u=Value.ref a:=rx
 refine getmeth_ok I1 ea c M l ?_
 refine W.callWith_K (first:=[.ref a]) (h₀:=X.base) I.ok.mod.kin M.kp (thn (ha pos pins s1 σ H1 _ I1 q) fun us s2 ⟨vs,H2,I2,r,q2⟩=>⟨I2.kIn,?_⟩) hst hpl
 exact run_fnT2 (us:=.ref a::us) (vs:=.ref a::vs) (G.mono hk) hr b I2 (.cons rfl r) q2.1 q2.2
end
def ExC (x C:Addr) (h:Heap):Prop:=ExAt x C h∧C2 h x
theorem C2.keep {h h':Heap} {x:Addr} (c:C2 h x) (k : ∀ o,h.get? x=some o→h'.get? x=some o):C2 h' x:=let ⟨o,vs,a,r⟩:=c;⟨o,vs,k o a,r⟩
def tTryA2 (K:W.Frag) (C':Addr) (i:Nat) (tb:St→XK→TS) (ts:Addr→TS):TS:=fun D σ H=>∃ σc,tb σc (fun cls _ H2=>∃ C,cls = .ref C∧Exc K C∧W.exmOne K (.ref C) (.ref C')=some true ∧
 ∀ x,H2 x=none→ts x { nx:=fun _ _=>False,rt:=D.rt } (σc.set i (some (.ref x))) (upd H2 x (.ext (ExC x C)))) D σ H
theorem ps_tryA2 {X : Cx} {cx nx : Str} {i : Nat} {np hpos pos : Pos} {tb : St → XK → TS} {ts : Addr → TS} {C' : Addr} {b₀ : Stmt} {suite body : List Stmt}
    (hex : X.ex = []) (hst : X.stack = X.env :: X.outer) (hfr : X.env.frame = some X.env.locals) (hb : ∀ pins σc E, PSs (X.tr2 pins σc E) body (tb σc E))
    (hgc : Gl X cx) (hmc : X.mg cx = some (.ref C')) (hN : X.N.Nodup) (hi : X.N[i]? = some nx) (hnx : X.env.scope.names.lookup nx = some .local) (hs : ∀ y, PSs (X.inExc y) (b₀ :: suite) (ts y))
    (hdc : (cx == ("__debug__" : Str)) = false := by decide) :
    PS X (.Try body [.ExceptHandler (some (.Name cx np)) (some nx) (b₀ :: suite) hpos] [] [] pos) (tTryA2 X.K C' i tb ts) := by
  intro pins s σ H D I h
  obtain ⟨σc, h⟩ := h
  have hkn : X.env.kindOf nx = some .local := hnx
  refine wpAny_Try_except (wpAny_mono (hb pins σc _ [] s σ H D I.tr2 h) (fun f s1 q => ?_) fun er s' z => ?_)
  · cases f with
    | next => exact wpAny_execs_nil q.untr2
    | ret u => exact q.untr2
    | brk => exact q.untr2
    | cont => exact q.untr2
  · obtain ⟨H1, s1, I1, fl⟩ := z
    obtain ⟨y, C, a0, H2, B, rfl, hos, hbare, fly, cc0, clo, hy0, hy2, C0, z0, ex, exm, q⟩ := fl
    cases z0
    rw [hst] at fly
    refine looksC (I.ok.frames.trans (congrArg some hst)) hfr fly cc0 fun h1 held cc1 sm1 => ?_
    refine landsC (s := { s' with heap := h1 }) held cc1 fun h2 fly2 cc2 sm2 => ?_
    have cl2 := clo h2 fly2.1 (sm1.trans sm2)
    have I2 : Inv X pins σc H2 { s' with heap := h2 } := I1.call' (s' := { s' with heap := h2 }) hos cl2.1 cl2.2 hbare (fun b z => nomatch z)
    have ney : ∀ {b : Addr} {o : Obj}, s1.heap.get? b = some o → b ≠ y := fun {b o} e z => by rw [z, hy0] at e; cases e
    refine wpAny_handleBy_cons (codeAny_handlers_test (ld_glob (I2.inExc y) hgc hmc ?_ hdc)) (by intro q; cases q)
    refine (W.exm_one (M := model X.prog X.w) I2.kIn (isx fly2).ty exm).here ?_
    refine codeAny_handlers_suite_as (landsC2 (s := { s' with heap := h2 }) fly2 cc2 fun h3 fly3 cc3 sm3 => ?_)
    have cl3 := clo h3 fly3.1 ((sm1.trans sm2).trans sm3)
    have I3 : Inv X pins σc H2 { s' with heap := h3 } := I1.call' (s' := { s' with heap := h3 }) hos cl3.1 cl3.2 hbare (fun b z => nomatch z)
    have I4 : Inv X pins σc (upd H2 y (.ext (ExC y C))) { s' with heap := h3 } := by
      refine I3.track2 hy2 (fun z => ?_) (fun ob e => ?_) (fun v c e z => ?_) (fun p hp z => ?_) ⟨⟨isx fly3, cc3⟩, (isx fly3).imp fun _ z => z.1, fun _ _ z k => ⟨z.1.keep k, z.2.keep k⟩⟩
      · obtain ⟨m, ⟨o, _, _, ho, _⟩, _⟩ := I1.loc
        exact ney ho z.symm
      · obtain ⟨o', e1⟩ := I1.base.there y ob e (by rw [hex]; exact fun z => nomatch z)
        exact ney e1 rfl
      · obtain ⟨_, o, ho, _⟩ := I1.cell v c e
        exact ney ho z
      · exact ney (I1.pin p hp).1 z
    refine store_ok2 I4 hN hi (.inl hnx) (v := .ref y) rfl (fun s5 I5 _ => ?_) (.inr hnx)
    refine wpAny_mono (hs y pins s5 _ _ _ (I5.inExc y) (q y hy2)) (fun f s6 sp6 => ?_) fun _ _ z => z.elim
    have hp : (X.env.scope.kind == .class || (X.env.scope.kind == .module && X.env.locals != X.env.globals)) = false := by rw [I.ok.kind]; rfl
    cases f with
    | ret u =>
      obtain ⟨v, σ6, H6, I6, rv, qv⟩ := sp6
      obtain ⟨m, hn6, _⟩ := id I6.loc
      exact wpAny_nameGoes hkn hn6 hp fun h7 m7 hn7 hs7 => ⟨v, _, H6, (Inv.outExc I.ok I6).renamed hs7 hn7, rv, qv⟩
    | next => obtain ⟨_, _, _, z⟩ := sp6; exact z.elim
    | brk => obtain ⟨_, _, _, z⟩ := sp6; exact z.elim
    | cont => obtain ⟨_, _, _, z⟩ := sp6; exact z.elim
theorem r_tryA2 {K:W.Frag} {C':Addr} {i:Nat} {tb:St→XK→TS} {ts:Addr→TS} {D:Ends} {σ:St} {H:Hp} (σc:St) (h:tb σc (fun cls _ H2=>∃ C,cls = .ref C∧Exc K C∧W.exmOne K (.ref C) (.ref C')=some true ∧
 ∀ x,H2 x=none→ts x { nx:=fun _ _=>False,rt:=D.rt } (σc.set i (some (.ref x))) (upd H2 x (.ext (ExC x C)))) D σ H):tTryA2 K C' i tb ts D σ H:=⟨σc,h⟩
structure RoomY (k:Nat) (y:Addr) (A:Around):Prop where
 hd:A.handled=some (.ref y)
 dp:A.depth+3*k+5 < recursionLimit
 un:A.units+16*k+200 < cLine
theorem RoomY.mono {j k:Nat} {y:Addr} {A:Around} (r:RoomY k y A) (h:j≤k):RoomY j y A:=⟨r.hd,by have:=r.dp;omega,by have:=r.un;omega⟩
theorem RoomY.deeper {k:Nat} {y:Addr} {A:Around} (r:RoomY (k+1) y A) (env:Env):RoomY k y (A.deeper env):=
 ⟨r.hd,by have:=r.dp;show A.depth+1+3*k+5 < _;omega,by have:=r.un;show A.units+3+16*k+200 < _;omega⟩
theorem RoomY.depth {k:Nat} {y:Addr} {A:Around} (r:RoomY k y A):A.depth < recursionLimit:=by have:=r.dp;omega
theorem Room.marked {k:Nat} {A:Around} (r:Room k A) (y:Addr):RoomY k y (A.mark (some (.ref y))):=⟨rfl,r.dp,r.un⟩
abbrev SpY:=Addr→List V→Hp→VK→Prop
structure FnOkY (P:Program) (w:World) (K:W.Frag) (mg:Str→Option Value) (base:Heap) (k:Nat) (f:Addr) (fd:FuncData) (ps:List Str) (sp:SpY):Prop where
 len : ∀ y vs H Q,sp y vs H Q→vs.length=ps.length
 run : ∀ (A:Around) (outer:List Env) (s:Shared) (H:Hp) (args:Args) (us:List Value) (vs:List V) (Q:VK) (y:Addr),RoomY k y A→Env0 P w K mg base A outer s H→BindsTo s fd args (ps.zip us)→Vals vs us→sp y vs H Q →
  codeAny (model P w) A (.call (.ref f) args) (CR CX0 outer P w H s Q E0) s
section
variable {P : Program} {w : World} {K : W.Frag} {mg : Str → Option Value} {base : Heap}
def cxY (P:Program) (w:World) (K:W.Frag) (mg:Str→Option Value) (base:Heap) (N:List Str) (qual:Str) (scope:Scope) (f:Addr) (cd:Value) (A:Around) (outer:List Env) (s:Shared) (H:Hp):Cx:=
 { cxOf CX0 P w K mg base N qual scope f cd A outer s H E0 with calm:=false }
theorem inv_startY {N ps:List Str} {qual:Str} {scope:Scope} {f:Addr} {cd:Value} {A:Around} {outer:List Env} {s s1:Shared} {H:Hp} {us:List Value} {vs:List V}
  (S:FnScope N ps scope) (e0:Env0 P w K mg base A outer s H) (hl:vs.length=ps.length) (r:Vals vs us)
  (x:InCallC s s.heap.objs.size (bindL (envOfC qual scope s.heap.objs.size f cd).kindOf (ps.zip us) fun _=>none) (cellsFrom (s.heap.objs.size+1) scope.names []) (bindC (envOfC qual scope s.heap.objs.size f cd).kindOf (ps.zip us) fun _=>none) s1) :
  Inv (cxY P w K mg base N qual scope f cd A outer s H) [] (start N vs) H s1:=by
 have A':({ A with handled:=none }:Around).frames=some outer:=e0.frames
 have I:=inv_start (CX:=CX0) (qual:=qual) (f:=f) (cd:=cd) (A:={ A with handled:=none }) (E:=E0) S rfl (⟨A',e0.mod,e0.bs,e0.bsz,e0.funs,e0.frf,e0.hok,e0.bare⟩:Env0 P w K mg base { A with handled:=none } outer s H) hl r x
 exact ⟨⟨I.ok.mod,I.ok.kind,I.ok.glob,I.ok.blt,I.ok.above,I.ok.inj,I.ok.has,I.ok.cab,(fun z=>nomatch z),Around.frames_deeper e0.frames,I.ok.stk,I.ok.exf,I.ok.bs,I.ok.bsz,I.ok.noex,I.ok.exfs,I.ok.funs,I.ok.frf⟩,I.os,I.bare,I.base,I.loc,I.cell,I.free,I.freeC,I.pin,I.hok,I.len⟩
theorem fn_ofY {k : Nat} {f : Addr} {name qual : Str} {params : Arguments} {body : List Stmt} {scope : Scope} {dV kV doc pm cdv ct oc : Value} {an od : Option Addr}
    {osl : Array (Option Value)} {N ps : List Str} {sp : SpY} (lk : K.lookup f = some ⟨oc, od, .func (W.fnOf name qual params body scope dV kV doc pm an cdv ct), osl⟩) (hcd : W.codeIn K cdv qual = true) (S : FnScope N ps scope)
    (len : ∀ y vs H Q, sp y vs H Q → vs.length = ps.length)
    (hbody : ∀ (A : Around) (outer : List Env) (s : Shared) (H : Hp) (vs : List V) (Q : VK) (y : Addr), RoomY k y (A.deeper (envOfC qual scope s.heap.objs.size f cdv)) → sp y vs H Q →
      ∃ t, PSs (cxY P w K mg base N qual scope f cdv A outer s H) body t ∧ t { nx := fun _ H' => Q .non H', rt := Q } (start N vs) H) :
    FnOkY P w K mg base (k + 1) f (W.fnOf name qual params body scope dV kV doc pm an cdv ct) ps sp := by
  refine ⟨len, fun A outer s H args us vs Q y hr e0 hb r hsp => ?_⟩
  have hl := len _ _ _ _ hsp
  have KX : K.In s.heap := e0.mod.kin.keeps fun b o e => (e0.bs b o e).1
  have lim : s.heap.NoLimit := e0.mod.nolimit.keeps fun b o e => (e0.bs b o e).1
  have hkind : ∀ z ∈ ps.zip us, scope.names.lookup z.1 = some .local ∨ (scope.names.lookup z.1 = some .cell ∧ ((cellsFrom (s.heap.objs.size + 1) scope.names []).lookup z.1).isSome = true) := fun ⟨n, v⟩ hy => by
    rcases S.par n (List.of_mem_zip hy).1 with q | q
    · exact .inl q
    · exact .inr ⟨q, W.cellsFrom_some _ _ _ (.inl q)⟩
  refine codeAny_call_function hr.depth (KX _ _ lk) rfl S.co S.gen rfl (W.codeRec_of KX hcd) (hb _ _ _ _ ?_)
  refine wpAny_newFunctionEnv_cells S.kind hkind fun env he s1 x => ?_
  subst he
  refine ⟨lim.keeps x.toInCall.keep, codeAny_func ?_⟩
  obtain ⟨t, ht, hq⟩ := hbody A outer s H vs Q y (hr.deeper _) hsp
  have I : Inv (cxY P w K mg base N qual scope f cdv A outer s H) [] (start N vs) H s1 := inv_startY S e0 hl r x
  refine wpAny_mono (ht [] s1 (start N vs) H _ I hq) (fun fl s' hs => ?_) fun e s' hs => hs
  have fin : ∀ {σ' : St} {H' : Hp} {v : V} {u : Value}, Inv (cxY P w K mg base N qual scope f cdv A outer s H) [] σ' H' s' → RelV v u → Q v H' → CE outer P w H s Q u s' :=
    fun {σ' H' v u} J rv q => ⟨v, H', J.os, J.bare, J.base, J.hok, rv, q⟩
  cases fl with
  | ret u =>
    obtain ⟨v, σ', H', J, rv, q⟩ := hs
    exact fin J rv q
  | next =>
    obtain ⟨σ', H', J, q⟩ := hs
    exact fin (v := V.non) (u := Value.none) J rfl q
  | brk =>
    obtain ⟨_, _, _, q⟩ := hs
    exact False.elim q
  | cont =>
    obtain ⟨_, _, _, q⟩ := hs
    exact False.elim q
theorem Fun.okY {x qual:Str} {st:Stmt} {f:Addr} {fd:FuncData} {N ps:List Str} {k:Nat} {sp:SpY} (F:Fun K x qual st f fd) (S:FnScope N ps (defScope st)) (len : ∀ y vs H Q,sp y vs H Q→vs.length=ps.length)
  (hbody : ∀ (cdv:Value) (A:Around) (outer:List Env) (s:Shared) (H:Hp) (vs:List V) (Q:VK) (y:Addr),RoomY k y (A.deeper (envOfC qual (defScope st) s.heap.objs.size f cdv))→sp y vs H Q →
   ∃ t,PSs (cxY P w K mg base N qual (defScope st) f cdv A outer s H) (defBody st) t∧t { nx:=fun _ H'=>Q .non H',rt:=Q } (start N vs) H):FnOkY P w K mg base (k+1) f fd ps sp:=by
 obtain ⟨oc,od,kV,doc,pm,an,cdv,ct,osl,rfl,lk,hcd⟩:=F.ex
 exact fn_ofY lk hcd S len fun A outer s H vs Q y hr hsp=>hbody cdv A outer s H vs Q y hr hsp
def HasY (P:Program) (w:World) (K:W.Frag) (mg:Str→Option Value) (base:Heap) (x:Str) (k:Nat) (ps:List Str) (sp:SpY):Prop:=
 ∃ (f:Addr) (fd:FuncData),FnOkY P w K mg base k f fd ps sp∧mg x=some (.ref f)∧W.keepIn K (.ref f)=true∧Binds K fd ps []
end
def tCallY (sp:SpY) (y:Addr) (t:TA):TE:=fun σ H Q=>t σ H fun vs H1=>sp y vs H1 Q
theorem pe_callY {X : Cx} {y : Addr} {x : Str} {k n : Nat} {ps : List Str} {sp : SpY} {p pos : Pos} {e : Expr} {es : List Expr} {t : TA} (F : HasY X.prog X.w X.K X.mg X.base x k ps sp) (hr : Room n X.A) (hg : Gl (X.inExc y) x) (ha : PA (X.inExc y) (e :: es) t) (hk : k ≤ n := by decide)
    (hdb : (x == ("__debug__" : Str)) = false := by decide) (he : starEach (e :: es) X.env = (false, eval e X.env) :: starEach es X.env := by rfl) (hpl : (backTo pos (starEach es X.env)).any (·.1) = false := by rfl) :
    PE (X.inExc y) (.Call (.Name x p) (e :: es) [] pos) (tCallY sp y t) := by
  intro pins s σ H Q I h
  obtain ⟨f, fd, G, hm, kp, hb⟩ := F
  refine wpAny_Call_Name_kw (ld_glob I hg hm ?_ hdb)
  refine W.callWith_K (h₀ := X.base) I.ok.mod.kin kp (thn (ha pos pins s σ H _ I h) fun us s1 ⟨vs, H1, I1, r, q⟩ => ⟨I1.kIn, ?_⟩) he hpl
  have hl : (us ++ []).length = ps.length := by rw [List.append_nil, ← r.length]; exact G.len _ _ _ _ q
  have b := hb s1 us I1.kIn hl
  rw [List.append_nil] at b
  refine wpAny_call (codeAny_mono (G.run (X.inExc y).A (X.inExc y).stack s1 H1 ⟨us, []⟩ us vs Q y ((hr.mono hk).marked y) I1.env0 b r q) fun r s' hq => ?_)
  cases r with
  | error e => exact hq.elim
  | ok fl =>
    cases fl with
    | ret u => exact I1.after hq
    | next => exact hq.elim
    | brk => exact hq.elim
    | cont => exact hq.elim
theorem r_callY {sp:SpY} {y:Addr} {t:TA} {σ:St} {H:Hp} {Q:VK} (h:t σ H fun vs H1=>sp y vs H1 Q):tCallY sp y t σ H Q:=h
set_option maxHeartbeats 4000000
section
variable {prog : Program} {w : World} {A : Around} {E : Value → Shared → Prop} {s : Shared}
theorem list_endH {it l y:Addr} {i:Nat} {items:Array Value} {Q:Option Value→Shared→Prop} (hh:A.handled=some (.ref y)) (c2:C2 s.heap y) (ny:y≠it) (hit:s.heap.IsListIter it l i) (hl:s.heap.IsList l items) (hx:items[i]? = none)
  (hQ : ∀ h',Heap.ExtBut it s.heap h'→Q none { s with heap:=h' }):wpAny (model prog w) A (pyNext (.ref it)) Q E s:=by
 obtain ⟨o,ho,hc,hd⟩:=id hit
 obtain ⟨ol,hol,_,nl,hdl⟩:=hl
 unfold pyNext
 refine wpAny_bind (wpAny_attempt (wpAny_callSpecial?_slot (name:=Str.ofString "__next__") hit.typeIs slot_listiter_next (wpAny_call_entry slot_listiter_next hit.typeIs entry_listiter_next ?_ (args_listiter_next _))))
 show wpAny _ _ (field (.ref it) 0 >>= _) _ _ s
 refine wpAny_bind (wpAny_field ho hd (x:=.ref l) rfl ?_)
 show wpAny _ _ (if (Value.ref l == Value.none)=true then _ else _) _ _ s
 rw [if_neg (show ¬ ((Value.ref l == Value.none)=true) from Bool.false_ne_true)]
 refine wpAny_bind (wpAny_field ho hd (x:=.int i 0) rfl ?_)
 refine wpAny_bind (wpAny_seqItems hol hdl ?_)
 simp only [Int.toNat_natCast,hx]
 refine wpAny_bind (wpAny_rule (wpAny_bind (wpAny_setField ho hd (by simp) ?_)))
 show wpAny _ _ (newExc (.type "StopIteration") [] >>= _) _ _ _
 refine wpAny_bind ?_
 simp only [newExc,newTuple]
 refine wpAny_bind (wpAny_newObj_type ?_ (by size_fits))
 refine wpAny_bind (m:=firstArgMember _ _) (wpAny_of_eq (a:=Value.none) (by first | rfl | (simp only [firstArgMember];rfl)) ?_)
 refine wpAny_newObj_type ?_ (by size_fits)
 have k1:=(Heap.SameBut.update s.heap it (Obj.mapFields (·.setIfInBounds 0 Value.none))).extBut
 have k2:=(k1.push { cls:=.type "tuple", data:=.seq ([]:List Value).toArray })
 have cy : ∀ ob:Obj,C2 (((s.heap.update it (Obj.mapFields (·.setIfInBounds 0 Value.none))).push { cls:=.type "tuple", data:=.seq ([]:List Value).toArray }).push ob) y:=fun ob=>c2.keep fun o e=>(k2.push ob) y o ny e
 have ly:y < s.heap.objs.size:=by obtain ⟨o,_,e,_⟩:=c2;exact Heap.lt_size e
 refine raiseNew_chained (A:=A.in1) hh ?_ (cy _) (Heap.get?_push_size _ rfl) rfl (by rw [Array.size_append];exact Nat.lt_of_lt_of_le (by decide:2 < 6) (Nat.le_add_right _ _)) ?_
 ·rw [Heap.size_push,Heap.size_update];exact Nat.ne_of_lt (Nat.lt_succ_of_lt ly)
 ·refine wpAny_bind (wpAny_isInstance (T:="StopIteration") (b:=true) ⟨_,Heap.get?_update_self _ (Heap.get?_push_size _ rfl) rfl,rfl⟩ isSubtype_stop ?_)
  refine wpAny_pure (hQ _ fun b ob hb e=>?_)
  refine (Heap.get?_update_other _ _ ?_).trans ((k2.push _) b ob hb e)
  intro z
  have lb:=Heap.lt_size e
  rw [Heap.size_push,Heap.size_update] at z
  rw [← z] at lb
  exact Nat.lt_irrefl _ (Nat.lt_of_succ_lt lb)
theorem walks_listH {y:Addr} (hh:A.handled=some (.ref y)) (I ax:Addr) (hne:ax≠I) (ny:y≠I) (items:Array Value) :
  Walks prog w A I [I,ax,y] [I] items.size (fun i v=>items[i]? = some v) (fun i h=>h.IsListIter I ax i∧h.IsList ax items∧C2 h y) where
 sub:=fun b hb=>by simp at hb;simp [hb]
 frame:=fun _ _ _ st hk=>⟨st.1.at fun o e=>hk I (by simp) o e,st.2.1.at fun o e=>hk ax (by simp) o e,st.2.2.keep fun o e=>hk y (by simp) o e⟩
 item:=fun i s Q E hi st hQ=>by
  refine wpAny_pyNext_list_item st.1 st.2.1 (x:=items[i]) (by simp [hi]) fun h' hit' hs'=>?_
  exact hQ _ h' s.toks (by simp [hi]) ⟨hit',st.2.1.extBut hs'.extBut hne,st.2.2.keep fun o e=>hs'.extBut y o ny e⟩ fun b o hb e=>hs'.extBut b o (fun h=>hb (by simp [h])) e
 done:=fun s Q E st hQ=>list_endH hh st.2.2 ny st.1 st.2.1 (by simp) fun h' he'=>hQ h' s.toks fun b o hb e=>he' b o (fun h=>hb (by simp [h])) e
 self:=fun _ _ _ _ st hQ=>wpAny_pyIter_listiter st.1 hQ
end
def rSumY (K:W.Frag) (y:Addr):List V→Hp→VK→Prop:=fun xs H Q=>∃ (p C:Addr) (ns:List Int),xs=[.ref p]∧SqL K H p (ns.map V.int)∧ns.length≤1000∧H y=some (.ext (ExC y C))∧Q (.int ns.sum) H
theorem preSum_sum : ∀ (ns : List Int) (i : Nat), i ≤ ns.length → preSum (fun j => ns.getD j 0) i = (ns.take i).sum
  | ns, 0, _ => rfl
  | ns, i + 1, h => by
    have ih := preSum_sum ns i (by omega)
    rw [List.take_succ_eq_append_getElem (by omega), List.sum_append]
    show preSum _ i + ns.getD i 0 = _
    rw [ih, List.getD_eq_getElem?_getD, List.getElem?_eq_getElem (by omega)]
    simp
theorem call_sumY {X:Cx} {y:Addr} (hh:X.A.handled=some (.ref y)):CallR X (.builtin "sum") (rSumY X.K y):=by
 intro pins s σ H xs us Q I r h
 obtain ⟨p,C,ns,rfl,hq,hz0,hy,q⟩:=h
 obtain ⟨u,rfl,rx⟩:=vals1 r
 cases rx
 obtain ⟨its,r',pl,hz⟩:=I.list hq
 have hl:=r'.length
 rw [List.length_map] at hl hz
 have c2:C2 s.heap y:=((I.hok y _ hy).1).2
 have ly:y < s.heap.objs.size:=by obtain ⟨o,_,e,_⟩:=c2;exact Heap.lt_size e
 have lp:p < s.heap.objs.size:=by obtain ⟨o,_,e,_⟩:=pl;exact Heap.lt_size e
 refine call_sum_walkG (wpAny_pyIter_list pl.isList ?_)
 refine ⟨s.heap.objs.size,_,_,_,_,_,fun j=>ns.getD j 0,rfl,walks_listH (A:=X.A.in1) hh s.heap.objs.size p (Nat.ne_of_lt lp) (Nat.ne_of_lt ly) its.toArray,⟨⟨_,Heap.get?_push_size _ rfl,rfl,rfl⟩,pl.isList.push _,c2.keep fun o e=>Heap.get?_push_of_some _ e⟩,fun b hb=>?_,fun i v hv=>?_,fun h' tk t' k=>?_⟩
 ·rw [Heap.size_push]
  simp only [List.mem_cons,List.not_mem_nil,or_false] at hb
  rcases hb with rfl | rfl | rfl
  ·exact Nat.lt_succ_self _
  ·exact Nat.lt_succ_of_lt lp
  ·exact Nat.lt_succ_of_lt ly
 ·exact IntsAre.int_at (intsAre_of r') i v (by simpa using hv)
 ·refine ⟨.int ns.sum,H,I.kept (t':=tk) fun b o e=>k b o (fun z=>?_) (Heap.get?_push_of_some _ e),⟨t',?_⟩,q⟩
  ·have lb:=Heap.lt_size e
   rw [List.mem_singleton.mp z] at lb
   exact Nat.lt_irrefl _ lb
  ·rw [preSum_sum ns _ (by simp;omega)]
   simp only [List.size_toArray]
   rw [← hl,List.take_length]
theorem r_sumY {K:W.Frag} {y p C:Addr} {ns:List Int} {H:Hp} {Q:VK} (h:SqL K H p (ns.map V.int)) (hz:ns.length≤1000) (hy:H y=some (.ext (ExC y C))) (q:Q (.int ns.sum) H):rSumY K y [.ref p] H Q:=⟨p,C,ns,rfl,h,hz,hy,q⟩
theorem bo_sum:bootBuiltins "sum" = some (.builtin "sum"):=by decide +kernel
structure TurnY (y:Addr) (P:Program) (w:World) (K:W.Frag) (tg:Expr) (J:It) (fp:List Addr) (it:Addr) (tn:Nat→Heap→Prop):Prop where
 mem:it ∈ fp
 obj : ∀ i h,tn i h → ∀ b ∈ fp,∃ o,h.get? b=some o ∧ ∀ v,o.data ≠ .cell v
 keep : ∀ i h h',tn i h→(∀ b ∈ fp,∀ o,h.get? b=some o→h'.get? b=some o)→tn i h'
 item : ∀ (X:Cx),X.prog=P→X.w=w→X.K=K→X.A.handled=some (.ref y) → ∀ (i:Nat) (pins:List (Addr × Obj)) (s:Shared) (σ:St) (H:Hp) (E:Value→Shared→Prop),Inv X pins σ H s→(∀ b ∈ fp,FpOk X pins H b)→tn i s.heap→J.go i H →
  wpAny (model P w) X.A (pyNext (.ref it)) (fun r s1=>∃ u,r=some u ∧
   wpAny (model P w) X.A (letOwnedTupleGo tg (.ref it) u) (fun _ s2=>∃ x H',Inv X pins σ H' s2∧RelV x u∧J.yld i H x H'∧tn (i+1) s2.heap ∧ ∀ b ∈ fp,H' b=none) E s1) E s
 done : ∀ (X:Cx),X.prog=P→X.w=w→X.K=K→X.A.handled=some (.ref y) → ∀ (i:Nat) (pins:List (Addr × Obj)) (s:Shared) (σ:St) (H:Hp) (E:Value→Shared→Prop),Inv X pins σ H s→(∀ b ∈ fp,FpOk X pins H b)→tn i s.heap→J.stop i H →
  wpAny (model P w) X.A (pyNext (.ref it)) (fun r s1=>r=none∧Inv X pins σ H s1) E s
 self : ∀ (A:Around) (i:Nat) (s:Shared) (Q:Value→Shared→Prop) (E:Value→Shared→Prop),tn i s.heap→Q (.ref it) s→wpAny (model P w) A (pyIter (.ref it)) Q E s
def PIEY (y:Addr) (X:Cx) (pins:List (Addr × Obj)) (σ:St) (tg:Expr) (R:It→Hp→Prop) (itv:Value) (s2:Shared):Prop:=
 ∃ (it:Addr) (fp:List Addr) (tn:Nat→Heap→Prop) (J:It) (H':Hp),itv = .ref it∧Inv X pins σ H' s2∧TurnY y X.prog X.w X.K tg J fp it tn∧tn 0 s2.heap∧(∀ b ∈ fp,FpOk X pins H' b)∧R J H'
def PIY (y:Addr) (X:Cx) (tg iter:Expr) (wi:TI):Prop:=
 ∀ (pins:List (Addr × Obj)) (s:Shared) (σ:St) (H:Hp) (R:It→Hp→Prop),Inv X pins σ H s→wi σ H R →
  wpAny (model X.prog X.w) X.A (eval iter X.env) (fun v s1=>wpAny (model X.prog X.w) X.A (pyIter v) (PIEY y X pins σ tg R) X.xe s1) X.xe s
def ItlY (K:W.Frag) (a y:Addr):It:=
 ⟨fun i H=>∃ xs x,SqL K H a xs∧xs[i]? = some x,fun i H x H'=>H'=H ∧ ∀ xs,SqL K H a xs→xs[i]? = some x,fun i H=>(∃ xs,SqL K H a xs∧xs.length≤i) ∧ ∃ C,H y=some (.ext (ExC y C))⟩
theorem turn_listY {P:Program} {w:World} {K:W.Frag} {tg:Expr} (a it y:Addr):TurnY y P w K tg (ItlY K a y) [it] it (fun i h=>h.IsListIter it a i) where
 mem:=by simp
 obj:=fun i h st b hb=>by
  have e:b=it:=by simpa using hb
  subst e
  obtain ⟨o,e,c,d⟩:=st
  exact ⟨o,e,fun v z=>by rw [d] at z;cases z⟩
 keep:=fun i h h' st k=>st.at fun o e=>k it (by simp) o e
 item:=by
  intro X hP hw hK hc i pins s σ H E I hf st hg
  subst hP hw hK
  obtain ⟨xs,x,hq,hx⟩:=hg
  obtain ⟨its,rv,p,hz⟩:=I.list hq
  obtain ⟨u,hu,ru⟩:=rv.get hx
  obtain ⟨f0,f1,f2,f3,f4,f5⟩:=hf it (by simp)
  refine wpAny_pyNext_list_item st p.isList (x:=u) (by simpa using hu) fun h' st' sb=>?_
  have I1:Inv X pins σ H { s with heap:=h' }:=I.turned (t':=s.toks) (fun b o hb e=>(sb.2 b hb).trans e) f0 f1 f3 f4 f5
  obtain ⟨o,e,c,d⟩:=id st'
  exact ⟨u,rfl,go_of (s:={ s with heap:=h' }) e c d (by decide) ⟨x,H,I1,ru,⟨rfl,fun ys hy=>by rw [I.list_inj hy hq];exact hx⟩,st',fun b hb=>(hf b hb).1⟩⟩
 done:=by
  intro X hP hw hK hc i pins s σ H E I hf st hg
  subst hP hw hK
  obtain ⟨⟨xs,hq,hx⟩,C,hy⟩:=hg
  obtain ⟨its,rv,p,hz⟩:=I.list hq
  obtain ⟨f0,f1,f2,f3,f4,f5⟩:=hf it (by simp)
  have hl:=rv.length
  have ny:y≠it:=fun z=>by rw [z,f0] at hy;cases hy
  exact list_endH hc ((I.hok y _ hy).1).2 ny st p.isList (by simp;omega) fun h' eb=>⟨rfl,I.turned (t':=s.toks) (fun b o hb e=>eb b o hb e) f0 f1 f3 f4 f5⟩
 self:=fun _ _ _ _ _ st h=>wpAny_pyIter_listiter st h
def iListY (K:W.Frag) (y:Addr) (tl:TE):TI:=fun σ H R=>tl σ H fun x H1=>∃ a,x = .ref a∧(∃ xs,SqL K H1 a xs)∧R (ItlY K a y) H1
theorem pi_listY {X:Cx} {tg l:Expr} {tl:TE} {y:Addr} (hl:PE X l tl):PIY y X tg l (iListY X.K y tl):=by
 intro pins s σ H R I h
 refine thn (hl pins s σ H _ I h) fun v s1 ⟨x,H1,I1,r1,q1⟩=>?_
 obtain ⟨a,e,⟨xs,hq⟩,q⟩:=q1
 subst e
 cases r1
 obtain ⟨its,rv,p,hz⟩:=I1.list hq
 refine wpAny_pyIter_list p.isList ?_
 refine ⟨s1.heap.objs.size,[s1.heap.objs.size],_,_,H1,rfl,I1.kept (t':=s1.toks) fun b o e=>Heap.get?_push_of_some _ e,turn_listY a _ y,⟨_,Heap.get?_push_size _ rfl,rfl,rfl⟩,fun b hb=>?_,q⟩
 have e:b=s1.heap.objs.size:=by simpa using hb
 subst e
 exact I1.fpOk (Nat.le_refl _) (I1.hok.fresh (Nat.le_refl _))
section
variable {X : Cx} {elt iter : Expr} {ifs : List Expr} {x : Str} {px pos : Pos} {scope : Scope} {cl : List (Str × Addr)} {fr : List Str} {is : List Nat} {wi : TI} {tt : TT} {te : TE}
theorem comp_coreY {y : Addr} {pins : List (Addr × Obj)} {σ : St} {Q : VK} {E : Value → Shared → Prop} {s₂ : Shared} {H₂ : Hp} {it : Addr} {fp : List Addr} {tn : Nat → Heap → Prop} {J : It}
    (hc : X.A.handled = some (.ref y)) (hcell : ∀ y ∈ scope.names, y.2 ≠ .cell) (hkind : scope.kind = .function) (hx : scope.names.lookup x = some .local) (hcl : ClOk X.env.cells cl)
    (hfree : (scope.names.all fun p => p.2 != .free || (cl.lookup p.1).isSome) = true) (hfr : FrOk X scope fr is) (hnd : (x :: fr).Nodup)
    (ht : ∀ C s₂ H₂ fp, PIfs (cxComp X scope cl (x :: fr) C s₂ H₂ fp) ifs tt) (he : ∀ C s₂ H₂ fp, PE (cxComp X scope cl (x :: fr) C s₂ H₂ fp) elt te)
    (I : Inv X pins σ H₂ s₂) (T : TurnY y X.prog X.w X.K (.Name x px) J fp it tn) (st : tn 0 s₂.heap) (hf : ∀ b ∈ fp, FpOk X pins H₂ b) (R : kComp is tt te σ Q J H₂) :
    wpAny (model X.prog X.w) X.A (newList []) (fun acc s₃ => wpAny (model X.prog X.w) X.A (newFunctionEnv scope X.env.globals cl [] X.env.qual none .none (some X.env)) (fun cenv s₄ =>
      codeAny (model X.prog X.w) X.A (.compStart (.ListComp elt [⟨.Name x px, iter, ifs, 0⟩] scope pos) 0 (.ref it) acc { cenv with scope := relabel scope X.env }) (CompOut X pins σ Q acc cenv.locals) s₄) E s₃) E s₂ := by
  obtain ⟨W, ⟨m0, w0⟩, turn⟩ := R
  refine wpAny_newObj_type (wpAny_newFunctionEnv hcell (by intro y hy; simp at hy) (fun h₁ hns₁ hsb₁ => ?_) hkind)
  dsimp only at hns₁ hsb₁ ⊢
  generalize hH2 : s₂.heap.push { cls := .type "list", dict := none, data := .seq ([] : List Value).toArray } = G2 at hns₁ hsb₁ ⊢
  have hC : G2.objs.size = s₂.heap.objs.size + 1 := by rw [← hH2, Heap.size_push]
  have hDC : s₂.heap.objs.size ≠ G2.objs.size := by rw [hC]; exact Nat.ne_of_lt (Nat.lt_succ_self _)
  have below : ∀ b, b < s₂.heap.objs.size → b ≠ G2.objs.size ∧ b ≠ s₂.heap.objs.size := fun b hb => ⟨by rw [hC]; exact Nat.ne_of_lt (Nat.lt_succ_of_lt hb), Nat.ne_of_lt hb⟩
  have hfl : ∀ b ∈ fp, b < s₂.heap.objs.size := fun b hb => by obtain ⟨o, e, _⟩ := T.obj _ _ st b hb; exact Heap.lt_size e
  have old : ∀ b o, s₂.heap.get? b = some o → h₁.get? b = some o := fun b o e => hsb₁.extBut b o (below b (Heap.lt_size e)).1 (Heap.get?_push_of_some _ (hH2 ▸ Heap.get?_push_of_some _ e))
  have hacc : h₁.get? s₂.heap.objs.size = some { cls := .type "list", data := .seq ([] : List Value).toArray 0 } := hsb₁.extBut _ _ hDC (Heap.get?_push_of_some _ (hH2 ▸ Heap.get?_push_size _ rfl))
  have hfresh : ∀ b, s₂.heap.objs.size ≤ b → H₂ b = none := fun b hb => I.hok.fresh hb
  have hCle : s₂.heap.objs.size ≤ G2.objs.size := by rw [hC]; exact Nat.le_succ _
  generalize hCe : G2.objs.size = C at *
  generalize hDe : s₂.heap.objs.size = D at *
  have ok : (cxComp X scope cl (x :: fr) C s₂ H₂ fp).Ok := cxComp_ok I (by rw [hDe]; exact hCle) hf (by rw [hDe]; exact hfl) hcell hkind hcl hfree
  have hYc : (cxComp X scope cl (x :: fr) C s₂ H₂ fp).A.handled = some (.ref y) := hc
  have hDfp : ∀ b ∈ fp, b ≠ D := fun b hb => Nat.ne_of_lt (hfl b hb)
  have hDst : D ∉ frs X.stack := fun z => by
    rcases List.mem_cons.mp (I.stkSub D z) with q | q
    · have := I.lt; rw [hDe, ← q] at this; exact Nat.lt_irrefl _ this
    · exact I.nofs (by rw [hDe]; exact Nat.le_refl _) q
  have hfY : ∀ {H' : Hp} {its : List Value} {n : Nat}, (∀ b ∈ fp, H' b = none) → ∀ b ∈ fp, FpOk (cxComp X scope cl (x :: fr) C s₂ H₂ fp) [(D, { cls := .type "list", data := .seq its.toArray n })] H' b := fun hn b hb =>
    ⟨hn b hb, (ok.exf b hb).1, ok.exfs b hb, .inl hb, (ok.exf b hb).2, fun p hp => by
      have e : p = (D, { cls := .type "list", data := .seq _ _ }) := List.mem_singleton.mp hp
      rw [e]; exact Ne.symm (hDfp b hb)⟩
  have lenF : (is.map fun j => (σ[j]?).getD none).length = fr.length := by rw [List.length_map, hfr.len]
  have I0 : Inv (cxComp X scope cl (x :: fr) C s₂ H₂ fp) [(D, { cls := .type "list", data := .seq ([] : List Value).toArray 0 })] (none :: is.map fun j => (σ[j]?).getD none) H₂ { s₂ with heap := h₁, toks := s₂.toks + ([] : List (Str × Value)).length } := by
    refine ⟨ok, rfl, I.bare, Un.kept old, ⟨_, hns₁, fun i y v e1 e2 e3 => ?_⟩, fun y c e => ?_, hfresh C hCle, fun y c e => I.freeC y c (hcl.look e), fun p hp => ?_, I.hok.kept old, ?_⟩
    · cases i with
      | zero => cases e2
      | succ k =>
        have e1' : fr[k]? = some y := e1
        have e2' : (is.map fun j => (σ[j]?).getD none)[k]? = some (some v) := e2
        obtain ⟨j, hj, hN, hfy, hkx⟩ := hfr.get e1'
        rw [List.getElem?_map, hj] at e2'
        have e4 : (σ[j]?).getD none = some v := Option.some.inj e2'
        have e5 : σ[j]? = some (some v) := by
          cases q : σ[j]? with
          | none => rw [q] at e4; cases e4
          | some o => rw [q] at e4; have e4' : o = some v := e4; rw [e4']
        obtain ⟨m, hn, hl⟩ := id I.loc
        have hvis : Vis X.env.scope y := hkx.elim (fun q => .inr (.inl q)) fun q => .inr (.inr q)
        obtain ⟨u, r, lk⟩ := hl j y v hN e5 hvis
        refine ⟨u, r, .inr ⟨relabel_free I.ok.kind hfy hkx, ?_⟩⟩
        rcases lk with ⟨kl, _⟩ | ⟨_, c, ec, ic⟩
        · rcases hkx with q | q <;> rw [kl] at q <;> cases q
        · obtain ⟨c', ec'⟩ := ok.has y (relabel_free I.ok.kind hfy hkx)
          have : c' = c := Option.some.inj ((hcl.look ec').symm.trans ec)
          rw [this] at ec'
          obtain ⟨o, ho, hd⟩ := ic
          exact ⟨c, ec', o, old c o ho, hd⟩
    · obtain ⟨v, o, ho, hd⟩ := I.cell y c (hcl.look e)
      exact ⟨v, o, old c o ho, hd⟩
    · have e : p = (D, { cls := .type "list", data := .seq ([] : List Value).toArray 0 }) := List.mem_singleton.mp hp
      rw [e]
      exact ⟨hacc, hfresh D (Nat.le_refl _), hDC, hDst, fun v z => by cases z⟩
    · show (none :: _).length = (x :: fr).length
      rw [List.length_cons, List.length_cons, lenF]
  have loop : ∀ s₃ : Shared, s₃ = { s₂ with heap := h₁, toks := s₂.toks + ([] : List (Str × Value)).length } →
      codeAny (model X.prog X.w) X.A (.compLoop (.ListComp elt [⟨.Name x px, iter, ifs, 0⟩] scope pos) 0 (.ref it) (.ref D) (compEnvC scope cl C X.env)) (CompOut X pins σ Q (.ref D) C) s₃ := by
    rintro s₃ rfl
    refine codeAny_compLoop_tests (fun n s' => ∃ (i : Nat) (o : Option V) (ys : List V) (its : List Value) (k : Nat) (H' : Hp), Inv (cxComp X scope cl (x :: fr) C s₂ H₂ fp) [(D, { cls := .type "list", data := .seq its.toArray k })] (o :: is.map fun j => (σ[j]?).getD none) H' s' ∧
      tn i s'.heap ∧ (∀ b ∈ fp, H' b = none) ∧ Vals ys its ∧ W i n ys H') ?_ m0 ⟨0, none, [], [], 0, H₂, I0, T.keep _ _ _ st fun b _ o e => old b o e, fun b hb => (hf b hb).1, .nil, w0⟩
    rintro n s' ⟨i, o, ys, its, k, H', I', st', fr', vs, w'⟩
    obtain ⟨hlen, ⟨stop, fin⟩ | ⟨go, hlt, step⟩⟩ := turn i n ys H' w'
    · refine wpAny_mono (T.done (cxComp X scope cl (x :: fr) C s₂ H₂ fp) rfl rfl rfl hYc i _ s' _ H' (fun _ _ => False) I' (hfY fr') st' stop) (fun r s1 ⟨hr, I1⟩ => ?_) fun _ _ z => z.elim
      subst hr
      obtain ⟨pD, nD, _, _, _⟩ := I1.pin _ (List.mem_append_right _ (List.mem_singleton.mpr rfl))
      have IX : Inv X pins σ H' s1 := I.call' I1.os I1.base I1.hok I1.bare fun b hb => ⟨(hf b hb).2.2.2.1, (hf b hb).2.1, (hf b hb).2.2.2.2.1, (hf b hb).2.2.2.2.2⟩
      have fD : FpOk X pins H' D := I.fpOk (by rw [hDe]; exact Nat.le_refl _) nD
      obtain ⟨m, hn, _⟩ := id I1.loc
      have hC' : H' C = none := I1.free
      refine ⟨D, upd H' D (.lst ys), m, rfl, IX.track fD ⟨hlen, its, k, vs, pD⟩, hn, I.fpOk (by rw [hDe]; exact hCle) (by rw [upd_ne (Ne.symm hDC)]; exact hC'), fin D nD⟩
    · refine wpAny_mono (T.item (cxComp X scope cl (x :: fr) C s₂ H₂ fp) rfl rfl rfl hYc i _ s' _ H' (fun _ _ => False) I' (hfY fr') st' go) (fun r s1 ⟨u, hr, h4⟩ => ?_) fun _ _ z => z.elim
      subst hr
      refine wpAny_mono (unlet (Q2 := fun _ s6 => _) h4 fun s2 ⟨v, H5, I5, r5, y5, st5, fr5⟩ => ?_) (fun _ _ q => q) fun _ _ z => z.elim
      have I5' := I5.pinned (hfY fr5) (T.obj _ _ st5)
      refine thn (pg_name (X := cxComp X scope cl (x :: fr) C s₂ H₂ fp) (i := 0) hnd rfl (.inl (lookup_relabel_local hx)) (.inr (lookup_relabel_local hx)) _ s2 _ H5 v u (fun σ' H' => σ' = (some v :: is.map fun j => (σ[j]?).getD none) ∧ H' = H5) I5' r5 ⟨rfl, rfl⟩) fun _ s6 ⟨σ6, H6, I6, e6, e7⟩ => ?_
      subst e6 e7
      refine wpAny_mono (ht C s₂ H₂ fp _ s6 _ H6 _ I6 (step v H6 y5)) (fun ok7 s7 ⟨H7, I7, q7⟩ => ?_) fun _ _ z => z.elim
      have keep : ∀ {σ8 : St} {H8 : Hp} {s8 : Shared}, Inv (cxComp X scope cl (x :: fr) C s₂ H₂ fp) ([(D, { cls := .type "list", data := .seq its.toArray k })] ++ pinsAt fp s2.heap) σ8 H8 s8 → tn (i + 1) s8.heap ∧ ∀ b ∈ fp, H8 b = none := fun {σ8 H8 s8} I8 =>
        ⟨T.keep _ _ _ st5 fun b hb o e => (I8.pin (b, o) (List.mem_append_right _ (List.mem_append_right _ (mem_pinsAt hb e)))).1, fun b hb => by
          obtain ⟨o, e, d⟩ := T.obj _ _ st5 b hb
          exact (I8.pin (b, o) (List.mem_append_right _ (List.mem_append_right _ (mem_pinsAt hb e)))).2.1⟩
      cases ok7 with
      | false =>
        obtain ⟨m', hm', w7⟩ := q7
        exact ⟨m', hm', i + 1, _, ys, its, k, H7, I7.unpinned, (keep I7).1, (keep I7).2, vs, w7⟩
      | true =>
        refine wpAny_mono (he C s₂ H₂ fp _ s7 _ H7 _ I7 q7) (fun yv s8 ⟨y, H8, I8, r8, m', hm', w8⟩ => ?_) fun _ _ z => z.elim
        obtain ⟨pD, nD, neD, nfD, ncD⟩ := I8.pin (D, { cls := .type "list", data := .seq its.toArray k }) (List.mem_append_right _ (List.mem_append_left _ (List.mem_singleton.mpr rfl)))
        have hl := vs.length
        refine append_at (hsz := by rw [List.size_toArray, ← hl]; exact hlen) pD fun h9 sb9 hD9 => ?_
        obtain ⟨st8, fr8⟩ := keep I8
        have I8' : Inv (cxComp X scope cl (x :: fr) C s₂ H₂ fp) [] (some v :: is.map fun j => (σ[j]?).getD none) H8 s8 := I8.pins_of fun p hp => nomatch hp
        have I9 : Inv (cxComp X scope cl (x :: fr) C s₂ H₂ fp) [] (some v :: is.map fun j => (σ[j]?).getD none) H8 { s8 with heap := h9 } :=
          I8'.turned (t' := s8.toks) (fun b o hb e => (sb9.2 b hb).trans e) nD neD (.inr (by rw [← hDe]; exact Nat.le_refl _)) (fun y' c e z => by
            obtain ⟨v', o', ho', hd'⟩ := I8'.cell y' c e
            rw [z, pD] at ho'; cases ho'; cases hd') (fun p hp => nomatch hp)
        refine ⟨m', hm', i + 1, _, ys ++ [y], its ++ [yv], k + 1, H8, I9.pins_of fun p hp => ?_, T.keep _ _ _ st8 fun b hb o e => (sb9.2 b (hDfp b hb)).trans e, fr8, vs.append (.cons r8 .nil), w8⟩
        rw [List.mem_singleton.mp hp]
        refine ⟨?_, nD, neD, nfD, fun v z => by cases z⟩
        rw [← List.push_toArray]
        exact hD9
  exact codeAny_compStart_list (loop _ rfl) (T.self _ 0 _ _ _ (T.keep _ _ _ st fun b _ o e => old b o e) (loop _ rfl))
theorem pe_compY {y : Addr} (hc : X.A.handled = some (.ref y)) (hclos : closureFor scope X.env = pure cl) (hcl : ClOk X.env.cells cl) (hfree : (scope.names.all fun p => p.2 != .free || (cl.lookup p.1).isSome) = true) (hfr : FrOk X scope fr is) (hnd : (x :: fr).Nodup)
    (hcell : ∀ y ∈ scope.names, y.2 ≠ .cell) (hkind : scope.kind = .function) (hnames : ∀ y ∈ scope.names, y.2 = .local → scope.names.lookup y.1 = some .local) (hx : scope.names.lookup x = some .local)
    (hi : PIY y X (.Name x px) iter wi) (ht : ∀ C s₂ H₂ fp, PIfs (cxComp X scope cl (x :: fr) C s₂ H₂ fp) ifs tt) (he : ∀ C s₂ H₂ fp, PE (cxComp X scope cl (x :: fr) C s₂ H₂ fp) elt te) (hs : ∀ x, foldedSetIterable iter X.env x = pure x := by intro _; rfl) :
    PE X (.ListComp elt [⟨.Name x px, iter, ifs, 0⟩] scope pos) (tComp is wi tt te) := by
  intro pins s σ H Q I h
  rw [eval_ListComp]
  refine wpAny_comprehension_free (use := none) rfl hs hclos hkind hnames (thn (hi pins s σ H _ I h) fun v s1 h1 => thn h1 fun itv s2 h2 => ?_)
  obtain ⟨it, fp, tn, J, H2, e, I2, T, st2, f2, R⟩ := h2
  subst e
  refine thn (comp_coreY hc hcell hkind hx hcl hfree hfr hnd ht he I2 T st2 f2 R) fun acc s3 h3 => thn h3 fun cenv s4 h4 => codeAny_mono h4 fun r s' q => ?_
  cases r with
  | error e => exact q.elim
  | ok f =>
    obtain ⟨D, H', m, rfl, I', hn, fC, q⟩ := q
    obtain ⟨f0, f1, _, f3, f4, f5⟩ := fC
    exact ⟨m, hn, fun h' sb => ⟨.ref D, H', I'.turned (t' := s'.toks) (fun b o hb e => (sb.2 b hb).trans e) f0 f1 f3 f4 f5, rfl, q⟩⟩
end
section
variable {K : W.Frag} {σ : St} {H : Hp} {Q : VK} {is : List Nat} {tt : TT} {te : TE}
def kCompLY (K:W.Frag) (y:Addr) (is:List Nat) (tt:TT) (te:TE) (σ:St) (Q:VK) (x:V) (H:Hp):Prop:=∃ a,x = .ref a∧(∃ xs,SqL K H a xs)∧kComp is tt te σ Q (ItlY K a y) H
theorem r_compLY {y:Addr} {tl:TE} (h:tl σ H (kCompLY K y is tt te σ Q)):tComp is (iListY K y tl) tt te σ H Q:=h
theorem r_kCompLY {a y C:Addr} {xs:List V} (hx:SqL K H a xs) (hz:xs.length≤sizeLine) (Pv:Nat→List V→Hp→Prop) (h0:Pv 0 [] H) (hl : ∀ i ys H,i≤xs.length→Pv i ys H→SqL K H a xs∧ys.length≤i∧H y=some (.ext (ExC y C)))
  (hs : ∀ i x ys H,xs[i]? = some x→i < xs.length→Pv i ys H→tt (some x::is.map fun j=>(σ[j]?).getD none) H fun ok H2=>if ok=true then te (some x::is.map fun j=>(σ[j]?).getD none) H2 fun y H3=>NxC xs.length Pv i (ys++[y]) H3 else NxC xs.length Pv i ys H2)
  (hd : ∀ ys H,Pv xs.length ys H → ∀ p H',Same H H'→H p=none→H' p=some (.lst ys)→Q (.ref p) H'):kCompLY K y is tt te σ Q (.ref a) H:=by
 refine ⟨a,rfl,⟨xs,hx⟩,fun i m ys H=>m=xs.length - i∧i≤xs.length∧Pv i ys H,⟨xs.length,by simp,Nat.zero_le _,h0⟩,?_⟩
 rintro i m ys H ⟨rfl,hi,p⟩
 obtain ⟨q,ly,hy⟩:=hl i ys H hi p
 refine ⟨by omega,?_⟩
 by_cases hlt:i < xs.length
 ·refine .inr ⟨⟨xs,xs[i],q,by simp [hlt]⟩,by omega,fun x H' z=>?_⟩
  obtain ⟨e,z⟩:=z
  subst e
  exact hs i x ys _ (z xs q) hlt p
 ·have e:i=xs.length:=by omega
  subst e
  exact .inl ⟨⟨⟨xs,q,Nat.le_refl _⟩,C,hy⟩,fun p' hp=>hd ys H p p' _ (same_new hp _) hp upd_same⟩
end
set_option maxHeartbeats 1000000
section
variable {X : Cx} {K : W.Frag} {H : Hp} {Q : VK}
def rIsiC (K:W.Frag):List V→Hp→VK→Prop:=fun xs H Q=>∃ x C c b,xs=[.ref x,c]∧H x=some (.ext (ExC x C))∧Exc K C∧((∃ T,c = .ty T) ∨ ∃ D,c = .ref D)∧W.kitOne K (.ref C) (clsV c)=some b∧Q (.bl b) H
theorem call_isiC (eK:X.K=K):CallR X (.builtin "isinstance") (rIsiC K):=by
 subst eK
 intro pins s σ H xs us Q I r h
 obtain ⟨x,C,c,b,rfl,hx,ex,hc,e,q⟩:=h
 obtain ⟨v,w,rfl,rx,rw'⟩:=vals2 r
 cases rx
 have:w=clsV c:=by
  rcases hc with ⟨T,rfl⟩ | ⟨D,rfl⟩
  ·exact rw'
  ·exact rw'
 subst this
 exact W.kia_one (ex_kit ex) I.kIn (I.hok x _ hx).1.1 e (fun z=>nomatch z) fun tk=>⟨.bl b,H,I.tok _,rfl,q⟩
theorem r_isiC {x C:Addr} {c:V} {b:Bool} (hx:H x=some (.ext (ExC x C))) (ex:Exc K C) (hc:(∃ T,c = .ty T) ∨ ∃ D,c = .ref D) (e:W.kitOne K (.ref C) (clsV c)=some b) (q:Q (.bl b) H):rIsiC K [.ref x,c] H Q:=⟨x,C,c,b,rfl,hx,ex,hc,e,q⟩
def rIsiCT (K:W.Frag):List V→Hp→VK→Prop:=fun xs H Q=>∃ (x C p:Addr) (Ds:List Addr) (b:Bool),xs=[.ref x,.ref p]∧H x=some (.ext (ExC x C))∧Exc K C∧H p=some (.tup (Ds.map V.ref))∧W.kitAny K (.ref C) (Ds.map Value.ref)=some b∧Q (.bl b) H
theorem call_isiCT (eK:X.K=K):CallR X (.builtin "isinstance") (rIsiCT K):=by
 subst eK
 intro pins s σ H xs us Q I r h
 obtain ⟨x,C,p,Ds,b,rfl,hx,ex,hp,e,q⟩:=h
 obtain ⟨v,w,rfl,rx,rp⟩:=vals2 r
 cases rx;cases rp
 obtain ⟨_,its,ri,o,ho,hc,n,hd⟩:=I.hok p _ hp
 have:=vals_refs ri
 subst this
 obtain ⟨oc,od,odt,osl⟩:=o
 simp only at hc hd
 subst hc hd
 exact W.kia_tup (ex_kit ex) I.kIn (I.hok x _ hx).1.1 ho e (fun z=>nomatch z) fun tk=>⟨.bl b,H,I.tok _,rfl,q⟩
theorem r_isiCT {x C p:Addr} {Ds:List Addr} {b:Bool} (hx:H x=some (.ext (ExC x C))) (ex:Exc K C) (hp:H p=some (.tup (Ds.map V.ref))) (e:W.kitAny K (.ref C) (Ds.map Value.ref)=some b) (q:Q (.bl b) H):rIsiCT K [.ref x,.ref p] H Q:=⟨x,C,p,Ds,b,rfl,hx,ex,hp,e,q⟩
end
theorem FunD.okX2 {P:Program} {w:World} {K:W.Frag} {mg:Str→Option Value} {base:Heap} {x qual:Str} {st:Stmt} {f:Addr} {fd:FuncData} {N ps:List Str} {k:Nat} {sp:Sp} (F:FunD K x qual st f fd) (S:FnScope N ps (defScope st)) (len : ∀ vs H Q E,sp vs H Q E→vs.length=ps.length)
  (hbody : ∀ (cdv:Value) (A:Around) (outer:List Env) (s:Shared) (H:Hp) (vs:List V) (Q:VK) (E:XK),Room k (A.deeper (envOfC qual (defScope st) s.heap.objs.size f cdv))→sp vs H Q E →
   Takes (cxOf (CXE2 P w) P w K mg base N qual (defScope st) f cdv A outer s H E) E→Passes (CXE2 P w) (cxOf (CXE2 P w) P w K mg base N qual (defScope st) f cdv A outer s H E) E → ∃ t,PSs (cxOf (CXE2 P w) P w K mg base N qual (defScope st) f cdv A outer s H E) (defBody st) t∧t { nx:=fun _ H'=>Q .non H',rt:=Q } (start N vs) H):FnOk P w K mg base (CXE2 P w) (k+1) f fd ps sp:=by
 obtain ⟨oc,od,dV,kV,doc,pm,an,cdv,ct,osl,rfl,lk,hcd⟩:=F.ex
 exact fn_of lk hcd S len fun A outer s H vs Q E hr hsp=>hbody cdv A outer s H vs Q E hr hsp (fun pins σ H s h' x C args I hm q=>leaves_made2 I hm q) passes_cx2
end L2
namespace L2
open PySem PySem.W PyProof PyProof.Rows
theorem strsQ_of : ∀ {xs : List (List Nat)} {us : List Value}, Vals (xs.map fun l => V.str (T l)) us → StrsAre us (xs.map T)
  | [], _, .nil => .nil
  | x :: xs, _, .cons r t => by
    obtain ⟨u, rfl⟩ := r
    exact .cons (T x) u (strsQ_of t)
def rJoinQ (K:W.Frag):V→List V→Hp→VK→Prop:=fun x vs H Q=>∃ (m:Str) (p:Addr) (xs:List (List Nat)),x = .str m∧vs=[.ref p]∧H p=some (.tup (xs.map fun l=>V.str (T l)))∧xs.flatten.length+xs.length*(Lt m).length≤16777216∧Q (.str (T (jn (Lt m) xs))) H
theorem sumQ_lens (xs:List (List Nat)):((xs.map T).map (·.length)).sum=xs.flatten.length:=by
 induction xs with
 | nil=>rfl
 | cons x xs ih=>rw [List.map_cons,List.map_cons,List.sum_cons,ih,List.flatten_cons,List.length_append];rfl
theorem mt_joinQ {X:Cx}:MtR X "str.join" (rJoinQ X.K):=by
 intro pins s σ H x vs v us Q I rx rv h
 obtain ⟨m,p,xs,rfl,rfl,hH,hz,q⟩:=h
 obtain ⟨t,rfl⟩:=rx
 obtain ⟨u,rfl,ru⟩:=rv.one
 cases ru
 obtain ⟨its,r,pl,_⟩:=I.tuple (SqT.of hH)
 obtain ⟨o,h1,h2,n,h3⟩:=pl
 refine join_tuple (ys:=xs.map T) ⟨o,h1,h2,⟨n,h3⟩⟩ (strsQ_of r) ?_ fun t' k=>⟨.str _,H,I.tok _,⟨t',rfl⟩,by rw [join_T];exact q⟩
 rw [sumQ_lens,List.length_map]
 exact hz
theorem r_joinQ {K:W.Frag} {H:Hp} {Q:VK} {m:Str} {p:Addr} {xs:List (List Nat)} (h:H p=some (.tup (xs.map fun l=>V.str (T l)))) (hz:xs.flatten.length+xs.length*(Lt m).length≤16777216) (q:Q (.str (T (jn (Lt m) xs))) H):rJoinQ K (.str m) [.ref p] H Q:=⟨m,p,xs,rfl,rfl,h,hz,q⟩
end L2
set_option maxHeartbeats 400000
namespace L2
open PySem PySem.Spec PyProof.Rows
inductive PR:List (Nat ⊕ V)→List (Nat ⊕ Value)→Prop
 | nil:PR [] []
 | pos (i:Nat) {p:List (Nat ⊕ V)} {q:List (Nat ⊕ Value)}:PR p q→PR (.inl i::p) (.inl i::q)
 | dv {v:V} {u:Value} {p:List (Nat ⊕ V)} {q:List (Nat ⊕ Value)} (r:RelV v u):PR p q→PR (.inr v::p) (.inr u::q)
theorem relS {x y:Str} {t:Tok} (h:x=y):RelV (.str y) (.str x t):=⟨t,by rw [h]⟩
set_option maxHeartbeats 4000000
end L2
namespace Pw
open PySem L2
set_option maxHeartbeats 4000000
seal PySem.Sem.wp
def top (i:Nat):Stmt:=PySem.Challenge.pw_padwright_k47_what_is_refused.main.body.getD i (.Pass ⟨0,0,0,0⟩)
abbrev s_TooMany___init__:Stmt:=inClass (top 17) 0
theorem sc_TooMany___init__:FnScope ["self", "number"] ["self", "number"] (defScope s_TooMany___init__):=⟨rfl,rfl,rfl,by decide +kernel,rfl,by decide +kernel,by decide +kernel⟩
abbrev s_pads_of:Stmt:=top 20
theorem sc_pads_of:FnScope ["length", "width", "side", "lacks"] ["length", "width", "side"] (defScope s_pads_of):=⟨rfl,rfl,rfl,by decide +kernel,rfl,by decide +kernel,by decide +kernel⟩
abbrev s_padded:Stmt:=top 21
theorem sc_padded:FnScope ["text", "width", "fill", "side", "pads"] ["text", "width", "fill", "side"] (defScope s_padded):=⟨rfl,rfl,rfl,by decide +kernel,rfl,by decide +kernel,by decide +kernel⟩
abbrev s_padded_inside:Stmt:=top 22
theorem sc_padded_inside:FnScope ["lead", "rest", "width", "fill"] ["lead", "rest", "width", "fill"] (defScope s_padded_inside):=⟨rfl,rfl,rfl,by decide +kernel,rfl,by decide +kernel,by decide +kernel⟩
abbrev s_Form___init__:Stmt:=inClass (top 24) 0
theorem sc_Form___init__:FnScope ["self", "width", "fill", "side", "strict"] ["self", "width", "fill", "side", "strict"] (defScope s_Form___init__):=⟨rfl,rfl,rfl,by decide +kernel,rfl,by decide +kernel,by decide +kernel⟩
abbrev s_Form_put:Stmt:=inClass (top 24) 1
theorem sc_Form_put:FnScope ["self", "value", "core"] ["self", "value"] (defScope s_Form_put):=⟨rfl,rfl,rfl,by decide +kernel,rfl,by decide +kernel,by decide +kernel⟩
abbrev s_Form_is_too_wide:Stmt:=inClass (top 24) 3
theorem sc_Form_is_too_wide:FnScope ["self", "core"] ["self", "core"] (defScope s_Form_is_too_wide):=⟨rfl,rfl,rfl,by decide +kernel,rfl,by decide +kernel,by decide +kernel⟩
abbrev s_Form_filled:Stmt:=inClass (top 24) 5
theorem sc_Form_filled:FnScope ["self", "core", "lead"] ["self", "core"] (defScope s_Form_filled):=⟨rfl,rfl,rfl,by decide +kernel,rfl,by decide +kernel,by decide +kernel⟩
abbrev s_WordForm___init__:Stmt:=inClass (top 26) 0
theorem sc_WordForm___init__:FnScope ["self", "signs", "least", "most", "width", "fill", "side", "strict"] ["self", "signs", "least", "most", "width", "fill", "side", "strict"] (defScope s_WordForm___init__):=⟨rfl,rfl,rfl,by decide +kernel,rfl,by decide +kernel,by decide +kernel⟩
abbrev s_WordForm_core:Stmt:=inClass (top 26) 1
theorem sc_WordForm_core:FnScope ["self", "value"] ["self", "value"] (defScope s_WordForm_core):=⟨rfl,rfl,rfl,by decide +kernel,rfl,by decide +kernel,by decide +kernel⟩
abbrev s_WordForm_is_word:Stmt:=inClass (top 26) 5
theorem sc_WordForm_is_word:FnScope ["self", "thing"] ["self", "thing"] (defScope s_WordForm_is_word):=⟨rfl,rfl,rfl,by decide +kernel,rfl,by decide +kernel,by decide +kernel⟩
abbrev s_ChoiceForm___init__:Stmt:=inClass (top 27) 0
theorem sc_ChoiceForm___init__:FnScope ["self", "names", "width", "fill", "side", "strict"] ["self", "names", "width", "fill", "side", "strict"] (defScope s_ChoiceForm___init__):=⟨rfl,rfl,rfl,by decide +kernel,rfl,by decide +kernel,by decide +kernel⟩
abbrev s_ChoiceForm_core:Stmt:=inClass (top 27) 1
theorem sc_ChoiceForm_core:FnScope ["self", "value"] ["self", "value"] (defScope s_ChoiceForm_core):=⟨rfl,rfl,rfl,by decide +kernel,rfl,by decide +kernel,by decide +kernel⟩
abbrev s_figures_of:Stmt:=top 30
theorem sc_figures_of:FnScope ["number", "base", "text", "left"] ["number", "base"] (defScope s_figures_of):=⟨rfl,rfl,rfl,by decide +kernel,rfl,by decide +kernel,by decide +kernel⟩
abbrev s_grouped:Stmt:=top 32
theorem sc_grouped:FnScope ["text", "size", "mark"] ["text", "size", "mark"] (defScope s_grouped):=⟨rfl,rfl,rfl,by decide +kernel,rfl,by decide +kernel,by decide +kernel⟩
abbrev s_parts_of:Stmt:=top 33
theorem sc_parts_of:FnScope ["text", "size", "between", "parts", "end"] ["text", "size", "between"] (defScope s_parts_of):=⟨rfl,rfl,rfl,by decide +kernel,rfl,by decide +kernel,by decide +kernel⟩
abbrev s_body_of:Stmt:=top 35
theorem sc_body_of:FnScope ["number", "base", "places", "point", "size", "mark", "text", "cut", "whole"] ["number", "base", "places", "point", "size", "mark"] (defScope s_body_of):=⟨rfl,rfl,rfl,by decide +kernel,rfl,by decide +kernel,by decide +kernel⟩
abbrev s_ends_of:Stmt:=top 38
theorem sc_ends_of:FnScope ["style", "below"] ["style", "below"] (defScope s_ends_of):=⟨rfl,rfl,rfl,by decide +kernel,rfl,by decide +kernel,by decide +kernel⟩
abbrev s_signed:Stmt:=top 39
theorem sc_signed:FnScope ["body", "style", "below", "ends"] ["body", "style", "below"] (defScope s_signed):=⟨rfl,rfl,rfl,by decide +kernel,rfl,by decide +kernel,by decide +kernel⟩
abbrev s_unsigned:Stmt:=top 40
theorem sc_unsigned:FnScope ["core", "style", "below", "ends", "body"] ["core", "style"] (defScope s_unsigned):=⟨rfl,rfl,rfl,by decide +kernel,rfl,by decide +kernel,by decide +kernel⟩
abbrev s_stands_between_figures:Stmt:=top 41
theorem sc_stands_between_figures:FnScope ["body"] ["body"] (defScope s_stands_between_figures):=⟨rfl,rfl,rfl,by decide +kernel,rfl,by decide +kernel,by decide +kernel⟩
abbrev s_is_whole:Stmt:=top 43
theorem sc_is_whole:FnScope ["thing"] ["thing"] (defScope s_is_whole):=⟨rfl,rfl,rfl,by decide +kernel,rfl,by decide +kernel,by decide +kernel⟩
abbrev s_power_of:Stmt:=top 44
theorem sc_power_of:FnScope ["base", "times", "power", "turn"] ["base", "times"] (defScope s_power_of):=⟨rfl,rfl,rfl,by decide +kernel,rfl,by decide +kernel,by decide +kernel⟩
abbrev s_common_divisor:Stmt:=top 45
theorem sc_common_divisor:FnScope ["one", "other", "greater", "lesser", "rest"] ["one", "other"] (defScope s_common_divisor):=⟨rfl,rfl,rfl,by decide +kernel,rfl,by decide +kernel,by decide +kernel⟩
abbrev s_is_fraction:Stmt:=top 47
theorem sc_is_fraction:FnScope ["thing"] ["thing"] (defScope s_is_fraction):=⟨rfl,rfl,rfl,by decide +kernel,rfl,by decide +kernel,by decide +kernel⟩
abbrev s_gridded:Stmt:=top 49
theorem sc_gridded:FnScope ["value", "base", "places", "way", "top", "bottom", "below", "rest"] ["value", "base", "places", "way"] (defScope s_gridded):=⟨rfl,rfl,rfl,by decide +kernel,rfl,by decide +kernel,by decide +kernel⟩
abbrev s_goes_up:Stmt:=top 50
theorem sc_goes_up:FnScope ["below", "rest", "bottom", "way"] ["below", "rest", "bottom", "way"] (defScope s_goes_up):=⟨rfl,rfl,rfl,by decide +kernel,rfl,by decide +kernel,by decide +kernel⟩
abbrev s_NumberForm___init__:Stmt:=inClass (top 52) 0
theorem sc_NumberForm___init__:FnScope ["self", "figures", "places", "base", "sign", "size", "mark", "point", "way", "width", "fill", "side", "strict"] ["self", "figures", "places", "base", "sign", "size", "mark", "point", "way", "width", "fill", "side", "strict"] (defScope s_NumberForm___init__):=⟨rfl,rfl,rfl,by decide +kernel,rfl,by decide +kernel,by decide +kernel⟩
abbrev s_NumberForm_core:Stmt:=inClass (top 52) 1
theorem sc_NumberForm_core:FnScope ["self", "value", "k", "body"] ["self", "value"] (defScope s_NumberForm_core):=⟨rfl,rfl,rfl,by decide +kernel,rfl,by decide +kernel,by decide +kernel⟩
abbrev s_NumberForm_lead_of:Stmt:=inClass (top 52) 5
theorem sc_NumberForm_lead_of:FnScope ["self", "core"] ["self", "core"] (defScope s_NumberForm_lead_of):=⟨rfl,rfl,rfl,by decide +kernel,rfl,by decide +kernel,by decide +kernel⟩
abbrev s_NumberForm_is_too_great:Stmt:=inClass (top 52) 6
theorem sc_NumberForm_is_too_great:FnScope ["self", "number"] ["self", "number"] (defScope s_NumberForm_is_too_great):=⟨rfl,rfl,rfl,by decide +kernel,rfl,by decide +kernel,by decide +kernel⟩
abbrev s_law_cell_at:Stmt:=top 54
theorem sc_law_cell_at:FnScope ["_law_script", "_law_k"] ["_law_script", "_law_k"] (defScope s_law_cell_at):=⟨rfl,rfl,rfl,by decide +kernel,rfl,by decide +kernel,by decide +kernel⟩
abbrev s_law_pick:Stmt:=top 56
theorem sc_law_pick:FnScope ["_law_cell", "_law_salt", "_law_many", "_law_one", "_law_two"] ["_law_cell", "_law_salt", "_law_many"] (defScope s_law_pick):=⟨rfl,rfl,rfl,by decide +kernel,rfl,by decide +kernel,by decide +kernel⟩
abbrev s_law_signs:Stmt:=top 57
theorem sc_law_signs:FnScope [] [] (defScope s_law_signs):=⟨rfl,rfl,rfl,by decide +kernel,rfl,by decide +kernel,by decide +kernel⟩
abbrev s_law_sign:Stmt:=top 58
theorem sc_law_sign:FnScope ["_law_cell", "_law_salt", "_law_some"] ["_law_cell", "_law_salt"] (defScope s_law_sign):=⟨rfl,rfl,rfl,by decide +kernel,rfl,by decide +kernel,by decide +kernel⟩
abbrev s_law_number_spec:Stmt:=top 59
theorem sc_law_number_spec:FnScope ["_law_cell", "_law_other", "_law_small", "_law_figures_here", "_law_places", "_law_base", "_law_sign_here", "_law_size", "_law_way", "_law_signs_here", "_law_widths", "_law_width", "_law_side", "_law_strict"] ["_law_cell", "_law_other", "_law_small"] (defScope s_law_number_spec):=⟨rfl,rfl,rfl,by decide +kernel,rfl,by decide +kernel,by decide +kernel⟩
abbrev s_law_number_form:Stmt:=top 60
theorem sc_law_number_form:FnScope ["_law_spec_here", "_law_figures_here", "_law_places", "_law_base", "_law_sign_here", "_law_size", "_law_mark", "_law_point", "_law_way", "_law_width", "_law_fill", "_law_side", "_law_strict"] ["_law_spec_here"] (defScope s_law_number_form):=⟨rfl,rfl,rfl,by decide +kernel,rfl,by decide +kernel,by decide +kernel⟩
abbrev s_law_power:Stmt:=top 61
theorem sc_law_power:FnScope ["_law_base", "_law_times", "_law_found", "_law_k"] ["_law_base", "_law_times"] (defScope s_law_power):=⟨rfl,rfl,rfl,by decide +kernel,rfl,by decide +kernel,by decide +kernel⟩
abbrev s_law_divisor:Stmt:=top 62
theorem sc_law_divisor:FnScope ["_law_one", "_law_other"] ["_law_one", "_law_other"] (defScope s_law_divisor):=⟨rfl,rfl,rfl,by decide +kernel,rfl,by decide +kernel,by decide +kernel⟩
abbrev s_law_lowest:Stmt:=top 63
theorem sc_law_lowest:FnScope ["_law_top", "_law_bottom", "_law_many"] ["_law_top", "_law_bottom"] (defScope s_law_lowest):=⟨rfl,rfl,rfl,by decide +kernel,rfl,by decide +kernel,by decide +kernel⟩
abbrev s_law_figures:Stmt:=top 64
theorem sc_law_figures:FnScope ["_law_number", "_law_base", "_law_found"] ["_law_number", "_law_base"] (defScope s_law_figures):=⟨rfl,rfl,rfl,by decide +kernel,rfl,by decide +kernel,by decide +kernel⟩
abbrev s_law_body:Stmt:=top 65
theorem sc_law_body:FnScope ["_law_steps_here", "_law_spec_here", "_law_places", "_law_base", "_law_size", "_law_mark", "_law_point", "_law_step", "_law_figures_here", "_law_whole_here", "_law_k", "_law_rest"] ["_law_steps_here", "_law_spec_here"] (defScope s_law_body):=⟨rfl,rfl,rfl,by decide +kernel,rfl,by decide +kernel,by decide +kernel⟩
abbrev s_law_parts:Stmt:=top 66
theorem sc_law_parts:FnScope ["_law_steps_here", "_law_spec_here", "_law_body_here"] ["_law_steps_here", "_law_spec_here"] (defScope s_law_parts):=⟨rfl,rfl,rfl,by decide +kernel,rfl,by decide +kernel,by decide +kernel⟩
abbrev s_law_filled:Stmt:=top 67
theorem sc_law_filled:FnScope ["_law_lead", "_law_rest", "_law_spec_here", "_law_width", "_law_fill", "_law_side", "_law_lacks", "_law_ahead"] ["_law_lead", "_law_rest", "_law_spec_here"] (defScope s_law_filled):=⟨rfl,rfl,rfl,by decide +kernel,rfl,by decide +kernel,by decide +kernel⟩
abbrev s_law_word_spec:Stmt:=top 68
theorem sc_law_word_spec:FnScope ["_law_cell", "_law_other", "_law_small", "_law_start", "_law_step", "_law_signs_here", "_law_least", "_law_most", "_law_fill", "_law_width", "_law_side"] ["_law_cell", "_law_other", "_law_small"] (defScope s_law_word_spec):=⟨rfl,rfl,rfl,by decide +kernel,rfl,by decide +kernel,by decide +kernel⟩
abbrev s_law_names:Stmt:=top 69
theorem sc_law_names:FnScope ["_law_cell", "_law_many", "_law_signs_here", "_law_base", "_law_way", "_law_at", "_law_size", "_law_step", "_law_found", "_law_k", "_law_sign_here", "_law_turn"] ["_law_cell", "_law_many"] (defScope s_law_names):=⟨rfl,rfl,rfl,by decide +kernel,rfl,by decide +kernel,by decide +kernel⟩
abbrev s_law_choice_spec:Stmt:=top 70
theorem sc_law_choice_spec:FnScope ["_law_cell", "_law_other", "_law_small", "_law_names_here", "_law_fill", "_law_width", "_law_side"] ["_law_cell", "_law_other", "_law_small"] (defScope s_law_choice_spec):=⟨rfl,rfl,rfl,by decide +kernel,rfl,by decide +kernel,by decide +kernel⟩
abbrev s_law_great:Stmt:=top 71
theorem sc_law_great:FnScope ["_law_cell", "_law_at", "_law_limit", "_law_one"] ["_law_cell", "_law_at", "_law_limit"] (defScope s_law_great):=⟨rfl,rfl,rfl,by decide +kernel,rfl,by decide +kernel,by decide +kernel⟩
abbrev s_law_steps:Stmt:=top 72
theorem sc_law_steps:FnScope ["_law_cell", "_law_limit", "_law_way", "_law_number"] ["_law_cell", "_law_limit"] (defScope s_law_steps):=⟨rfl,rfl,rfl,by decide +kernel,rfl,by decide +kernel,by decide +kernel⟩
abbrev s_law_word:Stmt:=top 73
theorem sc_law_word:FnScope ["_law_cell", "_law_signs_here", "_law_size"] ["_law_cell", "_law_signs_here", "_law_size"] (defScope s_law_word):=⟨rfl,rfl,rfl,by decide +kernel,rfl,by decide +kernel,by decide +kernel⟩
abbrev s_law_spec:Stmt:=top 74
theorem sc_law_spec:FnScope ["_law_script", "_law_small", "_law_kind", "_law_one", "_law_other"] ["_law_script", "_law_small"] (defScope s_law_spec):=⟨rfl,rfl,rfl,by decide +kernel,rfl,by decide +kernel,by decide +kernel⟩
abbrev s_law_form:Stmt:=top 75
theorem sc_law_form:FnScope ["_law_spec_here"] ["_law_spec_here"] (defScope s_law_form):=⟨rfl,rfl,rfl,by decide +kernel,rfl,by decide +kernel,by decide +kernel⟩
abbrev s_law_parts_of:Stmt:=top 76
theorem sc_law_parts_of:FnScope ["_law_value_here", "_law_spec_here"] ["_law_value_here", "_law_spec_here"] (defScope s_law_parts_of):=⟨rfl,rfl,rfl,by decide +kernel,rfl,by decide +kernel,by decide +kernel⟩
abbrev s_law_text:Stmt:=top 77
theorem sc_law_text:FnScope ["_law_value_here", "_law_spec_here", "_law_lead", "_law_rest"] ["_law_value_here", "_law_spec_here"] (defScope s_law_text):=⟨rfl,rfl,rfl,by decide +kernel,rfl,by decide +kernel,by decide +kernel⟩
abbrev s_law_value:Stmt:=top 78
theorem sc_law_value:FnScope ["_law_cell", "_law_spec_here", "_law_step"] ["_law_cell", "_law_spec_here"] (defScope s_law_value):=⟨rfl,rfl,rfl,by decide +kernel,rfl,by decide +kernel,by decide +kernel⟩
abbrev s_law_word_of:Stmt:=top 79
theorem sc_law_word_of:FnScope ["_law_e", "_law_kinds"] ["_law_e"] (defScope s_law_word_of):=⟨rfl,rfl,rfl,by decide +kernel,rfl,by decide +kernel,by decide +kernel⟩
abbrev s_law_answer:Stmt:=top 80
theorem sc_law_answer:FnScope ["_law_form_here", "_law_way", "_law_value_here", "_law_found", "_law_e"] ["_law_form_here", "_law_way", "_law_value_here"] (defScope s_law_answer):=⟨rfl,rfl,rfl,by decide +kernel,rfl,by decide +kernel,by decide +kernel⟩
abbrev s_law_odd:Stmt:=top 81
theorem sc_law_odd:FnScope ["_law_cell", "_law_spec_here", "_law_some"] ["_law_cell", "_law_spec_here"] (defScope s_law_odd):=⟨rfl,rfl,rfl,by decide +kernel,rfl,by decide +kernel,by decide +kernel⟩
abbrev s_law_too_great:Stmt:=top 82
theorem sc_law_too_great:FnScope ["_law_cell", "_law_spec_here", "_law_step", "_law_limit", "_law_more"] ["_law_cell", "_law_spec_here"] (defScope s_law_too_great):=⟨rfl,rfl,rfl,by decide +kernel,rfl,by decide +kernel,by decide +kernel⟩
abbrev s_law:Stmt:=top 83
theorem sc_law:FnScope ["_law_script", "_law_spec_here", "_law_form_here", "_law_k", "_law_cell", "_law_value_here", "_law_text_here", "_law_due", "_law_odd_here", "_law_way", "_law_great_here"] ["_law_script"] (defScope s_law):=⟨rfl,rfl,rfl,by decide +kernel,rfl,by decide +kernel,by decide +kernel⟩
structure Blt (mg:Str→Option Value):Prop where
 z_len:mg "len" = none
 z_range:mg "range" = none
 z_isinstance:mg "isinstance" = none
 z_str:mg "str" = none
 z_max:mg "max" = none
 z_min:mg "min" = none
 z_int:mg "int" = none
 z_bool:mg "bool" = none
 z_abs:mg "abs" = none
 z_list:mg "list" = none
 z_tuple:mg "tuple" = none
 z_all:mg "all" = none
 z_sum:mg "sum" = none
 z_ValueError:mg "ValueError" = none
section
variable {P : Program} {w : World} {K : W.Frag} {mg : Str → Option Value} {base : Heap}
local macro_rules | `(tactic| walk_at "sd")=>`(tactic| first | omega | (unfold CPos;omega) | (unfold CNn;omega) | (unfold CNz;omega) | (unfold CDivB GL;omega) | (unfold CDivS GL;omega) | (unfold CMulA CMul CMulB GL;omega))
local macro_rules | `(tactic| walk_at "hp")=>`(tactic| first | assumption | (refine Same.at (by assumption) ?_;walk_at "hp") | exact upd_same)
local macro_rules | `(tactic| walk_at "sq")=>`(tactic| first | assumption | (refine Same.seq (by assumption) ?_;walk_at "sq") | exact SqL.of (by walk_at "hp"))
local macro_rules | `(tactic| walk_at "sm")=>`(tactic| first | assumption | exact Same.refl _ | (refine Same.trans ?_ (by assumption);walk_at "sm"))
local macro_rules | `(tactic| walk_at "rdc")=>`(tactic| fail "no callee")
local macro_rules | `(tactic| walk_at "rd1")=>`(tactic| first
 | (with_reducible refine r_seq ?_)
 | (with_reducible refine r_asg ?_)
 | (with_reducible refine r_ifS ?_)
 | (with_reducible refine r_ret ?_)
 | (with_reducible refine r_next ?_)
 | (with_reducible refine r_name ?_)
 | ((with_reducible refine' r_var ?e ?_);(case e=>rfl))
 | (with_reducible refine r_c ?_)
 | (with_reducible refine r_op ?_)
 | (with_reducible refine r_I0 ?_)
 | ((with_reducible refine' r_I ?hc ?_);(case hc=>walk_at "sd"))
 | (with_reducible refine r_test ?_)
 | (with_reducible refine r_tB ?_)
 | (with_reducible refine r_exbl ?_)
 | (with_reducible refine r_eqI ?_)
 | (with_reducible refine r_neI ?_)
 | (with_reducible refine iteT ?_)
 | (with_reducible refine iteF ?_)
 | (with_reducible refine i_nT ?_)
 | (with_reducible refine i_nF ?_)
 | ((with_reducible refine' i_dP ?hc ?_);(case hc=>omega))
 | ((with_reducible refine' i_dN ?hc ?_);(case hc=>omega))
 | ((with_reducible refine' i_ndP ?hc ?_);(case hc=>omega))
 | ((with_reducible refine' i_ndN ?hc ?_);(case hc=>omega))
 | (with_reducible refine i_d (fun hc=>?_) (fun hc=>?_))
 | (with_reducible refine i_nd (fun hc=>?_) (fun hc=>?_))
 | (with_reducible refine i_b (fun hc=>?_) (fun hc=>?_))
 | (with_reducible refine r_cons ?_)
 | (with_reducible refine r_nil ?_)
 | (with_reducible refine r_call ?_)
 | (with_reducible refine r_cb ?_)
 | (with_reducible refine r_un ?_)
 | (with_reducible refine r_U ?_)
 | (with_reducible refine r_and ?_)
 | (with_reducible refine r_or ?_)
 | (with_reducible refine r_not ?_)
 | (with_reducible refine r_andV ?_)
 | (with_reducible refine r_orV ?_)
 | (with_reducible refine r_notV ?_)
 | (with_reducible refine r_chain ?_)
 | (with_reducible refine r_tup ?_)
 | (with_reducible refine r_lst ?_)
 | ((with_reducible refine' r_kTup ?hz ?_);(case hz=>exact small (by simp only [List.length_cons,List.length_nil];decide));intro p' H' g' e')
 | ((with_reducible refine' r_ixT ?h ?e ?_);(case h=>walk_at "hp");(case e=>rfl))
 | ((with_reducible refine' r_ix2 ?h ?hi (fun hi'=>?_) (fun hi'=>?_));(case h=>walk_at "hp");(case hi=>omega))
 | (with_reducible refine r_absA (fun k' hk'=>?_))
 | (with_reducible refine r_max2A (fun k' hk'=>?_))
 | (with_reducible refine r_min2A (fun k' hk'=>?_))
 | (with_reducible refine r_int1b ?_)
 | ((with_reducible refine' r_lenT2 ?h ?_);(case h=>walk_at "hp"))
 | ((with_reducible refine' r_lenT ?h ?_);(case h=>walk_at "hp"))
 | ((with_reducible refine' r_lenL ?h ?_);(case h=>walk_at "sq"))
 | (with_reducible refine r_par ?_)
 | (with_reducible refine r_two ?_)
 | (with_reducible refine r_exN ?_)
 | (with_reducible refine r_forR ?_)
 | ((with_reducible refine' r_gTup ?h ?n ?_);(case h=>walk_at "hp");(case n=>rfl))
 | (with_reducible refine r_gCons ?_)
 | (with_reducible refine r_gNil ?_)
 | (with_reducible refine r_drop ?_)
 | walk_at "rdc"
 | fail "rd stops")
local macro_rules | `(tactic| walk_at "rd")=>`(tactic| repeat' walk_at "rd1")
local macro_rules | `(tactic| walk_at "st")=>`(tactic| dsimp only [L2.start,List.map,List.length,List.replicate,List.append,HAppend.hAppend,Append.append,Nat.reduceAdd,Nat.reduceSub])
local macro_rules | `(tactic| walk_at "rdc")=>`(tactic| first
 | (with_reducible refine r_slice ?_)
 | (with_reducible refine r_noPart ?_)
 | (with_reducible refine r_part ?_)
 | (with_reducible refine r_exint ?_)
 | (with_reducible refine r_compR ?_)
 | (with_reducible refine r_noIf ?_)
 | ((with_reducible refine' r_eqS (b:=true) ?e ?_);(case e=>exact decide_eq_true rfl))
 | ((with_reducible refine' r_eqS (b:=false) ?e ?_);(case e=>exact (by decide +kernel)))
 | fail "rd2 stops")
local macro_rules | `(tactic| walk_at "odd")=>`(tactic| first | assumption | exact .non | exact .bl _ | exact .str _ | exact .lst (by walk_at "hp") | exact .tup (by walk_at "hp") | exact .dct (by walk_at "hp") | (refine Odd.same ?_ (by assumption);walk_at "odd"))
local macro_rules | `(tactic| walk_at "rdc")=>`(tactic| first
 | (with_reducible refine r_isiO_int (kit_int_int _) ?_)
 | (with_reducible refine r_isiO_int (kit_int_bool _) ?_)
 | (with_reducible refine r_isiO_int (kit_int_tuple _) ?_)
 | (with_reducible refine r_isiO_bl (kit_bool_int _) ?_)
 | (with_reducible refine r_isiO_bl (kit_bool_bool _) ?_)
 | (with_reducible refine r_isiO_bl (kit_bool_tuple _) ?_)
 | (with_reducible refine r_isiO_str (kit_str_int _) ?_)
 | (with_reducible refine r_isiO_str (kit_str_tuple _) ?_)
 | (with_reducible refine r_isiO_non (kit_NoneType_int _) ?_)
 | (with_reducible refine r_isiO_non (kit_NoneType_tuple _) ?_)
 | ((with_reducible refine' r_isiO_lst ?h (kit_list_int _) ?_);(case h=>walk_at "hp"))
 | ((with_reducible refine' r_isiO_lst ?h (kit_list_tuple _) ?_);(case h=>walk_at "hp"))
 | ((with_reducible refine' r_isiO_tup ?h (kit_tuple_int _) ?_);(case h=>walk_at "hp"))
 | ((with_reducible refine' r_isiO_tup ?h (kit_tuple_tuple _) ?_);(case h=>walk_at "hp"))
 | ((with_reducible refine' r_isiO_dct ?h (kit_dict_int _) ?_);(case h=>walk_at "hp"))
 | ((with_reducible refine' r_isiO_dct ?h (kit_dict_tuple _) ?_);(case h=>walk_at "hp"))
 | (with_reducible refine r_raise ?_)
 | ((with_reducible refine r_dct ?_);intro p' H' g' e')
 | (with_reducible refine r_bmL ?_)
 | ((with_reducible refine' r_tyLL ?h ?_);(case h=>walk_at "sq"))
 | fail "rd3 stops")
local macro_rules | `(tactic| walk_at "tl")=>`(tactic| first | omega | (simp only [Lt_T,List.length_append,List.length_replicate,List.length_cons,List.length_nil,List.length_take,List.length_drop];omega) | (with_unfolding_all decide))
local macro_rules | `(tactic| walk_at "rdc")=>`(tactic| first
 | ((with_reducible refine' rTT_add ?hz ?_);(case hz=>walk_at "tl"))
 | ((with_reducible refine' rT_add ?hz ?_);(case hz=>walk_at "tl"))
 | ((with_reducible refine' rTT_len ?hz ?_);(case hz=>walk_at "tl"))
 | ((with_reducible refine' rT_len ?hz ?_);(case hz=>walk_at "tl"))
 | ((with_reducible refine' rT_ixK (z:=Str.ofString _) 94 ?hn ?hz ?h0 ?h1 ?_);(case hn=>decide +kernel);(case hz=>decide);(case h0=>omega);(case h1=>omega);intro c' hc')
 | ((with_reducible refine' rT_ixK (z:=Str.ofString _) 16 ?hn ?hz ?h0 ?h1 ?_);(case hn=>decide +kernel);(case hz=>decide);(case h0=>omega);(case h1=>omega);intro c' hc')
 | ((with_reducible refine' rT_ixK (z:=Str.ofString _) 8 ?hn ?hz ?h0 ?h1 ?_);(case hn=>decide +kernel);(case hz=>decide);(case h0=>omega);(case h1=>omega);intro c' hc')
 | ((with_reducible refine' rT_ixK (z:=Str.ofString _) 32 ?hn ?hz ?h0 ?h1 ?_);(case hn=>decide +kernel);(case hz=>decide);(case h0=>omega);(case h1=>omega);intro c' hc')
 | ((with_reducible refine' rT_ixK (z:=Str.ofString _) 13 ?hn ?hz ?h0 ?h1 ?_);(case hn=>decide +kernel);(case hz=>decide);(case h0=>omega);(case h1=>omega);intro c' hc')
 | ((with_reducible refine' rT_ixK (z:=Str.ofString _) 17 ?hn ?hz ?h0 ?h1 ?_);(case hn=>decide +kernel);(case hz=>decide);(case h0=>omega);(case h1=>omega);intro c' hc')
 | ((with_reducible refine' rT_ixK (z:=Str.ofString _) 5 ?hn ?hz ?h0 ?h1 ?_);(case hn=>decide +kernel);(case hz=>decide);(case h0=>omega);(case h1=>omega);intro c' hc')
 | ((with_reducible refine' rTT_ix ?hz ?h0 ?h1 ?_);(case hz=>walk_at "tl");(case h0=>omega);(case h1=>walk_at "tl"))
 | ((with_reducible refine' rT_ix ?hz ?h0 ?h1 ?_);(case hz=>walk_at "tl");(case h0=>omega);(case h1=>walk_at "tl"))
 | ((with_reducible refine' rTT_ixL ?hz ?h1 ?_);(case hz=>walk_at "tl");(case h1=>walk_at "tl"))
 | ((with_reducible refine' rTT_sl0 ?hz ?h0 ?_);(case hz=>walk_at "tl");(case h0=>omega))
 | ((with_reducible refine' rTT_sli ?hz ?h0 ?_);(case hz=>walk_at "tl");(case h0=>omega))
 | ((with_reducible refine' rTT_slij ?hz ?h0 ?h1 ?_);(case hz=>walk_at "tl");(case h0=>omega);(case h1=>omega))
 | ((with_reducible refine' rT_mul1 ?h0 ?h1 ?_);(case h0=>omega);(case h1=>omega))
 | ((with_reducible refine' r_eqS (b:=true) ?e ?_);(case e=>exact decide_eq_true rfl))
 | ((with_reducible refine' r_eqS (b:=false) ?e ?_);(case e=>exact (by decide +kernel)))
 | ((with_reducible refine' r_neS (b:=true) ?e ?_);(case e=>exact decide_eq_true rfl))
 | ((with_reducible refine' r_neS (b:=false) ?e ?_);(case e=>exact (by decide +kernel)))
 | (with_reducible refine rTT_eq ?_)
 | (with_reducible refine rTT_ne ?_)
 | (with_reducible refine r_eqT2 ?_)
 | (with_reducible refine r_neT2 ?_)
 | (with_reducible refine r_bmL ?_)
 | (with_reducible refine r_tyS ?_)
 | fail "rd4 stops")
local macro_rules | `(tactic| walk_at "rdc")=>`(tactic| first
 | ((with_reducible refine' r_eqS (x:=T _) (b:=true) ?e ?_);(case e=>exact decide_eq_true rfl))
 | (with_reducible refine rTT_eq ?_)
 | ((with_reducible refine' r_neS (x:=T _) (b:=true) ?e ?_);(case e=>exact decide_eq_true rfl))
 | (with_reducible refine rTT_ne ?_)
 | fail "rd5 stops")
local macro_rules | `(tactic| walk_at "rdc")=>`(tactic| first
 | (with_reducible refine r_bm0 ?_)
 | ((with_reducible refine' r_ixTs ?h ?h0 ?h1 ?_);(case h=>walk_at "sq");(case h0=>omega);(case h1=>omega))
 | fail "rd6 stops")
local macro_rules | `(tactic| walk_at "asc")=>`(tactic| first | assumption | exact Asc.nil | exact Asc.one (by omega) | exact Asc.app (by walk_at "asc") (by walk_at "asc") | exact Asc.take (by walk_at "asc") _ | exact Asc.drop (by walk_at "asc") _ | exact Asc.rep (by walk_at "asc") _)
local macro_rules | `(tactic| walk_at "rdc")=>`(tactic| first
 | (with_reducible refine r_isNN ?_)
 | (with_reducible refine r_isNS ?_)
 | (with_reducible refine r_isiO_str (kit_str_str _) ?_)
 | ((with_reducible refine' r_isi_nt ?h ?_);(case h=>assumption))
 | fail "rd7 stops")
local macro_rules | `(tactic| walk_at "rdc")=>`(tactic| first
 | (with_reducible refine r_forR2 ?_)
 | fail "rd8 stops")
local macro_rules | `(tactic| walk_at "sqt")=>`(tactic| first | assumption | exact SqT.same (by assumption) (by assumption) | exact SqT.same (SqT.same (by assumption) (by assumption)) (by assumption) | exact SqT.of (by walk_at "hp"))
local macro_rules | `(tactic| walk_at "rdc")=>`(tactic| first
 | ((with_reducible refine' r_ixQ ?h ?e ?_);(case h=>walk_at "sqt");(case e=>rfl))
 | ((with_reducible refine' r_neQt ?h1 ?h2 ?_);(case h1=>walk_at "sqt");(case h2=>walk_at "sqt"))
 | fail "rd9 stops")
local macro_rules | `(tactic| walk_at "rdc")=>`(tactic| first
 | (with_reducible refine r_forT ?_)
 | ((with_reducible refine' r_inF ?h ?_);(case h=>first | assumption | omega))
 | (with_reducible refine rTT_slE ?_)
 | fail "rd10 stops")
local macro_rules | `(tactic| walk_at "rdc")=>`(tactic| first
 | ((with_reducible refine' r_rjT ?h0 ?h1 ?_);(case h0=>omega);(case h1=>omega))
 | fail "rd11 stops")
local macro_rules | `(tactic| walk_at "rdc")=>`(tactic| first
 | ((with_reducible refine' r_ninTs ?h ?_);(case h=>walk_at "sq"))
 | ((with_reducible refine' r_ixTsL ?h ?h0 ?_);(case h=>walk_at "sq");(case h0=>omega))
 | ((with_reducible refine' r_listOf ?h ?_);(case h=>walk_at "sq");intro l' H' g' n' e')
 | ((with_reducible refine' r_tyLL ?h ?_);(case h=>walk_at "sq"))
 | (with_reducible refine r_bm0 ?_)
 | fail "rd12 stops")
local macro_rules | `(tactic| walk_at "rdc")=>`(tactic| first
 | (with_reducible refine r_sl3 ?_)
 | fail "rd13 stops")
local macro_rules | `(tactic| walk_at "fm")=>`(tactic| first | assumption | (refine' FormAt.same (by assumption) ?_;walk_at "fm"))
local macro_rules | `(tactic| walk_at "fld2")=>`(tactic| fail "no own field")
local macro_rules | `(tactic| walk_at "fld")=>`(tactic| first | (exact FormAt.width (by walk_at "fm")) | (exact FormAt.fill (by walk_at "fm")) | (exact FormAt.side (by walk_at "fm")) | (exact FormAt.strict (by walk_at "fm")) | walk_at "fld2")
local macro_rules | `(tactic| walk_at "wk")=>`(tactic| repeat (first | exact Wk.nil | refine Wk.one ?_ | refine Wk.any ?_))
local macro_rules | `(tactic| walk_at "rdc")=>`(tactic| first
 | (with_reducible refine r_fld ?_)
 | (with_reducible refine r_raise ?_)
 | ((with_reducible refine' r_kFld ?h ?_);(case h=>walk_at "fld"))
 | (with_reducible refine r_meth ?_)
 | ((with_reducible refine' r_kMeth ?h ?_);(case h=>walk_at "ins"))
 | (with_reducible refine r_methT ?_)
 | ((with_reducible refine' r_wk ?h ?_);(case h=>walk_at "wk"))
 | (with_reducible refine r_sFld ?_)
 | (with_reducible refine r_make ?_)
 | (with_reducible refine r_par3 ?_)
 | (with_reducible refine r_three ?_)
 | (with_reducible refine r_compS ?_)
 | (with_reducible refine r_inTx ?_)
 | ((with_reducible refine' r_all ?h ?_);(case h=>walk_at "sq"))
 | fail "rd14 stops")
local macro_rules | `(tactic| walk_at "rd1")=>`(tactic| first | ((with_reducible refine' r_ixL ?h ?e ?_);(case h=>walk_at "sq");(case e=>rfl)) | fail "no written place")
def lowS (t b:Int):Int:=if b < 0 then -(Int.gcd t b:Int) else (Int.gcd t b:Int)
def low1 (t b:Int):Int:=t.fdiv (lowS t b)
def low2 (t b:Int):Int:=b.fdiv (lowS t b)
theorem gcd_turn {g l:Int} (hg:0≤g) (hl:0 < l):Int.gcd l (g % l)=Int.gcd g l:=by
 rw [Int.gcd_comm g l]
 have e:g % l=g+l*(-(g / l)):=by
  have:=Int.emod_add_mul_ediv g l
  rw [Int.mul_neg];omega
 rw [e,Int.gcd_add_mul_left_right]
theorem lowS_dvd1 (t b:Int):lowS t b ∣ t:=by
 unfold lowS;split
 ·exact (Int.neg_dvd).mpr (Int.gcd_dvd_left ..)
 ·exact Int.gcd_dvd_left ..
theorem lowS_dvd2 (t b:Int):lowS t b ∣ b:=by
 unfold lowS;split
 ·exact (Int.neg_dvd).mpr (Int.gcd_dvd_right ..)
 ·exact Int.gcd_dvd_right ..
theorem lowS_pos {t b:Int} (h:0 < b):0 < lowS t b:=by
 unfold lowS;rw [if_neg (by omega)]
 have:0 < Int.gcd t b:=Int.gcd_pos_of_ne_zero_right _ (by omega)
 omega
theorem low_mul1 (t b:Int):low1 t b*lowS t b=t:=by
 unfold low1;exact Int.fdiv_mul_cancel (lowS_dvd1 t b)
theorem low_mul2 (t b:Int):low2 t b*lowS t b=b:=by
 unfold low2;exact Int.fdiv_mul_cancel (lowS_dvd2 t b)
theorem low2_pos {t b:Int} (h:0 < b):0 < low2 t b:=by
 have h1:=lowS_pos (t:=t) h
 have h2:=low_mul2 t b
 rcases Int.lt_trichotomy 0 (low2 t b) with h3 | h3 | h3
 ·exact h3
 ·rw [← h3] at h2;simp at h2;omega
 ·have:=Int.mul_neg_of_neg_of_pos h3 h1;omega
theorem low2_le {t b:Int} (h:0 < b):low2 t b≤b:=by
 have h1:=lowS_pos (t:=t) h
 have h2:=low_mul2 t b
 have h3:=low2_pos (t:=t) h
 have:=Int.mul_le_mul_of_nonneg_left (show 1≤lowS t b by omega) (Int.le_of_lt h3)
 omega
theorem low1_bd {t b L:Int} (h:0 < b) (h1 : -L < t) (h2:t < L) : -L < low1 t b∧low1 t b < L:=by
 have h3:=lowS_pos (t:=t) h
 have h4:=low_mul1 t b
 rcases Int.lt_or_le (low1 t b) 0 with h5 | h5
 ·have:=Int.mul_le_mul_of_nonneg_left (show 1≤lowS t b by omega) (show 0 ≤ -low1 t b by omega)
  simp only [Int.neg_mul,Int.mul_one] at this;omega
 ·have:=Int.mul_le_mul_of_nonneg_left (show 1≤lowS t b by omega) h5
  omega
theorem low_bd {t b L:Int} (h:0 < b) (h':b < L) (h1 : -L < t) (h2:t < L) : -L < low1 t b∧low1 t b < L∧0 < low2 t b∧low2 t b < L:=by
 have a1:=low1_bd h h1 h2
 have a2:=low2_pos (t:=t) h
 have a3:=low2_le (t:=t) h
 exact ⟨a1.1,a1.2,a2,by omega⟩
theorem gcd_abs {a b g l:Int} (h1:(0≤a∧g=a)∨(a < 0∧g = -a)) (h2:(0≤b∧l=b)∨(b < 0∧l = -b)):0≤g∧0≤l∧Int.gcd g l=Int.gcd a b:=by
 rcases h1 with ⟨h,rfl⟩ | ⟨h,rfl⟩ <;> rcases h2 with ⟨h',rfl⟩ | ⟨h',rfl⟩ <;> simp only [Int.gcd_neg,Int.neg_gcd,and_true] <;> omega
theorem mul_bd {x y L M:Int} (h1 : -L < x) (h2:x < L) (h3:0 < y) (h4:y < M) : -(L*M) < x*y∧x*y < L*M:=by
 have hL:0 < L:=by omega
 have hM:0 < M:=by omega
 have e : ∀ z:Int,0≤z→z < L→z*y < L*M:=fun z p q =>
  Int.lt_of_le_of_lt (Int.mul_le_mul_of_nonneg_right (Int.le_of_lt q) (Int.le_of_lt h3)) (Int.mul_lt_mul_of_pos_left h4 hL)
 rcases Int.lt_or_le x 0 with p | p
 ·have a1:=e (-x) (by omega) (by omega)
  have a2:=Int.mul_pos hL hM
  have a3:=Int.mul_nonneg (show 0 ≤ -x by omega) (Int.le_of_lt h3)
  rw [Int.neg_mul] at a1 a3;omega
 ·have a1:=e x p h2
  have a2:=Int.mul_pos hL hM
  have a3:=Int.mul_nonneg p (Int.le_of_lt h3)
  omega
def GrB (a b:Int):Prop:=-10000000000000000000000000000000000000000000000000000000000000000000000000000000000000000000000000000000000000000000000000000000000000000000000000000000000000000000000000000000000000000000000 < a∧a < 10000000000000000000000000000000000000000000000000000000000000000000000000000000000000000000000000000000000000000000000000000000000000000000000000000000000000000000000000000000000000000000000∧0 < b∧b < 10000000000000000000000000000000000000000000000000000000000000000000000000000000000000000000000000000000000000000000000000000000000000000000000000000000000000000000000000000000000000000000000
def Way (w:Str):Prop:=w = "down" ∨ w = "up" ∨ w = "cut" ∨ w = "near" ∨ w = "even"
def upB (w:Str) (be re bo:Int):Bool:=if w = "down" then false else if w = "up" then true else if w = "cut" then decide (be < 0) else if 2*re=bo then (decide (w = "near") || decide (be % 2=1)) else decide (2*re > bo)
def grid (w:Str) (a b P:Int):Int:=if 0 < a*P % b∧upB w (a*P / b) (a*P % b) b=true then a*P / b+1 else a*P / b
theorem up_down {be re bo:Int}:upB "down" be re bo=false:=by unfold upB;rw [if_pos rfl]
theorem up_up {be re bo:Int}:upB "up" be re bo=true:=by unfold upB;rw [if_neg (by decide +kernel),if_pos rfl]
theorem up_cut {be re bo:Int}:upB "cut" be re bo=decide (be < 0):=by unfold upB;rw [if_neg (by decide +kernel),if_neg (by decide +kernel),if_pos rfl]
theorem up_near {be re bo:Int} (h:2*re=bo):upB "near" be re bo=true:=by unfold upB;rw [if_neg (by decide +kernel),if_neg (by decide +kernel),if_neg (by decide +kernel),if_pos h,decide_eq_true rfl];rfl
theorem up_near' {be re bo:Int} (h : ¬ 2*re=bo):upB "near" be re bo=decide (2*re > bo):=by unfold upB;rw [if_neg (by decide +kernel),if_neg (by decide +kernel),if_neg (by decide +kernel),if_neg h]
theorem up_even {be re bo:Int} (h:2*re=bo):upB "even" be re bo=decide (be % 2=1):=by unfold upB;rw [if_neg (by decide +kernel),if_neg (by decide +kernel),if_neg (by decide +kernel),if_pos h,decide_eq_false (by decide +kernel)];rfl
theorem up_even' {be re bo:Int} (h : ¬ 2*re=bo):upB "even" be re bo=decide (2*re > bo):=by unfold upB;rw [if_neg (by decide +kernel),if_neg (by decide +kernel),if_neg (by decide +kernel),if_neg h]
theorem pw_bd {b : Int} (h1 : 2 ≤ b) (h2 : b ≤ 16) : ∀ n : Nat, 1 ≤ b ^ n ∧ b ^ n ≤ 16 ^ n
  | 0 => by simp
  | n + 1 => by
    obtain ⟨p, q⟩ := pw_bd h1 h2 n
    rw [Int.pow_succ, Int.pow_succ]
    have a1 := Int.mul_le_mul p (show 1 ≤ b by omega) (by decide) (by omega)
    have a2 := Int.mul_le_mul q h2 (by omega) (by omega)
    omega
theorem pw_mono {n m : Nat} (h : n ≤ m) : (16 : Int) ^ n ≤ 16 ^ m := by
  induction h with
  | refl => exact Int.le_refl _
  | step h ih =>
    rename_i m
    have := (pw_bd (b := 16) (by decide) (by decide) m).1
    rw [Int.pow_succ]; omega
theorem pw6 {b t:Int} (h1:2≤b) (h2:b≤16) (h3:t≤6):1≤b ^ t.toNat∧b ^ t.toNat≤16777216:=by
 have a:=pw_bd h1 h2 t.toNat
 have b:=pw_mono (n:=t.toNat) (m:=6) (by omega)
 have c:(16:Int) ^ 6=16777216:=by decide
 omega
theorem pw60 {b:Int} {n:Nat} (h1:2≤b) (h2:b≤16) (h3:n≤60):1≤b ^ n∧b ^ n≤1766847064778384329583297500742918515827483896875618958121606201292619776:=by
 have a:=pw_bd h1 h2 n
 have b:=pw_mono (n:=n) (m:=60) (by omega)
 have c:(16:Int) ^ 60=1766847064778384329583297500742918515827483896875618958121606201292619776:=by decide +kernel
 omega
theorem fl_bd (t:Int) {b:Int} (h:0 < b):t / b*b≤t∧t < (t / b+1)*b∧t / b*b=t - t % b∧0≤t % b∧t % b < b:=by
 have e:=Int.emod_add_mul_ediv t b
 have m0:=Int.emod_nonneg t (show b≠0 by omega)
 have m1:=Int.emod_lt_of_pos t h
 rw [Int.add_mul,Int.one_mul,Int.mul_comm (t / b) b]
 omega
def sp_power_of (K:W.Frag):Sp:=fun vs H Q _=>∃ b t:Int,vs=[.int b,.int t]∧2≤b∧b≤16∧0≤t∧t≤60∧Q (.int (b ^ t.toNat)) H
theorem c_power_of {K:W.Frag} {b t:Int} {H:Hp} {Q:VK} {E:XK} (h1:2≤b) (h2:b≤16) (h3:0≤t) (h4:t≤60) (q:Q (.int (b ^ t.toNat)) H):sp_power_of K ([.int b,.int t]++[]) H Q E:=⟨b,t,rfl,h1,h2,h3,h4,q⟩
def sp_goes_up (K:W.Frag):Sp:=fun vs H Q _=>∃ (be re bo:Int) (w:Str),vs=[.int be,.int re,.int bo,.str w]∧Way w∧0≤re∧re < 10000000000000000000000000000000000000000000000000000000000000000000000000000000000000000000000000000000000000000000000000000000000000000000000000000000000000000000000000000000000000000000000∧Q (.bl (upB w be re bo)) H
theorem c_goes_up {K:W.Frag} {be re bo:Int} {w:Str} {H:Hp} {Q:VK} {E:XK} (h1:Way w) (h2:0≤re) (h3:re < 10000000000000000000000000000000000000000000000000000000000000000000000000000000000000000000000000000000000000000000000000000000000000000000000000000000000000000000000000000000000000000000000) (q:Q (.bl (upB w be re bo)) H):sp_goes_up K ([.int be,.int re,.int bo,.str w]++[]) H Q E:=⟨be,re,bo,w,rfl,h1,h2,h3,q⟩
def sp_gridded (K:W.Frag):Sp:=fun vs H Q _=>∃ (p:Addr) (a b B t:Int) (w:Str),vs=[.ref p,.int B,.int t,.str w]∧H p=some (.tup [.int a,.int b])∧GrB a b∧2≤B∧B≤16∧0≤t∧t≤6∧Way w∧Q (.int (grid w a b (B ^ t.toNat))) H
theorem c_gridded {K:W.Frag} {p:Addr} {a b B t:Int} {w:Str} {H:Hp} {Q:VK} {E:XK} (h1:H p=some (.tup [.int a,.int b])) (h2:GrB a b) (h3:2≤B) (h4:B≤16) (h5:0≤t) (h6:t≤6) (h7:Way w) (q:Q (.int (grid w a b (B ^ t.toNat))) H):sp_gridded K ([.ref p,.int B,.int t,.str w]++[]) H Q E:=⟨p,a,b,B,t,w,rfl,h1,h2,h3,h4,h5,h6,h7,q⟩
def sp_law_cell_at (K:W.Frag):Sp:=fun vs H Q _=>∃ (a:Addr) (ns:List Int) (k:Int),vs=[.ref a,.int k]∧SqL K H a (ns.map V.int)∧0≤k ∧ ∀ v:Int,Q (.int v) H
theorem c_cell {K:W.Frag} {a:Addr} {ns:List Int} {k:Int} {H:Hp} {Q:VK} {E:XK} (h1:SqL K H a (ns.map V.int)) (h2:0≤k) (q : ∀ v:Int,Q (.int v) H):sp_law_cell_at K ([.ref a,.int k]++[]) H Q E:=⟨a,ns,k,rfl,h1,h2,q⟩
def sp_law_pick (K:W.Frag):Sp:=fun vs H Q _=>∃ c t m:Int,vs=[.int c,.int t,.int m]∧0≤t∧0 < m ∧ ∀ v:Int,0≤v→v < m→Q (.int v) H
theorem c_pick {K:W.Frag} {c t m:Int} {H:Hp} {Q:VK} {E:XK} (h1:0≤t) (h2:0 < m) (q : ∀ v:Int,0≤v→v < m→Q (.int v) H):sp_law_pick K ([.int c,.int t,.int m]++[]) H Q E:=⟨c,t,m,rfl,h1,h2,q⟩
def sp_pads_of (K:W.Frag):Sp:=fun vs H Q _=>∃ (n w:Int) (x:Str),vs=[.int n,.int w,.str x]∧Side x∧0≤n∧w≤40 ∧ ∀ p H',Same H H'→H' p=some (.tup [.int (pA x n w),.int (pB x n w)])→Q (.ref p) H'
theorem c_pads_of {K:W.Frag} {n w:Int} {x:Str} {H:Hp} {Q:VK} {E:XK} (h1:Side x) (h2:0≤n) (h3:w≤40) (q : ∀ p H',Same H H'→H' p=some (.tup [.int (pA x n w),.int (pB x n w)])→Q (.ref p) H'):sp_pads_of K ([.int n,.int w,.str x]++[]) H Q E:=⟨n,w,x,rfl,h1,h2,h3,q⟩
def sp_padded (K:W.Frag):Sp:=fun vs H Q _=>∃ (t:List Nat) (w:Int) (f:Nat) (x:Str),vs=[.str (T t),.int w,.str (T [f]),.str x]∧Side x∧t.length≤400∧w≤40 ∧ ∀ H',Same H H'→Q (.str (T (pad t w f x))) H'
theorem c_padded {K:W.Frag} {t:List Nat} {w:Int} {f:Nat} {x:Str} {H:Hp} {Q:VK} {E:XK} (h1:Side x) (h2:t.length≤400) (h3:w≤40) (q : ∀ H',Same H H'→Q (.str (T (pad t w f x))) H'):sp_padded K ([.str (T t),.int w,.str (T [f]),.str x]++[]) H Q E:=⟨t,w,f,x,rfl,h1,h2,h3,q⟩
local macro_rules | `(tactic| walk_at "rdc")=>`(tactic| ((with_reducible refine' c_pick ?h1 ?h2 ?_);(case h1=>omega);(case h2=>omega);intro v' h0' h1'))
local macro_rules | `(tactic| walk_at "rdc")=>`(tactic| ((with_reducible refine' c_cell ?h1 ?h2 ?_);(case h1=>walk_at "sq");(case h2=>omega);intro v'))
local macro_rules | `(tactic| walk_at "rdc")=>`(tactic| ((with_reducible refine' c_pads_of ?h1 ?h2 ?h3 ?_);(case h1=>first | assumption | exact .inl rfl | exact .inr (.inl rfl) | exact .inr (.inr rfl));(case h2=>omega);(case h3=>omega);intro p' H' g' e'))
local macro_rules | `(tactic| walk_at "rdc")=>`(tactic| ((with_reducible refine' c_padded ?h1 ?h2 ?h3 ?_);(case h1=>first | assumption | exact .inl rfl | exact .inr (.inl rfl) | exact .inr (.inr rfl));(case h2=>walk_at "tl");(case h3=>omega);intro H' g'))
theorem r_ixF {i:Int} {H:Hp} {Q:VK} (h0:0≤i) (h1:i < 16) (q:Q (.str (T [fc i.toNat])) H):rIxS (.str "0123456789abcdef") (.int i) H Q:=by
 have e:(Lt "0123456789abcdef").length=16:=by decide +kernel
 exact rT_ix (by omega) h0 (by omega) q
theorem rT_mulZ {n:Int} {H:Hp} {Q:VK} (h1:n < 16777216) (h2 : -16777216 < n) (q:Q (.str (T (List.replicate n.toNat 48))) H):rMulT (.str "0") (.int n) H Q:=by
 have e:("0" : Str)=T [48]:=by decide +kernel
 rw [e];exact rT_mul1 h1 h2 q
local macro_rules | `(tactic| walk_at "rdc")=>`(tactic| ((with_reducible refine' rT_mulZ ?h1 ?h2 ?_);(case h1=>omega);(case h2=>omega)))
local macro_rules | `(tactic| walk_at "rdc")=>`(tactic| ((with_reducible refine' r_ixF ?h1 ?h2 ?_);(case h1=>omega);(case h2=>omega)))
def sp_figures_of (K:W.Frag):Sp:=fun vs H Q _=>∃ n b:Int,vs=[.int n,.int b]∧0≤n∧2≤b∧b≤16∧n < 1766847064778384329583297500742918515827483896875618958121606201292619776∧(∀ l,l=figs b.toNat n.toNat→FigB b l→val b l=n→0 < l.length→l.length≤240→(l.getD 0 0=48→l=[48])→Q (.str (T l)) H)
theorem c_figures_of {K:W.Frag} {n b:Int} {H:Hp} {Q:VK} {E:XK} (h1:0≤n) (h2:2≤b) (h3:b≤16) (h4:n < 1766847064778384329583297500742918515827483896875618958121606201292619776) (q:(∀ l,l=figs b.toNat n.toNat→FigB b l→val b l=n→0 < l.length→l.length≤240→(l.getD 0 0=48→l=[48])→Q (.str (T l)) H)):sp_figures_of K ([.int n,.int b]++[]) H Q E:=⟨n,b,rfl,h1,h2,h3,h4,q⟩
local macro_rules | `(tactic| walk_at "rdc")=>`(tactic| ((with_reducible refine' c_figures_of ?h1 ?h2 ?h3 ?h4 ?_);(case h1=>omega);(case h2=>omega);(case h3=>omega);(case h4=>omega);intro l' el' f1' f2' f3' f4' f5'))
def sp_parts_of (K:W.Frag):Sp:=fun vs H Q _=>∃ (a:List Nat) (z g:Int),vs=[.str (T a),.int z,.int g]∧0 < z∧z≤9∧0≤g∧g≤1∧a.length≤400 ∧ ∀ p H',Same H H'→H' p=some (.lst ((pcs a z.toNat g.toNat a.length).map fun l=>V.str (T l)))→Q (.ref p) H'
theorem c_parts_of {K:W.Frag} {a:List Nat} {z g:Int} {H:Hp} {Q:VK} {E:XK} (h1:0 < z) (h2:z≤9) (h3:0≤g) (h4:g≤1) (h5:a.length≤400) (q : ∀ p H',Same H H'→H' p=some (.lst ((pcs a z.toNat g.toNat a.length).map fun l=>V.str (T l)))→Q (.ref p) H'):sp_parts_of K ([.str (T a),.int z,.int g]++[]) H Q E:=⟨a,z,g,rfl,h1,h2,h3,h4,h5,q⟩
local macro_rules | `(tactic| walk_at "rdc")=>`(tactic| ((with_reducible refine' c_parts_of ?h1 ?h2 ?h3 ?h4 ?h5 ?_);(case h1=>omega);(case h2=>omega);(case h3=>omega);(case h4=>omega);(case h5=>omega);intro p' H' g' e'))
def sp_grouped (K:W.Frag):Sp:=fun vs H Q _=>∃ (a:List Nat) (z:Int) (m:Nat),vs=[.str (T a),.int z,.str (T [m])]∧0≤z∧z≤9∧a.length≤400 ∧ ∀ H',Same H H'→Q (.str (T (gr z.toNat m a))) H'
theorem c_grouped {K:W.Frag} {a:List Nat} {z:Int} {m:Nat} {H:Hp} {Q:VK} {E:XK} (h1:0≤z) (h2:z≤9) (h5:a.length≤400) (q : ∀ H',Same H H'→Q (.str (T (gr z.toNat m a))) H'):sp_grouped K ([.str (T a),.int z,.str (T [m])]++[]) H Q E:=⟨a,z,m,rfl,h1,h2,h5,q⟩
local macro_rules | `(tactic| walk_at "rdc")=>`(tactic| ((with_reducible refine' c_grouped ?h1 ?h2 ?h5 ?_);(case h1=>omega);(case h2=>omega);(case h5=>omega);intro H' g'))
def NumB (n b p:Int):Prop:=0≤n∧2≤b∧b≤16∧0≤p∧p≤6∧n.toNat < b.toNat ^ (40+p.toNat)
def bdI (n b p:Int) (pt:Nat) (z:Int) (m:Nat):List Nat:=bdy b.toNat p.toNat pt z.toNat m n.toNat
theorem NumB.big {n b p:Int} (h:NumB n b p):n < 1766847064778384329583297500742918515827483896875618958121606201292619776:=by
 obtain ⟨h1,h2,h3,h4,h5,h6⟩:=h
 have e1:b.toNat ^ (40+p.toNat)≤16 ^ (40+p.toNat):=Nat.pow_le_pow_left (by omega) _
 have e2:(16:Nat) ^ (40+p.toNat)≤16 ^ 46:=Nat.pow_le_pow_right (by decide) (by omega)
 have e3:(16:Nat) ^ 46 < 1766847064778384329583297500742918515827483896875618958121606201292619776:=by decide +kernel
 omega
def sp_body_of (K:W.Frag):Sp:=fun vs H Q _=>∃ (n b p z:Int) (pt m:Nat),vs=[.int n,.int b,.int p,.str (T [pt]),.int z,.str (T [m])]∧NumB n b p∧0≤z∧z≤9 ∧ ∀ H',Same H H'→Q (.str (T (bdI n b p pt z m))) H'
theorem c_body_of {K:W.Frag} {n b p z:Int} {pt m:Nat} {H:Hp} {Q:VK} {E:XK} (h1:NumB n b p) (h2:0≤z) (h3:z≤9) (q : ∀ H',Same H H'→Q (.str (T (bdI n b p pt z m))) H'):sp_body_of K ([.int n,.int b,.int p,.str (T [pt]),.int z,.str (T [m])]++[]) H Q E:=⟨n,b,p,z,pt,m,rfl,h1,h2,h3,q⟩
local macro_rules | `(tactic| walk_at "rdc")=>`(tactic| ((with_reducible refine' c_body_of ?h1 ?h2 ?h3 ?_);(case h1=>assumption);(case h2=>omega);(case h3=>omega);intro H' g'))
def sp_ends_of (K:W.Frag):Sp:=fun vs H Q _=>∃ (x:Str) (b:Bool),vs=[.str x,.bl b]∧Style x ∧ ∀ p,SqT K H p [.str (T (stL x b)),.str (T (stT x b))]→Q (.ref p) H
theorem c_ends_of {K:W.Frag} {x:Str} {b:Bool} {H:Hp} {Q:VK} {E:XK} (h:Style x) (q : ∀ p,SqT K H p [.str (T (stL x b)),.str (T (stT x b))]→Q (.ref p) H):sp_ends_of K ([.str x,.bl b]++[]) H Q E:=⟨x,b,rfl,h,q⟩
local macro_rules | `(tactic| walk_at "rdc")=>`(tactic| ((with_reducible refine' c_ends_of ?h ?_);(case h=>assumption);intro p' e'))
def sg (x:Str) (b:Bool) (l:List Nat):List Nat:=stL x b++l++stT x b
theorem sg_len {x:Str} (h:Style x) (b:Bool) (l:List Nat):l.length≤(sg x b l).length∧(sg x b l).length≤l.length+2:=by
 have:=st_len h b
 unfold sg;simp only [List.length_append];omega
def sp_signed (K:W.Frag):Sp:=fun vs H Q _=>∃ (l:List Nat) (x:Str) (b:Bool),vs=[.str (T l),.str x,.bl b]∧Style x∧l.length≤1000∧Q (.str (T (sg x b l))) H
theorem c_signed {K:W.Frag} {l:List Nat} {x:Str} {b:Bool} {H:Hp} {Q:VK} {E:XK} (h:Style x) (h2:l.length≤1000) (q:Q (.str (T (sg x b l))) H):sp_signed K ([.str (T l),.str x,.bl b]++[]) H Q E:=⟨l,x,b,rfl,h,h2,q⟩
local macro_rules | `(tactic| walk_at "rdc")=>`(tactic| ((with_reducible refine' c_signed ?h ?h2 ?_);(case h=>assumption);(case h2=>omega)))
def sp_stands_between_figures (K:W.Frag):Sp:=fun vs H Q _=>∃ l:List Nat,vs=[.str (T l)]∧Asc l∧l.length≤1000∧(Fg l→Q (.bl true) H)∧(¬ Fg l→Q (.bl false) H)
theorem c_stands {K:W.Frag} {l:List Nat} {H:Hp} {Q:VK} {E:XK} (h1:Asc l) (h2:l.length≤1000) (q1:Fg l→Q (.bl true) H) (q2 : ¬ Fg l→Q (.bl false) H):sp_stands_between_figures K ([.str (T l)]++[]) H Q E:=⟨l,rfl,h1,h2,q1,q2⟩
local macro_rules | `(tactic| walk_at "rdc")=>`(tactic| ((with_reducible refine' c_stands ?h1 ?h2 (fun fg'=>?_) (fun fg'=>?_));(case h1=>assumption);(case h2=>omega)))
def sp_unsigned (K:W.Frag):Sp:=fun vs H Q E=>∃ (t:List Nat) (x:Str),vs=[.str (T t),.str x]∧Style x∧Asc t∧t.length≤1000∧(∀ b,Sgd x b t → ∀ p H',Same H H'→H' p=some (.tup [.bl b,.str (T (bod x b t))])→Q (.ref p) H')∧((¬ Sgd x false t)→(¬ Sgd x true t) → ∀ C H',Nm K "NoCore" C→Same H H'→E (.ref C) none H')
theorem c_unsigned {K:W.Frag} {t:List Nat} {x:Str} {b:Bool} {H:Hp} {Q:VK} {E:XK} (h1:Style x) (h2:Asc t) (h3:t.length≤1000) (g:Sgd x b t) (q : ∀ p H',Same H H'→H' p=some (.tup [.bl b,.str (T (bod x b t))])→Q (.ref p) H'):spc (sp_unsigned K) ([.str (T t),.str x]++[]) H Q E:=by
 refine ⟨t,x,rfl,h1,h2,h3,fun b' g' p H' gg e=>?_,fun n0 n1=>?_⟩
 ·have e2:b'=b:=by
   cases b' <;> cases b
   ·rfl
   ·exact (one_way h1 g' g).elim
   ·exact (one_way h1 g g').elim
   ·rfl
  subst e2
  exact q p H' gg e
 ·cases b
  ·exact absurd g n0
  ·exact absurd g n1
def sp_is_whole (K:W.Frag):Sp:=fun vs H Q _=>(∃ i:Int,vs=[.int i]∧Q (.bl true) H)∨(∃ v,vs=[v]∧Odd H v∧Q (.bl false) H)
theorem c_is_whole {K:W.Frag} {i:Int} {H:Hp} {Q:VK} {E:XK} (q:Q (.bl true) H):sp_is_whole K ([.int i]++[]) H Q E:=.inl ⟨i,rfl,q⟩
theorem c_is_odd {K:W.Frag} {v:V} {H:Hp} {Q:VK} {E:XK} (h:Odd H v) (q:Q (.bl false) H):sp_is_whole K ([v]++[]) H Q E:=.inr ⟨v,rfl,h,q⟩
def sp_common_divisor (K:W.Frag):Sp:=fun vs H Q _=>∃ a b:Int,vs=[.int a,.int b]∧Q (.int (Int.gcd a b)) H
theorem c_common_divisor {K:W.Frag} {a b:Int} {H:Hp} {Q:VK} {E:XK} (q:Q (.int (Int.gcd a b)) H):sp_common_divisor K ([.int a,.int b]++[]) H Q E:=⟨a,b,rfl,q⟩
local macro_rules | `(tactic| walk_at "rdc")=>`(tactic| ((with_reducible refine' c_is_odd ?h ?_);(case h=>walk_at "odd")))
local macro_rules | `(tactic| walk_at "rdc")=>`(tactic| (with_reducible refine c_is_whole ?_))
local macro_rules | `(tactic| walk_at "rdc")=>`(tactic| (with_reducible refine c_common_divisor ?_))
inductive NF (H:Hp):V→Prop where
 | int (i:Int):NF H (.int i)
 | non:NF H .non
 | bl (b:Bool):NF H (.bl b)
 | str (x:Str):NF H (.str x)
 | lst {p:Addr} {xs:List V} (e:H p=some (.lst xs)):NF H (.ref p)
 | dct {p:Addr} (e:H p=some (dctO p)):NF H (.ref p)
 | len {p:Addr} {xs:List V} (e:H p=some (.tup xs)) (h:xs.length≠2):NF H (.ref p)
 | top {p:Addr} {u v:V} (e:H p=some (.tup [u,v])) (h:Odd H u):NF H (.ref p)
 | bot {p:Addr} {a:Int} {v:V} (e:H p=some (.tup [.int a,v])) (h:Odd H v):NF H (.ref p)
 | bad {p:Addr} {a b:Int} (e:H p=some (.tup [.int a,.int b])) (h:b < 1∨Int.gcd a b≠1):NF H (.ref p)
theorem NF.same {H H':Hp} {v:V} (h:NF H v) (g:Same H H'):NF H' v:=by
 cases h with
 | int i=>exact .int i
 | non=>exact .non
 | bl b=>exact .bl b
 | str x=>exact .str x
 | lst e=>exact .lst (g _ _ e)
 | dct e=>exact .dct (g _ _ e)
 | len e h=>exact .len (g _ _ e) h
 | top e h=>exact .top (g _ _ e) (h.same g)
 | bot e h=>exact .bot (g _ _ e) (h.same g)
 | bad e h=>exact .bad (g _ _ e) h
def sp_is_fraction (K:W.Frag):Sp:=fun vs H Q _=>(∃ (p:Addr) (a b:Int),vs=[.ref p]∧H p=some (.tup [.int a,.int b])∧1≤b∧Int.gcd a b=1∧Q (.bl true) H)∨(∃ v,vs=[v]∧NF H v∧Q (.bl false) H)
theorem c_is_fraction {K:W.Frag} {p:Addr} {a b:Int} {H:Hp} {Q:VK} {E:XK} (e:H p=some (.tup [.int a,.int b])) (h1:1≤b) (h2:Int.gcd a b=1) (q:Q (.bl true) H):sp_is_fraction K ([.ref p]++[]) H Q E:=.inl ⟨p,a,b,rfl,e,h1,h2,q⟩
theorem c_no_fraction {K:W.Frag} {v:V} {H:Hp} {Q:VK} {E:XK} (h:NF H v) (q:Q (.bl false) H):sp_is_fraction K ([v]++[]) H Q E:=.inr ⟨v,rfl,h,q⟩
local macro_rules | `(tactic| walk_at "rdc")=>`(tactic| ((with_reducible refine' c_is_fraction ?e ?h1 ?h2 ?_);(case e=>walk_at "hp");(case h1=>first | assumption | omega);(case h2=>assumption)))
local macro_rules | `(tactic| walk_at "rdc")=>`(tactic| ((with_reducible refine' c_no_fraction ?h ?_);(case h=>assumption)))
def SideI (x:Str):Prop:=Side x∨x = "inside"
structure NumS (fg pl b:Int) (sn:Str) (z:Int) (m pt:Nat) (wy:Str) (wd:Int) (f:Nat) (x:Str):Prop where
 fg1:1≤fg
 fg2:fg≤12
 pl1:0≤pl
 pl2:pl≤6
 b1:2≤b
 b2:b≤16
 sn:Style sn
 z1:0≤z
 z2:z≤9
 m:m < 127
 pt:pt < 127
 wy:Way wy
 wd1:0≤wd
 wd2:wd≤40
 f:f < 127
 x:SideI x
def nmore (fg pl b:Int) (sn:Str) (z:Int) (m pt:Nat) (wy:Str):List (Str × V):=[("figures", .int fg),("places", .int pl),("base", .int b),("sign", .str sn),("size", .int z),("mark", .str (T [m])),("point", .str (T [pt])),("way", .str wy)]
def nns:List Str:=["figures", "places", "base", "sign", "size", "mark", "point", "way"]
section
variable {H : Hp} {a C : Addr} {wd : Int} {f : Nat} {x : Str} {st : Bool} {fg pl b : Int} {sn : Str} {z : Int} {m pt : Nat} {wy : Str}
theorem nm_none {g:Str} (h:g ∉ nns):(nmore fg pl b sn z m pt wy).lookup g=none:=by
 simp only [nns,List.mem_cons,List.not_mem_nil,or_false,not_or] at h
 obtain ⟨h1,h2,h3,h4,h5,h6,h7,h8⟩:=h
 exact (lk_ne h1).trans ((lk_ne h2).trans ((lk_ne h3).trans ((lk_ne h4).trans ((lk_ne h5).trans ((lk_ne h6).trans ((lk_ne h7).trans ((lk_ne h8).trans rfl)))))))
theorem nf_own {g:Str} {v:V} (F:FormAt K H a C wd f x st (nmore fg pl b sn z m pt wy)) (h:g ∉ bns) (l:(nmore fg pl b sn z m pt wy).lookup g=some v) (n:g ∈ nns):FldAt K H a g v:=F.own h l n
theorem nf_figures (F:FormAt K H a C wd f x st (nmore fg pl b sn z m pt wy)):FldAt K H a "figures" (.int fg):=nf_own F (by decide +kernel) lk_eq (by decide +kernel)
theorem nf_places (F:FormAt K H a C wd f x st (nmore fg pl b sn z m pt wy)):FldAt K H a "places" (.int pl):=nf_own F (by decide +kernel) ((lk_ne (by decide +kernel)).trans lk_eq) (by decide +kernel)
theorem nf_base (F:FormAt K H a C wd f x st (nmore fg pl b sn z m pt wy)):FldAt K H a "base" (.int b):=nf_own F (by decide +kernel) ((lk_ne (by decide +kernel)).trans ((lk_ne (by decide +kernel)).trans lk_eq)) (by decide +kernel)
theorem nf_sign (F:FormAt K H a C wd f x st (nmore fg pl b sn z m pt wy)):FldAt K H a "sign" (.str sn):=nf_own F (by decide +kernel) ((lk_ne (by decide +kernel)).trans ((lk_ne (by decide +kernel)).trans ((lk_ne (by decide +kernel)).trans lk_eq))) (by decide +kernel)
theorem nf_size (F:FormAt K H a C wd f x st (nmore fg pl b sn z m pt wy)):FldAt K H a "size" (.int z):=nf_own F (by decide +kernel) ((lk_ne (by decide +kernel)).trans ((lk_ne (by decide +kernel)).trans ((lk_ne (by decide +kernel)).trans ((lk_ne (by decide +kernel)).trans lk_eq)))) (by decide +kernel)
theorem nf_mark (F:FormAt K H a C wd f x st (nmore fg pl b sn z m pt wy)):FldAt K H a "mark" (.str (T [m])):=nf_own F (by decide +kernel) ((lk_ne (by decide +kernel)).trans ((lk_ne (by decide +kernel)).trans ((lk_ne (by decide +kernel)).trans ((lk_ne (by decide +kernel)).trans ((lk_ne (by decide +kernel)).trans lk_eq))))) (by decide +kernel)
theorem nf_point (F:FormAt K H a C wd f x st (nmore fg pl b sn z m pt wy)):FldAt K H a "point" (.str (T [pt])):=nf_own F (by decide +kernel) ((lk_ne (by decide +kernel)).trans ((lk_ne (by decide +kernel)).trans ((lk_ne (by decide +kernel)).trans ((lk_ne (by decide +kernel)).trans ((lk_ne (by decide +kernel)).trans ((lk_ne (by decide +kernel)).trans lk_eq)))))) (by decide +kernel)
theorem nf_way (F:FormAt K H a C wd f x st (nmore fg pl b sn z m pt wy)):FldAt K H a "way" (.str wy):=nf_own F (by decide +kernel) ((lk_ne (by decide +kernel)).trans ((lk_ne (by decide +kernel)).trans ((lk_ne (by decide +kernel)).trans ((lk_ne (by decide +kernel)).trans ((lk_ne (by decide +kernel)).trans ((lk_ne (by decide +kernel)).trans ((lk_ne (by decide +kernel)).trans lk_eq))))))) (by decide +kernel)
theorem nf_meth {g:Str} (F:FormAt K H a C wd f x st (nmore fg pl b sn z m pt wy)) (h0:g ∉ bns) (h1:g ∉ nns):InsM H a C g:=F.meth h0 (nm_none h1)
end
local macro_rules | `(tactic| walk_at "fld2")=>`(tactic| first | (exact nf_figures (by walk_at "fm")) | (exact nf_places (by walk_at "fm")) | (exact nf_base (by walk_at "fm")) | (exact nf_sign (by walk_at "fm")) | (exact nf_size (by walk_at "fm")) | (exact nf_mark (by walk_at "fm")) | (exact nf_point (by walk_at "fm")) | (exact nf_way (by walk_at "fm")))
local macro_rules | `(tactic| walk_at "ins")=>`(tactic| exact nf_meth (by walk_at "fm") (by decide +kernel) (by decide +kernel))
def sp_NumberForm_is_too_great (K:W.Frag) (C:Addr):Sp:=fun vs H Q _=>∃ (a:Addr) (fg pl b:Int) (sn:Str) (z:Int) (m pt:Nat) (wy:Str) (wd:Int) (f:Nat) (x:Str) (st:Bool) (n:Int),vs=[.ref a,.int n]∧FormAt K H a C wd f x st (nmore fg pl b sn z m pt wy)∧NumS fg pl b sn z m pt wy wd f x∧Q (.bl (decide (b ^ (fg+pl).toNat≤n))) H
theorem c_too_great {K:W.Frag} {C a:Addr} {fg pl b:Int} {sn:Str} {z:Int} {m pt:Nat} {wy:Str} {wd:Int} {f:Nat} {x:Str} {st:Bool} {n:Int} {H:Hp} {Q:VK} {E:XK} (h1:FormAt K H a C wd f x st (nmore fg pl b sn z m pt wy)) (h2:NumS fg pl b sn z m pt wy wd f x) (q:Q (.bl (decide (b ^ (fg+pl).toNat≤n))) H):sp_NumberForm_is_too_great K C (.ref a::([.int n]++[])) H Q E:=⟨a,fg,pl,b,sn,z,m,pt,wy,wd,f,x,st,n,rfl,h1,h2,q⟩
local macro_rules | `(tactic| walk_at "rdc")=>`(tactic| ((with_reducible refine' c_too_great ?h1 ?h2 ?_);(case h1=>walk_at "fm");(case h2=>assumption)))
def ncore (pl b:Int) (sn:Str) (z:Int) (m pt:Nat) (k:Int):List Nat:=sg sn (decide (k < 0)) (bdI k.natAbs b pl pt z m)
def LimN (fg pl b:Int) (k:Int):Prop:=k.natAbs < b.toNat ^ (fg+pl).toNat
def sp_NumberForm_core (K:W.Frag) (C cV cG:Addr):Sp:=fun vs H Q E=>∃ (o:Addr) (w:V) (fg pl b:Int) (sn:Str) (z:Int) (m pt:Nat) (wy:Str) (wd:Int) (f:Nat) (x:Str) (st:Bool),vs=[.ref o,w]∧FormAt K H o C wd f x st (nmore fg pl b sn z m pt wy)∧NumS fg pl b sn z m pt wy wd f x ∧
 ((∃ (p:Addr) (u v k:Int),w = .ref p∧H p=some (.tup [.int u,.int v])∧GrB u v∧Int.gcd u v=1∧grid wy u v (b ^ pl.toNat)=k∧((LimN fg pl b k ∧ ∀ H',Same H H'→Q (.str (T (ncore pl b sn z m pt k))) H')∨(¬ LimN fg pl b k ∧ ∀ H',Same H H'→E (.ref cG) none H')))∨(NF H w ∧ ∀ H',Same H H'→E (.ref cV) none H'))
def sp_Form_is_too_wide (K:W.Frag):Sp:=fun vs H Q _=>∃ (a C:Addr) (wd:Int) (f:Nat) (x:Str) (st:Bool) (more:List (Str × V)) (t:List Nat),vs=[.ref a,.str (T t)]∧FormAt K H a C wd f x st more∧t.length≤400∧Q (.bl (st && decide (wd < t.length))) H
theorem c_too_wide {K:W.Frag} {C a:Addr} {wd:Int} {f:Nat} {x:Str} {st:Bool} {more:List (Str × V)} {t:List Nat} {H:Hp} {Q:VK} {E:XK} (h1:FormAt K H a C wd f x st more) (h2:t.length≤400) (q:Q (.bl (st && decide (wd < t.length))) H):sp_Form_is_too_wide K (.ref a::([.str (T t)]++[])) H Q E:=⟨a,C,wd,f,x,st,more,t,rfl,h1,h2,q⟩
local macro_rules | `(tactic| walk_at "rdc")=>`(tactic| ((with_reducible refine' c_too_wide ?h1 ?h2 ?_);(case h1=>walk_at "fm");(case h2=>omega)))
def Isw (sg:List Nat) (lo hi:Int) (t:List Nat):Prop:=(lo≤t.length∧(t.length:Int)≤hi) ∧ ∀ c ∈ t,c ∈ sg
instance (sg:List Nat) (lo hi:Int) (t:List Nat):Decidable (Isw sg lo hi t):=by unfold Isw;infer_instance
def wmore (sg:List Nat) (lo hi:Int):List (Str × V):=[("signs", .str (T sg)),("least", .int lo),("most", .int hi)]
theorem wm_none {sg:List Nat} {lo hi:Int} {m:Str} (h1:m ≠ "signs") (h2:m ≠ "least") (h3:m ≠ "most"):(wmore sg lo hi).lookup m=none:=(lk_ne h1).trans ((lk_ne h2).trans ((lk_ne h3).trans rfl))
section
variable {H : Hp} {a C : Addr} {wd : Int} {f : Nat} {x : Str} {st : Bool} {sg : List Nat} {lo hi : Int}
theorem wf_signs (F:FormAt K H a C wd f x st (wmore sg lo hi)):FldAt K H a "signs" (.str (T sg)):=F.own (by decide +kernel) lk_eq (List.mem_cons_self ..)
theorem wf_least (F:FormAt K H a C wd f x st (wmore sg lo hi)):FldAt K H a "least" (.int lo):=F.own (by decide +kernel) ((lk_ne (by decide +kernel)).trans lk_eq) (List.mem_cons_of_mem _ (List.mem_cons_self ..))
theorem wf_most (F:FormAt K H a C wd f x st (wmore sg lo hi)):FldAt K H a "most" (.int hi):=F.own (by decide +kernel) ((lk_ne (by decide +kernel)).trans ((lk_ne (by decide +kernel)).trans lk_eq)) (List.mem_cons_of_mem _ (List.mem_cons_of_mem _ (List.mem_cons_self ..)))
theorem wf_meth {m:Str} (F:FormAt K H a C wd f x st (wmore sg lo hi)) (h0:m ∉ bns) (h1:m ≠ "signs") (h2:m ≠ "least") (h3:m ≠ "most"):InsM H a C m:=F.meth h0 (wm_none h1 h2 h3)
end
local macro_rules | `(tactic| walk_at "fld2")=>`(tactic| first | (exact wf_signs (by walk_at "fm")) | (exact wf_least (by walk_at "fm")) | (exact wf_most (by walk_at "fm")))
local macro_rules | `(tactic| walk_at "ins")=>`(tactic| exact wf_meth (by walk_at "fm") (by decide +kernel) (by decide +kernel) (by decide +kernel) (by decide +kernel))
theorem ok_law_cell_at {f:Addr} {fd:FuncData} (F:Fun K "_law_cell_at" "_law_cell_at" s_law_cell_at f fd) (B:Blt mg):FnOk P w K mg base CX0 1 f fd ["_law_script", "_law_k"] (sp_law_cell_at K):=by
 refine F.ok sc_law_cell_at (fun vs H Q E h=>?_) (fun cdv A outer s H vs Q E hr h=>?_)
 ·obtain ⟨a,ns,k,rfl,hS,hk,q⟩:=h
  rfl
 obtain ⟨a,ns,k,rfl,hS,hk,q⟩:=h
 refine ⟨_,pss_cons (ps_if (pt_cmpR op_lt (pv 1) (pe_callBH call_lenN B.z_len rfl bo_len (pa_cons (pv 0) (pa_nil))) (nomark _)) (pss_one (ps_ret (pe_ix ix_list (pv 0) (pv 1) (fun _ _=>rfl)))) (pss_nil))
  (pss_one (ps_ret (pe_int))),?_⟩
 walk_at "st"
 walk_at "rd"
 ·rename_i hc
  rw [List.length_map] at hc
  exact r_ixAll hS hk (by rw [List.length_map];omega) fun x hx=>by
   obtain ⟨v,_,rfl⟩:=List.mem_map.mp (List.mem_of_getElem? hx)
   exact q v
 ·exact q 0
theorem ok_law_pick {f:Addr} {fd:FuncData} (F:Fun K "_law_pick" "_law_pick" s_law_pick f fd) (B:Blt mg):FnOk P w K mg base CX0 1 f fd ["_law_cell", "_law_salt", "_law_many"] (sp_law_pick K):=by
 refine F.ok sc_law_pick (fun vs H Q E h=>?_) (fun cdv A outer s H vs Q E hr h=>?_)
 ·obtain ⟨c,t,m,rfl,ht,hm,q⟩:=h
  rfl
 obtain ⟨c,t,m,rfl,ht,hm,q⟩:=h
 refine ⟨_,pss_cons (ps_if (PW.pt (pw_and (pt_cmpR op_gt (pv 0) (pe_powK (k:=1000000000000000000) (by unfold CPow;decide) (by decide +kernel)) (nomark _)) (pw_and1 (pt_cmpR op_gt (pe_op op_shrP (pv 0) (pe_op op_mulA (pe_int) (pv 1))) (pe_int) (nomark _))))) (pss_one (ps_ret (pe_op op_modP (pe_op op_modP (pe_op op_shrP (pv 0) (pe_op op_mulA (pe_int) (pv 1))) (pe_int)) (pv 2)))) (pss_nil))
  (pss_cons (ps_set (i:=3) sc_law_pick.nd rfl (Or.inl rfl) (pe_op op_modP (pe_op op_add (pe_op op_add (pe_op op_modP (pv 0) (pe_int)) (pe_int)) (pe_op op_mulA (pe_int) (pv 1))) (pe_int)))
  (pss_cons (ps_set (i:=3) sc_law_pick.nd rfl (Or.inl rfl) (pe_op op_modP (pe_op op_mulA (pv 3) (pv 3)) (pe_int)))
  (pss_cons (ps_set (i:=4) sc_law_pick.nd rfl (Or.inl rfl) (pe_op op_modP (pe_op op_mulA (pe_op op_add (pv 3) (pe_int)) (pe_op op_add (pe_op op_add (pe_op op_fdivB (pv 3) (pe_int)) (pe_int)) (pv 1))) (pe_int)))
  (pss_one (ps_ret (pe_op op_modP (pe_op op_fdivB (pv 4) (pe_int)) (pv 2))))))),?_⟩
 walk_at "st"
 walk_at "rd"
 all_goals exact q _ (Int.emod_nonneg _ (by omega)) (Int.emod_lt_of_pos _ hm)
theorem ok_pads_of {f:Addr} {fd:FuncData} (F:Fun K "pads_of" "pads_of" s_pads_of f fd) (B:Blt mg):FnOk P w K mg base CX0 1 f fd ["length", "width", "side"] (sp_pads_of K):=by
 refine F.ok sc_pads_of (fun vs H Q E h=>?_) (fun cdv A outer s H vs Q E hr h=>?_)
 ·obtain ⟨n,w,x,rfl,hs,h0,hw,q⟩:=h
  rfl
 obtain ⟨n,w,x,rfl,hs,h0,hw,q⟩:=h
 refine ⟨_,pss_cons (ps_set (i:=3) sc_pads_of.nd rfl (Or.inl rfl) (pe_callBH (call_max2N rfl) B.z_max rfl bo_max (pa_cons (pe_int) (pa_cons (pe_op op_sub (pv 1) (pv 0)) (pa_nil)))))
  (pss_cons (ps_if (pt_cmpR op_eq (pv 2) (pe_str) (nomark _)) (pss_one (ps_ret (pe_tup (pa_cons (pe_int) (pa_cons (pv 3) (pa_nil)))))) (pss_nil))
  (pss_cons (ps_if (pt_cmpR op_eq (pv 2) (pe_str) (nomark _)) (pss_one (ps_ret (pe_tup (pa_cons (pv 3) (pa_cons (pe_int) (pa_nil)))))) (pss_nil))
  (pss_one (ps_ret (pe_tup (pa_cons (pe_op op_fdivB (pv 3) (pe_int)) (pa_cons (pe_op op_sub (pv 3) (pe_op op_fdivB (pv 3) (pe_int))) (pa_nil)))))))),?_⟩
 walk_at "st"
 have b:=lk_bd n w h0 hw
 have e:pB x n w=lk n w - pA x n w:=rfl
 rcases hs with rfl | rfl | rfl
 ·rw [pAl] at q e
  walk_at "rd"
  rename_i k hk p' H' g' e'
  exact q _ _ g' (by rw [e',show k=pB "left" n w by omega])
 ·rw [pAr] at q e
  walk_at "rd"
  rename_i k hk p' H' g' e'
  exact q _ _ g' (by rw [e',show k=lk n w by omega,show pB "right" n w=0 by omega])
 ·rw [pAm] at q e
  walk_at "rd"
  rename_i k hk p' H' g' e'
  exact q _ _ g' (by rw [e',e,show k=lk n w by omega])
theorem ok_padded {f:Addr} {fd:FuncData} (F:Fun K "padded" "padded" s_padded f fd) (B:Blt mg) (C_pads_of:Has P w K mg base "pads_of" 1 ["length", "width", "side"] (sp_pads_of K)):FnOk P w K mg base CX0 2 f fd ["text", "width", "fill", "side"] (sp_padded K):=by
 refine F.ok sc_padded (fun vs H Q E h=>?_) (fun cdv A outer s H vs Q E hr h=>?_)
 ·obtain ⟨t,w,f,x,rfl,hs,h0,hw,q⟩:=h
  rfl
 obtain ⟨t,w,f,x,rfl,hs,h0,hw,q⟩:=h
 refine ⟨_,pss_cons (ps_set (i:=4) sc_padded.nd rfl (Or.inl rfl) (pe_callH C_pads_of hr rfl (pa_cons (pe_callBH call_lenT B.z_len rfl bo_len (pa_cons (pv 0) (pa_nil))) (pa_cons (pv 1) (pa_cons (pv 3) (pa_nil))))))
  (pss_one (ps_ret (pe_op op_addS (pe_op op_addS (pe_op op_mulT (pv 2) (pe_ix ix_tup (pv 4) (pe_int) (fun _ _=>rfl))) (pv 0)) (pe_op op_mulT (pv 2) (pe_ix ix_tup (pv 4) (pe_int) (fun _ _=>rfl)))))),?_⟩
 walk_at "st"
 have b:=pads_bd (n:=t.length) hs (by omega) hw
 have b':=b
 obtain ⟨b1,b2,b3,_⟩:=b'
 have bl:=lk_bd t.length w (by omega) hw
 walk_at "rd"
 exact q _ (by assumption)
local macro_rules | `(tactic| walk_at "rdc")=>`(tactic| ((with_reducible refine' c_power_of ?h1 ?h2 ?h3 ?h4 ?_);(case h1=>omega);(case h2=>omega);(case h3=>omega);(case h4=>omega)))
local macro_rules | `(tactic| walk_at "rdc")=>`(tactic| ((with_reducible refine' c_goes_up ?h1 ?h2 ?h3 ?_);(case h1=>assumption);(case h2=>omega);(case h3=>omega)))
local macro_rules | `(tactic| walk_at "rdc")=>`(tactic| ((with_reducible refine' c_gridded ?h1 ?h2 ?h3 ?h4 ?h5 ?h6 ?h7 ?_);(case h1=>walk_at "hp");(case h2=>assumption);(case h3=>omega);(case h4=>omega);(case h5=>omega);(case h6=>omega);(case h7=>first | assumption | exact .inl rfl | exact .inr (.inl rfl) | exact .inr (.inr (.inl rfl)) | exact .inr (.inr (.inr (.inl rfl))) | exact .inr (.inr (.inr (.inr rfl))))))
theorem ok_power_of {f:Addr} {fd:FuncData} (F:Fun K "power_of" "power_of" s_power_of f fd) (B:Blt mg):FnOk P w K mg base CX0 1 f fd ["base", "times"] (sp_power_of K):=by
 refine F.ok sc_power_of (fun vs H Q E h=>?_) (fun cdv A outer s H vs Q E hr h=>?_)
 ·obtain ⟨b,t,rfl,h1,h2,h3,h4,q⟩:=h
  rfl
 obtain ⟨b,t,rfl,h1,h2,h3,h4,q⟩:=h
 refine ⟨_,pss_cons (ps_set (i:=2) sc_power_of.nd rfl (Or.inl rfl) (pe_int))
  (pss_cons (ps_for PassesOwn.never rfl (pi_range1 rfl B.z_range (pa_cons (pv 1) (pa_nil))) (pg_name (i:=3) sc_power_of.nd rfl (Or.inl rfl)) (pss_one (ps_set (i:=2) sc_power_of.nd rfl (Or.inl rfl) (pe_op op_mulA (pv 2) (pv 0)))))
  (pss_one (ps_ret (pv 2)))),?_⟩
 walk_at "st"
 walk_at "rd"
 refine r_kForR (by omega) (by omega) (fun i σ H'=>H'=H ∧ ∃ r,σ=[some (.int b),some (.int t),some (.int (b ^ i)),r]) ⟨rfl,none,by rw [Int.pow_zero];rfl⟩ ?_ ?_
 ·rintro i σ H' hi ⟨rfl,r,rfl⟩
  have z:=pw60 (n:=i) h1 h2 (by omega)
  walk_at "rd"
  exact ⟨rfl,some (.int (0+i)),by rw [Int.pow_succ];rfl⟩
 ·rintro σ H' ⟨rfl,r,rfl⟩
  walk_at "rd"
  exact q
theorem ok_goes_up {f:Addr} {fd:FuncData} (F:Fun K "goes_up" "goes_up" s_goes_up f fd) (B:Blt mg):FnOk P w K mg base CX0 1 f fd ["below", "rest", "bottom", "way"] (sp_goes_up K):=by
 refine F.ok sc_goes_up (fun vs H Q E h=>?_) (fun cdv A outer s H vs Q E hr h=>?_)
 ·obtain ⟨be,re,bo,w,rfl,h1,h2,h3,q⟩:=h
  rfl
 obtain ⟨be,re,bo,w,rfl,h1,h2,h3,q⟩:=h
 refine ⟨_,pss_cons (ps_if (pt_cmpR op_eq (pv 3) (pe_str) (nomark _)) (pss_one (ps_ret (pe_bl))) (pss_nil))
  (pss_cons (ps_if (pt_cmpR op_eq (pv 3) (pe_str) (nomark _)) (pss_one (ps_ret (pe_bl))) (pss_nil))
  (pss_cons (ps_if (pt_cmpR op_eq (pv 3) (pe_str) (nomark _)) (pss_one (ps_ret (pe_cmpR op_lt (pv 0) (pe_int) (nomark _)))) (pss_nil))
  (pss_cons (ps_if (pt_cmpR op_ne (pe_op op_mulA (pe_int) (pv 1)) (pv 2) (nomark _)) (pss_one (ps_ret (pe_cmpR op_gt (pe_op op_mulA (pe_int) (pv 1)) (pv 2) (nomark _)))) (pss_nil))
  (pss_one (ps_ret (pe_or (pe_cmpR op_eq (pv 3) (pe_str) (nomark _)) (pe_one (pe_cmpR op_eq (pe_op op_modP (pv 0) (pe_int)) (pe_int) (nomark _))))))))),?_⟩
 walk_at "st"
 rcases h1 with rfl | rfl | rfl | rfl | rfl
 all_goals walk_at "rd"
 ·rw [up_down] at q;exact q
 ·rw [up_up] at q;exact q
 ·rw [up_cut] at q;exact q
 ·rw [up_near (by assumption)] at q;exact q
 ·rw [up_near' (by assumption)] at q;exact q
 ·rw [up_even (by assumption)] at q;exact q
 ·rw [up_even' (by assumption)] at q;exact q
theorem ok_gridded {f:Addr} {fd:FuncData} (F:Fun K "gridded" "gridded" s_gridded f fd) (B:Blt mg) (C_power_of:Has P w K mg base "power_of" 1 ["base", "times"] (sp_power_of K)) (C_goes_up:Has P w K mg base "goes_up" 1 ["below", "rest", "bottom", "way"] (sp_goes_up K)):FnOk P w K mg base CX0 2 f fd ["value", "base", "places", "way"] (sp_gridded K):=by
 refine F.ok sc_gridded (fun vs H Q E h=>?_) (fun cdv A outer s H vs Q E hr h=>?_)
 ·obtain ⟨p,a,b,c,t,w,rfl,h1,⟨g1,g2,g3,g4⟩,h3,h4,h5,h6,h7,q⟩:=h
  rfl
 obtain ⟨p,a,b,c,t,w,rfl,h1,⟨g1,g2,g3,g4⟩,h3,h4,h5,h6,h7,q⟩:=h
 refine ⟨_,pss_cons (ps_set (i:=4) sc_gridded.nd rfl (Or.inl rfl) (pe_op op_mulA (pe_ix ix_tup (pv 0) (pe_int) (fun _ _=>rfl)) (pe_callH C_power_of hr rfl (pa_cons (pv 1) (pa_cons (pv 2) (pa_nil))))))
  (pss_cons (ps_set (i:=5) sc_gridded.nd rfl (Or.inl rfl) (pe_ix ix_tup (pv 0) (pe_int) (fun _ _=>rfl)))
  (pss_cons (ps_set (i:=6) sc_gridded.nd rfl (Or.inl rfl) (pe_op op_fdivB (pv 4) (pv 5)))
  (pss_cons (ps_set (i:=7) sc_gridded.nd rfl (Or.inl rfl) (pe_op op_modP (pv 4) (pv 5)))
  (pss_cons (ps_if (PW.pt (pw_and (pt_cmpR op_gt (pv 7) (pe_int) (nomark _)) (pw_and1 (pt_val (pe_callH C_goes_up hr rfl (pa_cons (pv 6) (pa_cons (pv 7) (pa_cons (pv 5) (pa_cons (pv 3) (pa_nil)))))))))) (pss_one (ps_ret (pe_op op_add (pv 6) (pe_int)))) (pss_nil))
  (pss_one (ps_ret (pv 6))))))),?_⟩
 walk_at "st"
 have z:=pw6 (t:=t) h3 h4 h6
 have m:=mul_bd (M:=16777217) g1 g2 (show 0 < c ^ t.toNat by omega) (by omega)
 have n:=fl_bd (a*c ^ t.toNat) g3
 unfold grid at q
 walk_at "rd"
 ·rw [if_pos ⟨by assumption,by assumption⟩] at q;exact q
 ·rename_i hc1 hc2
  rw [if_neg (fun z=>by rw [hc2] at z;exact Bool.false_ne_true z.2)] at q;exact q
 ·rename_i hc1
  rw [if_neg (fun z=>hc1 z.1)] at q;exact q
theorem ok_figures_of {f:Addr} {fd:FuncData} (F:Fun K "figures_of" "figures_of" s_figures_of f fd) (B:Blt mg) {t_FIGURES:Tok} (g_FIGURES:mg "FIGURES" = some (.str "0123456789abcdef" t_FIGURES)):FnOk P w K mg base CX0 1 f fd ["number", "base"] (sp_figures_of K):=by
 refine F.ok sc_figures_of (fun vs H Q E h=>?_) (fun cdv A outer s H vs Q E hr h=>?_)
 ·obtain ⟨n,b,rfl,h1,h2,h3,h4,q⟩:=h
  rfl
 obtain ⟨n,b,rfl,h1,h2,h3,h4,q⟩:=h
 refine ⟨_,pss_cons (ps_set (i:=2) sc_figures_of.nd rfl (Or.inl rfl) (pe_ix ix_str (pe_glob rfl g_FIGURES (v:=.str "0123456789abcdef") ⟨_,rfl⟩) (pe_op op_modP (pv 0) (pv 1)) (fun _ _=>rfl)))
  (pss_cons (ps_set (i:=3) sc_figures_of.nd rfl (Or.inl rfl) (pe_op op_fdivB (pv 0) (pv 1)))
  (pss_cons (ps_while PassesOwn.never (pt_cmpR op_gt (pv 3) (pe_int) (nomark _)) (pss_cons (ps_set (i:=2) sc_figures_of.nd rfl (Or.inl rfl) (pe_op op_addS (pe_ix ix_str (pe_glob rfl g_FIGURES (v:=.str "0123456789abcdef") ⟨_,rfl⟩) (pe_op op_modP (pv 3) (pv 1)) (fun _ _=>rfl)) (pv 2)))
  (pss_one (ps_set (i:=3) sc_figures_of.nd rfl (Or.inl rfl) (pe_op op_fdivB (pv 3) (pv 1))))))
  (pss_one (ps_ret (pv 2))))),?_⟩
 walk_at "st"
 obtain ⟨N,rfl⟩:=Int.eq_ofNat_of_zero_le h1
 obtain ⟨m,rfl⟩:=Int.eq_ofNat_of_zero_le (show 0≤b by omega)
 have hz:=figs_240 (b:=m) (n:=N) (by omega) (by omega)
 have em : ∀ k:Nat,(k:Int) % (m:Int)=((k % m:Nat):Int):=fun k=>(Int.natCast_emod k m).symm
 have ed : ∀ k:Nat,(k:Int) / (m:Int)=((k / m:Nat):Int):=fun k=>(Int.natCast_ediv k m).symm
 have lm : ∀ k:Nat,k % m < m:=fun k=>Nat.mod_lt k (by omega)
 have sp:=figs_spec (b:=m) (by omega) (by omega) N N (Nat.le_refl _)
 replace q:=q _ rfl (by simp only [Int.toNat_natCast];exact sp.1) (by simp only [Int.toNat_natCast];exact sp.2.1) (by simp only [Int.toNat_natCast];exact List.length_pos_iff.mpr sp.2.2.1) (by simp only [Int.toNat_natCast];exact hz) (by
  simp only [Int.toNat_natCast];intro z;rw [sp.2.2.2 z,figs_lt (by omega)];decide +kernel)
 simp only [Int.toNat_natCast] at q
 have l0:=lm N
 have e0:=em N
 walk_at "rd"
 rw [ed N,em N,Int.toNat_natCast]
 refine r_while (fun k σ H'=>H'=H ∧ ∃ l:List Nat,σ=[some (.int N),some (.int m),some (.str (T l)),some (.int k)]∧figs m N=if k=0 then l else figs m k++l) ⟨N / m,rfl,[fc (N % m)],rfl,?_⟩ ?_
 ·have t:=figs_turn (b:=m) (m:=N) (by omega) []
  rw [List.append_nil] at t;exact t
 ·rintro k σ H' ⟨rfl,l,rfl,e⟩
  have lk:=lm k
  have ek:=em k
  have ll:l.length≤240:=by
   have z:=congrArg List.length e
   split at z
   ·omega
   ·rw [List.length_append] at z;omega
  walk_at "rd"
  ·rename_i hc
   refine ⟨k / m,Nat.div_lt_self (by omega) (by omega),rfl,fc (k % m)::l,?_,?_⟩
   ·rw [em k,ed k,Int.toNat_natCast];rfl
   ·rw [← figs_turn (by omega) l,e,if_neg (by omega)]
  ·rename_i hc
   rw [if_pos (by omega)] at e
   rw [← e];exact q
theorem ok_parts_of {f:Addr} {fd:FuncData} (F:Fun K "parts_of" "parts_of" s_parts_of f fd) (B:Blt mg):FnOk P w K mg base CX0 1 f fd ["text", "size", "between"] (sp_parts_of K):=by
 refine F.ok sc_parts_of (fun vs H Q E h=>?_) (fun cdv A outer s H vs Q E hr h=>?_)
 ·obtain ⟨a,z,g,rfl,h1,h2,h3,h4,h5,q⟩:=h
  rfl
 obtain ⟨a,z,g,rfl,h1,h2,h3,h4,h5,q⟩:=h
 refine ⟨_,pss_cons (ps_set (i:=3) sc_parts_of.nd rfl (Or.inl rfl) (pe_lst (pa_nil)))
  (pss_cons (ps_set (i:=4) sc_parts_of.nd rfl (Or.inl rfl) (pe_callBH call_lenT B.z_len rfl bo_len (pa_cons (pv 0) (pa_nil))))
  (pss_cons (ps_while PassesOwn.never (pt_cmpR op_gt (pv 4) (pe_int) (nomark _)) (pss_cons (ps_expr (pe_bm PySem.F.plainAttrs_list PySem.F.slot_list_append PySem.F.type_list_append mt_append (pv 3) (pa_cons (pe_slice sl_str (pv 0) (po_some (pe_callBH (call_max2N rfl) B.z_max rfl bo_max (pa_cons (pe_int) (pa_cons (pe_op op_sub (pv 4) (pv 1)) (pa_nil))))) (po_some (pv 4))) (pa_nil))))
  (pss_one (ps_set (i:=4) sc_parts_of.nd rfl (Or.inl rfl) (pe_op op_sub (pe_op op_sub (pv 4) (pv 1)) (pv 2))))))
  (pss_cons (ps_expr (pe_bm0 PySem.F.plainAttrs_list PySem.F.slot_list_reverse PySem.F.type_list_reverse mt_reverse (pv 3)))
  (pss_one (ps_ret (pv 3)))))),?_⟩
 walk_at "st"
 refine r_seq (r_asg (r_lst (r_nil (r_kLstF (by decide) fun l hl=>?_))))
 walk_at "rd"
 refine r_while (fun k σ H'=>∃ (e:Int) (ps:List (List Nat)),σ=[some (.str (T a)),some (.int z),some (.int g),some (.ref l),some (.int e)]∧H'=upd H l (.lst (ps.map fun l=>V.str (T l)))∧k=e.toNat∧ps.length+e.toNat≤a.length∧e≤a.length∧pcs a z.toNat g.toNat a.length=pcs a z.toNat g.toNat e.toNat++ps.reverse) ⟨_,a.length,[],rfl,rfl,rfl,by simp,Int.le_refl _,by simp⟩ ?_
 rintro k σ H' ⟨e,ps,rfl,rfl,rfl,b1,b2,ep⟩
 walk_at "rd"
 ·rename_i hc k' hk'
  refine r_append upd_same (small1000 (by rw [List.length_map];omega)) ?_
  rw [upd_upd]
  walk_at "rd"
  refine ⟨(e - z - g).toNat,by omega,e - z - g,ps++[(a.take e.toNat).drop k'.toNat],rfl,by rw [List.map_append];rfl,rfl,by rw [List.length_append,List.length_singleton];omega,by omega,?_⟩
  rw [ep,pcs_pos (by omega) (by omega),List.reverse_append,show (e - z - g).toNat=e.toNat - z.toNat - g.toNat by omega,show k'.toNat=e.toNat - z.toNat by omega]
  simp
 ·rename_i hc
  refine r_reverse upd_same ?_
  rw [upd_upd]
  walk_at "rd"
  refine q _ _ (same_upd (Same.refl _) hl) ?_
  rw [upd_same,ep,show e.toNat=0 by omega,pcs_zero,List.nil_append,List.map_reverse]
theorem ok_grouped {f:Addr} {fd:FuncData} (F:Fun K "grouped" "grouped" s_grouped f fd) (B:Blt mg) (C_parts_of:Has P w K mg base "parts_of" 1 ["text", "size", "between"] (sp_parts_of K)):FnOk P w K mg base CX0 2 f fd ["text", "size", "mark"] (sp_grouped K):=by
 refine F.ok sc_grouped (fun vs H Q E h=>?_) (fun cdv A outer s H vs Q E hr h=>?_)
 ·obtain ⟨a,z,m,rfl,h1,h2,h5,q⟩:=h
  rfl
 obtain ⟨a,z,m,rfl,h1,h2,h5,q⟩:=h
 refine ⟨_,pss_cons (ps_if (pt_cmpR op_eq (pv 1) (pe_int) (nomark _)) (pss_one (ps_ret (pv 0))) (pss_nil))
  (pss_one (ps_ret (pe_bm PySem.F.plainAttrs_str PySem.F.slot_str_join PySem.F.type_str_join mt_joinT (pv 2) (pa_cons (pe_callH C_parts_of hr rfl (pa_cons (pv 0) (pa_cons (pv 1) (pa_cons (pe_int) (pa_nil))))) (pa_nil))))),?_⟩
 walk_at "st"
 have bd:=fun hz:0 < z.toNat=>pcs_bd (a:=a) (g:=0) hz a.length a.length (Nat.le_refl _)
 walk_at "rd"
 ·rename_i hc
  subst hc
  have q':=q _ (Same.refl _)
  rw [show Int.toNat 0=0 from rfl,gr_zero] at q'
  exact q'
 ·rename_i hc p' H' g' e'
  have b:=bd (by omega)
  refine r_joinT e' (by rw [Lt_T,List.length_singleton,show Int.toNat 0=0 from rfl];omega) ?_
  rw [Lt_T,show Int.toNat 0=0 from rfl,gr_jn (by omega)]
  exact q _ g'
theorem ok_body_of {f:Addr} {fd:FuncData} (F:Fun K "body_of" "body_of" s_body_of f fd) (B:Blt mg) (C_grouped:Has P w K mg base "grouped" 2 ["text", "size", "mark"] (sp_grouped K)) (C_figures_of:Has P w K mg base "figures_of" 1 ["number", "base"] (sp_figures_of K)):FnOk P w K mg base CX0 3 f fd ["number", "base", "places", "point", "size", "mark"] (sp_body_of K):=by
 refine F.ok sc_body_of (fun vs H Q E h=>?_) (fun cdv A outer s H vs Q E hr h=>?_)
 ·obtain ⟨n,b,p,z,pt,m,rfl,hn,h2,h3,q⟩:=h
  rfl
 obtain ⟨n,b,p,z,pt,m,rfl,hn,h2,h3,q⟩:=h
 refine ⟨_,pss_cons (ps_set (i:=6) sc_body_of.nd rfl (Or.inl rfl) (pe_bm PySem.F.plainAttrs_str PySem.F.slot_str_rjust PySem.F.type_str_rjust mt_rjustT (pe_callH C_figures_of hr rfl (pa_cons (pv 0) (pa_cons (pv 1) (pa_nil)))) (pa_cons (pe_op op_add (pv 2) (pe_int)) (pa_cons (pe_strT (l:=[48]) (by decide +kernel)) (pa_nil)))))
  (pss_cons (ps_set (i:=7) sc_body_of.nd rfl (Or.inl rfl) (pe_op op_sub (pe_callBH call_lenT B.z_len rfl bo_len (pa_cons (pv 6) (pa_nil))) (pv 2)))
  (pss_cons (ps_set (i:=8) sc_body_of.nd rfl (Or.inl rfl) (pe_callH C_grouped hr rfl (pa_cons (pe_slice sl_str (pv 6) (po_none) (po_some (pv 7))) (pa_cons (pv 4) (pa_cons (pv 5) (pa_nil))))))
  (pss_cons (ps_if (pt_cmpR op_eq (pv 2) (pe_int) (nomark _)) (pss_one (ps_ret (pv 8))) (pss_nil))
  (pss_one (ps_ret (pe_op op_addS (pe_op op_addS (pv 8) (pv 3)) (pe_slice sl_str (pv 6) (po_some (pv 7)) (po_none)))))))),?_⟩
 walk_at "st"
 have big:=hn.big
 have hn':=hn
 obtain ⟨n1,n2,n3,n4,n5,n6⟩:=hn'
 have ds:=dgs_spec (b:=b.toNat) (p:=p.toNat) (n:=n.toNat) (by omega) (by omega) (by omega) n6
 have ws:=whl_spec (b:=b.toNat) (p:=p.toNat) (n:=n.toNat) (by omega) (by omega) (by omega) n6
 have gl:=gr_len (z:=z.toNat) (m:=m) (a:=whl b.toNat p.toNat n.toNat)
 walk_at "rd"
 rename_i l el f1 f2 f3 f4 f5
 have ed:List.replicate ((p+1).toNat - l.length) 48++l=dgs b.toNat p.toNat n.toNat:=by
  rw [el];unfold dgs;rw [show (p+1).toNat=p.toNat+1 by omega]
 have ew:(dgs b.toNat p.toNat n.toNat).take (((dgs b.toNat p.toNat n.toNat).length:Int) - p).toNat=whl b.toNat p.toNat n.toNat:=by
  unfold whl;rw [show (((dgs b.toNat p.toNat n.toNat).length:Int) - p).toNat=(dgs b.toNat p.toNat n.toNat).length - p.toNat by omega]
 have er:(dgs b.toNat p.toNat n.toNat).drop (((dgs b.toNat p.toNat n.toNat).length:Int) - p).toNat=rst b.toNat p.toNat n.toNat:=by
  unfold rst;rw [show (((dgs b.toNat p.toNat n.toNat).length:Int) - p).toNat=(dgs b.toNat p.toNat n.toNat).length - p.toNat by omega]
 rw [ed]
 walk_at "rd"
 rw [ew]
 walk_at "rd"
 ·rename_i H1 g1 hc
  have e:bdI n b p pt z m=gr z.toNat m (whl b.toNat p.toNat n.toNat):=by unfold bdI bdy;rw [if_pos (by omega)]
  have q':=q _ g1
  rw [e] at q';exact q'
 ·rename_i H1 g1 hc
  have e:bdI n b p pt z m=gr z.toNat m (whl b.toNat p.toNat n.toNat)++[pt]++rst b.toNat p.toNat n.toNat:=by unfold bdI bdy;rw [if_neg (by omega)]
  have q':=q _ g1
  rw [e] at q'
  rw [er];exact q'
theorem ok_ends_of {f : Addr} {fd : FuncData} (F : Fun K "ends_of" "ends_of" s_ends_of f fd) (B : Blt mg) {t_STYLES : Addr} (g_STYLES : mg "STYLES" = some (.ref t_STYLES))(sty : Sty w K t_STYLES) : FnOk P w K mg base CX0 1 f fd ["style", "below"] (sp_ends_of K) := by
  refine F.ok sc_ends_of (fun vs H Q E h => ?_) (fun cdv A outer s H vs Q E hr h => ?_)
  · obtain ⟨x, b, rfl, hx, q⟩ := h
    rfl
  obtain ⟨x, b, rfl, hx, q⟩ := h
  refine ⟨_, pss_cons (ps_if (pt_val (pv 1)) (pss_one (ps_ret (pe_ix ix_tup (pe_ix ix_kd (pe_glob rfl g_STYLES (v := .ref t_STYLES) rfl) (pv 0) (fun _ _ => rfl)) (pe_int) (fun _ _ => rfl)))) (pss_nil))
    (pss_one (ps_ret (pe_ix ix_tup (pe_ix ix_kd (pe_glob rfl g_STYLES (v := .ref t_STYLES) rfl) (pv 0) (fun _ _ => rfl)) (pe_int) (fun _ _ => rfl)))), ?_⟩
  walk_at "st"
  obtain ⟨p, a, c, kd, sq⟩ := sty x hx
  cases b with
  | true =>
    walk_at "rd"
    refine r_ixD kd ?_
    walk_at "rd"
    exact r_ixQ (sq H).1 rfl (q _ (sq H).2.2)
  | false =>
    walk_at "rd"
    refine r_ixD kd ?_
    walk_at "rd"
    exact r_ixQ (sq H).1 rfl (q _ (sq H).2.1)
theorem ok_signed {f:Addr} {fd:FuncData} (F:Fun K "signed" "signed" s_signed f fd) (B:Blt mg) (C_ends_of:Has P w K mg base "ends_of" 1 ["style", "below"] (sp_ends_of K)):FnOk P w K mg base CX0 2 f fd ["body", "style", "below"] (sp_signed K):=by
 refine F.ok sc_signed (fun vs H Q E h=>?_) (fun cdv A outer s H vs Q E hr h=>?_)
 ·obtain ⟨l,x,b,rfl,hx,hl,q⟩:=h
  rfl
 obtain ⟨l,x,b,rfl,hx,hl,q⟩:=h
 refine ⟨_,pss_cons (ps_set (i:=3) sc_signed.nd rfl (Or.inl rfl) (pe_callH C_ends_of hr rfl (pa_cons (pv 1) (pa_cons (pv 2) (pa_nil)))))
  (pss_one (ps_ret (pe_op op_addS (pe_op op_addS (pe_ix ix_tup (pv 3) (pe_int) (fun _ _=>rfl)) (pv 0)) (pe_ix ix_tup (pv 3) (pe_int) (fun _ _=>rfl))))),?_⟩
 walk_at "st"
 have ln:=st_len hx b
 walk_at "rd"
 exact q
theorem ok_stands_between_figures {f:Addr} {fd:FuncData} (F:Fun K "stands_between_figures" "stands_between_figures" s_stands_between_figures f fd) (B:Blt mg) {t_FIGURES:Tok} (g_FIGURES:mg "FIGURES" = some (.str "0123456789abcdef" t_FIGURES)):FnOk P w K mg base CX0 1 f fd ["body"] (sp_stands_between_figures K):=by
 refine F.ok sc_stands_between_figures (fun vs H Q E h=>?_) (fun cdv A outer s H vs Q E hr h=>?_)
 ·obtain ⟨l,rfl,al,hl,q1,q2⟩:=h
  rfl
 obtain ⟨l,rfl,al,hl,q1,q2⟩:=h
 refine ⟨_,pss_one (ps_ret (pe_and (pe_cmpR op_ne (pv 0) (pe_strT (l:=[]) (by decide +kernel)) (nomark _)) (pe_and (pe_cmpR op_inS (pe_ix ix_str (pv 0) (pe_int) (fun _ _=>rfl)) (pe_glob rfl g_FIGURES (v:=.str "0123456789abcdef") ⟨_,rfl⟩) (by with_unfolding_all rfl)) (pe_one (pe_cmpR op_inS (pe_ix ix_str (pv 0) (pe_un un_neg (pe_int)) (fun _ _=>rfl)) (pe_glob rfl g_FIGURES (v:=.str "0123456789abcdef") ⟨_,rfl⟩) (by with_unfolding_all rfl)))))),?_⟩
 walk_at "st"
 unfold Fg at q1 q2
 rcases Nat.eq_zero_or_pos l.length with p | p
 ·have e:=List.eq_nil_of_length_eq_zero p
  subst e
  walk_at "rd"
  exact q2 fun z=>z.1 rfl
 ·have c0:=getD_asc al (i:=0) p
  have c1:=getD_asc al (i:=l.length - 1) (by omega)
  have ne:l≠[]:=List.length_pos_iff.mp p
  walk_at "rd"
  ·rename_i h1 h2
   by_cases h3:0≤fv (l.getD (l.length - 1) 0)
   ·rw [decide_eq_true h3];exact q1 ⟨ne,h2,h3⟩
   ·rw [decide_eq_false h3];exact q2 fun z=>h3 z.2.2
  ·rename_i h1 h2
   exact q2 fun z=>h2 z.2.1
  ·rename_i h1
   exact absurd h1 (by rw [decide_eq_false ne];decide)
theorem ok_unsigned {f:Addr} {fd:FuncData} (F:Fun K "unsigned" "unsigned" s_unsigned f fd) (B:Blt mg) (C_ends_of:Has P w K mg base "ends_of" 1 ["style", "below"] (sp_ends_of K)) (C_stands_between_figures:Has P w K mg base "stands_between_figures" 1 ["body"] (sp_stands_between_figures K)) (C_signed:Has P w K mg base "signed" 2 ["body", "style", "below"] (sp_signed K)){c_NoCore:Addr} (m_NoCore:mg "NoCore" = some (.ref c_NoCore)) (e_NoCore:Exc K c_NoCore) (n_NoCore:Nm K "NoCore" c_NoCore):FnOk P w K mg base (CXE P w) 3 f fd ["core", "style"] (sp_unsigned K):=by
 refine F.okX sc_unsigned (fun vs H Q E h=>?_) (fun cdv A outer s H vs Q E hr h tk=>?_)
 ·obtain ⟨t,x,rfl,hx,al,hl,q1,q2⟩:=h
  all_goals rfl
 refine ⟨_,pss_cons (ps_for PassesOwn.leaving rfl (pi_tup (pe_tup (pa_cons (pe_bl) (pa_cons (pe_bl) (pa_nil))))) (pg_name (i:=2) sc_unsigned.nd rfl (Or.inl rfl)) (pss_cons (ps_set (i:=3) sc_unsigned.nd rfl (Or.inl rfl) (pe_callH C_ends_of hr rfl (pa_cons (pv 1) (pa_cons (pv 2) (pa_nil)))))
  (pss_cons (ps_set (i:=4) sc_unsigned.nd rfl (Or.inl rfl) (pe_slice sl_str (pv 0) (po_some (pe_callBH call_lenT B.z_len rfl bo_len (pa_cons (pe_ix ix_tup (pv 3) (pe_int) (fun _ _=>rfl)) (pa_nil)))) (po_some (pe_op op_sub (pe_callBH call_lenT B.z_len rfl bo_len (pa_cons (pv 0) (pa_nil))) (pe_callBH call_lenT B.z_len rfl bo_len (pa_cons (pe_ix ix_tup (pv 3) (pe_int) (fun _ _=>rfl)) (pa_nil)))))))
  (pss_one (ps_if (PW.pt (pw_and (pt_val (pe_callH C_stands_between_figures hr rfl (pa_cons (pv 4) (pa_nil)))) (pw_and1 (pt_cmpR op_eq (pe_callH C_signed hr rfl (pa_cons (pv 4) (pa_cons (pv 1) (pa_cons (pv 2) (pa_nil))))) (pv 0) (nomark _))))) (pss_one (ps_ret (pe_tup (pa_cons (pv 2) (pa_cons (pv 4) (pa_nil)))))) (pss_nil))))))
  (pss_one (ps_raise tk rfl e_NoCore rfl m_NoCore (pa_cons (pe_str) (pa_nil)))),?_⟩
 obtain ⟨t,x,rfl,hx,al,hl,q1,q2⟩:=h
 all_goals walk_at "st"
 have q2':=fun n0 n1 H' g=>q2 n0 n1 c_NoCore H' n_NoCore g
 walk_at "rd"
 rename_i p0 H0 g0 e0
 refine r_kForT (SqT.of e0) (fun i σ H'=>H'=H0∧(1≤i → ¬ Sgd x false t)∧(2≤i → ¬ Sgd x true t) ∧ ∃ r1 r2 r3:Option V,σ=[some (.str (T t)),some (.str x),r1,r2,r3]) ⟨rfl,fun z=>absurd z (by omega),fun z=>absurd z (by omega),none,none,none,rfl⟩ (fun i σ H' _ z=>by rw [z.1];exact SqT.of e0) ?_ ?_
 ·rintro i y σ H' hi ⟨rfl,n0,n1,r1,r2,r3,rfl⟩
  have hm:=List.mem_of_getElem? hi
  simp only [List.mem_cons,List.not_mem_nil,or_false] at hm
  have hy : ∃ b:Bool,y = .bl b∧(b=false↔i=0)∧(b=true↔i=1):=by
   match i,hi with
   | 0,hi=>cases hi;exact ⟨false,rfl,by simp,by simp⟩
   | 1,hi=>cases hi;exact ⟨true,rfl,by simp,by simp⟩
   | i+2,hi=>cases hi
  obtain ⟨b,rfl,hb0,hb1⟩:=hy
  have sl:=st_len hx b
  have nxt : ¬ Sgd x b t→(1≤i+1 → ¬ Sgd x false t)∧(2≤i+1 → ¬ Sgd x true t):=fun h=>by
   cases b
   ·have:=hb0.mp rfl;subst this
    exact ⟨fun _=>h,fun z=>absurd z (by omega)⟩
   ·have:=hb1.mp rfl;subst this
    exact ⟨fun _=>n0 (by omega),fun _=>h⟩
  have ab:Asc (bod x b t):=bod_asc al
  have lb:=bod_len (x:=x) (b:=b) (t:=t)
  rcases Nat.eq_zero_or_pos t.length with tz | tz
  ·have e:=List.eq_nil_of_length_eq_zero tz
   subst e
   have nb : ¬ Sgd x b []:=fun z=>by
    have:=List.length_pos_iff.mpr z.1.1
    rw [lb] at this;simp at this
   have anil:Asc []:=Asc.nil
   walk_at "rd"
   ·rename_i fg _ _ _ _ _
    exact absurd rfl fg.1
   ·rename_i fg _
    exact absurd rfl fg.1
   ·exact ⟨rfl,(nxt nb).1,(nxt nb).2,_,_,_,rfl⟩
  ·have eb:(t.take ((t.length:Int) - (stT x b).length).toNat).drop ((stL x b).length:Int).toNat=bod x b t:=by
    unfold bod;rw [Int.toNat_natCast,show ((t.length:Int) - (stT x b).length).toNat=t.length - (stT x b).length by omega]
   walk_at "rd"
   rw [eb]
   walk_at "rd"
   ·rename_i fg hc p1 H1 g1 e1
    exact q1 b ⟨fg,hc⟩ _ _ (g0.trans g1) e1
   ·rename_i fg hc
    have n:=nxt fun z=>hc z.2
    exact ⟨rfl,n.1,n.2,_,_,_,rfl⟩
   ·rename_i fg
    have n:=nxt fun z=>fg z.1
    exact ⟨rfl,n.1,n.2,_,_,_,rfl⟩
 ·rintro σ H' ⟨rfl,n0,n1,r1,r2,r3,rfl⟩
  walk_at "rd"
  exact ⟨small (by decide),q2' (n0 (by decide)) (n1 (by decide)) _ g0⟩
theorem ok_is_whole {f:Addr} {fd:FuncData} (F:Fun K "is_whole" "is_whole" s_is_whole f fd) (B:Blt mg):FnOk P w K mg base CX0 1 f fd ["thing"] (sp_is_whole K):=by
 refine F.ok sc_is_whole (fun vs H Q E h=>?_) (fun cdv A outer s H vs Q E hr h=>?_)
 ·obtain ⟨i,rfl,q⟩ | ⟨v,rfl,h,q⟩:=h
  all_goals rfl
 refine ⟨_,pss_one (ps_ret (pe_and (pe_callBH call_isiO B.z_isinstance rfl bo_isinstance (pa_cons (pv 0) (pa_cons (pe_bltn rfl B.z_int bo_int (v:=.ty "int") rfl) (pa_nil)))) (pe_one (pe_not (pe_callBH call_isiO B.z_isinstance rfl bo_isinstance (pa_cons (pv 0) (pa_cons (pe_bltn rfl B.z_bool bo_bool (v:=.ty "bool") rfl) (pa_nil)))))))),?_⟩
 obtain ⟨i,rfl,q⟩ | ⟨v,rfl,h,q⟩:=h
 all_goals walk_at "st"
 ·walk_at "rd"
  exact q
 ·cases h
  all_goals walk_at "rd"
  all_goals exact q
theorem ok_common_divisor {f:Addr} {fd:FuncData} (F:Fun K "common_divisor" "common_divisor" s_common_divisor f fd) (B:Blt mg):FnOk P w K mg base CX0 1 f fd ["one", "other"] (sp_common_divisor K):=by
 refine F.ok sc_common_divisor (fun vs H Q E h=>?_) (fun cdv A outer s H vs Q E hr h=>?_)
 ·obtain ⟨a,b,rfl,q⟩:=h
  rfl
 obtain ⟨a,b,rfl,q⟩:=h
 refine ⟨_,pss_cons (ps_set (i:=2) sc_common_divisor.nd rfl (Or.inl rfl) (pe_callBH call_absN B.z_abs rfl bo_abs (pa_cons (pv 0) (pa_nil))))
  (pss_cons (ps_set (i:=3) sc_common_divisor.nd rfl (Or.inl rfl) (pe_callBH call_absN B.z_abs rfl bo_abs (pa_cons (pv 1) (pa_nil))))
  (pss_cons (ps_while PassesOwn.never (pt_cmpR op_ne (pv 3) (pe_int) (nomark _)) (pss_cons (ps_set (i:=4) sc_common_divisor.nd rfl (Or.inl rfl) (pe_op op_modP (pv 2) (pv 3)))
  (pss_cons (ps_set (i:=2) sc_common_divisor.nd rfl (Or.inl rfl) (pv 3))
  (pss_one (ps_set (i:=3) sc_common_divisor.nd rfl (Or.inl rfl) (pv 4))))))
  (pss_one (ps_ret (pv 2))))),?_⟩
 walk_at "st"
 walk_at "rd"
 rename_i k1 hk1 k2 hk2
 have ha:=gcd_abs hk1 hk2
 refine r_while (fun m σ H'=>H'=H ∧ ∃ (g l:Int) (r:Option V),σ=[some (.int a),some (.int b),some (.int g),some (.int l),r]∧0≤g∧0≤l∧Int.gcd g l=Int.gcd a b∧m=l.toNat) ⟨_,rfl,_,_,_,rfl,ha.1,ha.2.1,ha.2.2,rfl⟩ ?_
 rintro m σ H' ⟨rfl,g,l,r,rfl,hg,hl,hgl,rfl⟩
 walk_at "rd"
 ·rename_i hc
  have:l=0:=by omega
  subst this
  have e:g=((Int.gcd a b:Nat):Int):=by rw [← hgl];simp;omega
  rw [e];exact q
 ·rename_i hc
  have hc':0 < l:=by omega
  have h1:=Int.emod_nonneg g (show l≠0 by omega)
  have h2:=Int.emod_lt_of_pos g hc'
  exact ⟨_,by omega,rfl,_,_,_,rfl,by omega,h1,by rw [gcd_turn hg hc'];exact hgl,rfl⟩
theorem ok_is_fraction {f:Addr} {fd:FuncData} (F:Fun K "is_fraction" "is_fraction" s_is_fraction f fd) (B:Blt mg) (C_is_whole:Has P w K mg base "is_whole" 1 ["thing"] (sp_is_whole K)) (C_common_divisor:Has P w K mg base "common_divisor" 1 ["one", "other"] (sp_common_divisor K)):FnOk P w K mg base CX0 2 f fd ["thing"] (sp_is_fraction K):=by
 refine F.ok sc_is_fraction (fun vs H Q E h=>?_) (fun cdv A outer s H vs Q E hr h=>?_)
 ·obtain ⟨p,a,b,rfl,e,h1,h2,q⟩ | ⟨v,rfl,h,q⟩:=h
  all_goals rfl
 refine ⟨_,pss_cons (ps_if (PW.pt (pw_or (pt_not (pt_val (pe_callBH call_isiO B.z_isinstance rfl bo_isinstance (pa_cons (pv 0) (pa_cons (pe_bltn rfl B.z_tuple bo_tuple (v:=.ty "tuple") rfl) (pa_nil)))))) (pw_or1 (pt_cmpR op_ne (pe_callBH call_lenN B.z_len rfl bo_len (pa_cons (pv 0) (pa_nil))) (pe_int) (nomark _))))) (pss_one (ps_ret (pe_bl))) (pss_nil))
  (pss_cons (ps_if (PW.pt (pw_or (pt_not (pt_val (pe_callH C_is_whole hr rfl (pa_cons (pe_ix ix_tup (pv 0) (pe_int) (fun _ _=>rfl)) (pa_nil))))) (pw_or1 (pt_not (pt_val (pe_callH C_is_whole hr rfl (pa_cons (pe_ix ix_tup (pv 0) (pe_int) (fun _ _=>rfl)) (pa_nil)))))))) (pss_one (ps_ret (pe_bl))) (pss_nil))
  (pss_one (ps_ret (pe_and (pe_cmpR op_ge (pe_ix ix_tup (pv 0) (pe_int) (fun _ _=>rfl)) (pe_int) (nomark _)) (pe_one (pe_cmpR op_eq (pe_callH C_common_divisor hr rfl (pa_cons (pe_ix ix_tup (pv 0) (pe_int) (fun _ _=>rfl)) (pa_cons (pe_ix ix_tup (pv 0) (pe_int) (fun _ _=>rfl)) (pa_nil)))) (pe_int) (nomark _))))))),?_⟩
 obtain ⟨p,a,b,rfl,e,h1,h2,q⟩ | ⟨v,rfl,h,q⟩:=h
 all_goals walk_at "st"
 ·walk_at "rd"
  rw [decide_eq_true (by omega)]
  exact q
 ·cases h
  all_goals walk_at "rd"
  all_goals first | exact q | exact K | (rw [decide_eq_false (by omega)];exact q)
def cmore (L:Addr):List (Str × V):=[("names", .ref L)]
def wns:List Str:=["signs", "least", "most"]
def cns:List Str:=["names"]
theorem cm_none {L:Addr} {m:Str} (h1:m ≠ "names"):(cmore L).lookup m=none:=(lk_ne h1).trans rfl
section
variable {H : Hp} {a C L : Addr} {wd : Int} {f : Nat} {x : Str} {st : Bool}
theorem cf_names (F:FormAt K H a C wd f x st (cmore L)):FldAt K H a "names" (.ref L):=F.own (by decide +kernel) lk_eq (List.mem_cons_self ..)
theorem cf_meth {m:Str} (F:FormAt K H a C wd f x st (cmore L)) (h0:m ∉ bns) (h1:m ≠ "names"):InsM H a C m:=F.meth h0 (cm_none h1)
end
local macro_rules | `(tactic| walk_at "fld2")=>`(tactic| (exact cf_names (by walk_at "fm")))
local macro_rules | `(tactic| walk_at "ins")=>`(tactic| exact cf_meth (by walk_at "fm") (by decide +kernel) (by decide +kernel))
def sp_Form___init__ (K:W.Frag):Sp:=fun vs H Q _=>∃ (C a dx:Addr) (wd:Int) (f:Nat) (x:Str) (st:Bool),vs=[.ref a,.int wd,.str (T [f]),.str x,.bl st]∧Cls K C∧NoAttrs K C bns∧H a=some (.ins C dx [])∧Q .non (upd H a (.ins C dx (bfs wd f x st [])))
theorem ok_Form___init__ {f:Addr} {fd:FuncData} (F:FunD K "__init__" "Form.__init__" s_Form___init__ f fd) (B:Blt mg):FnOk P w K mg base CX0 1 f fd ["self", "width", "fill", "side", "strict"] (sp_Form___init__ K):=by
 refine F.ok sc_Form___init__ (fun vs H Q E h=>?_) (fun cdv A outer s H vs Q E hr h=>?_)
 ·obtain ⟨C,a,dx,wd,f,x,st,rfl,cl,na,e0,q⟩:=h
  rfl
 obtain ⟨C,a,dx,wd,f,x,st,rfl,cl,na,e0,q⟩:=h
 refine ⟨_,pss_cons (ps_fld (pv 0) (pv 1) rfl)
  (pss_cons (ps_fld (pv 0) (pv 2) rfl)
  (pss_cons (ps_fld (pv 0) (pv 3) rfl)
  (pss_one (ps_fld (pv 0) (pv 4) rfl)))),?_⟩
 walk_at "st"
 walk_at "rd"
 refine r_kSet e0 cl (na.at (by decide +kernel)) (by decide) ?_
 rw [putF_nil]
 walk_at "rd"
 refine r_kSet upd_same cl (na.at (by decide +kernel)) (by show 1 < 1000;decide) ?_
 rw [upd_upd,putF_ne (by decide +kernel),putF_nil]
 walk_at "rd"
 refine r_kSet upd_same cl (na.at (by decide +kernel)) (by show 2 < 1000;decide) ?_
 rw [upd_upd,putF_ne (by decide +kernel),putF_ne (by decide +kernel),putF_nil]
 walk_at "rd"
 refine r_kSet upd_same cl (na.at (by decide +kernel)) (by show 3 < 1000;decide) ?_
 rw [upd_upd,putF_ne (by decide +kernel),putF_ne (by decide +kernel),putF_ne (by decide +kernel),putF_nil]
 walk_at "rd"
 exact q
def sp_WordForm___init__ (K:W.Frag) (C:Addr):Sp:=fun vs H Q _=>∃ (a dx:Addr) (sg:List Nat) (lo hi wd:Int) (f:Nat) (x:Str) (st:Bool),vs=[.ref a,.str (T sg),.int lo,.int hi,.int wd,.str (T [f]),.str x,.bl st]∧H a=some (.ins C dx [])∧Q .non (upd H a (.ins C dx (bfs wd f x st (wmore sg lo hi))))
theorem ok_WordForm___init__ {f:Addr} {fd:FuncData} (F:FunD K "__init__" "WordForm.__init__" s_WordForm___init__ f fd) (B:Blt mg) {c_Form:Addr} {c_WordForm:Addr} (m_Form:mg "Form" = some (.ref c_Form)) (C_Form_init:HasC P w K mg base CX0 c_Form "__init__" 1 ["self", "width", "fill", "side", "strict"] (sp_Form___init__ K))(cl:Cls K c_WordForm) (na:NoAttrs K c_WordForm (bns++wns)):FnOk P w K mg base CX0 2 f fd ["self", "signs", "least", "most", "width", "fill", "side", "strict"] (sp_WordForm___init__ K c_WordForm):=by
 refine F.ok sc_WordForm___init__ (fun vs H Q E h=>?_) (fun cdv A outer s H vs Q E hr h=>?_)
 ·obtain ⟨a,dx,sg,lo,hi,wd,f,x,st,rfl,e0,q⟩:=h
  rfl
 obtain ⟨a,dx,sg,lo,hi,wd,f,x,st,rfl,e0,q⟩:=h
 refine ⟨_,pss_cons (ps_expr (pe_cmethH C_Form_init pass0 hr rfl m_Form (pa_cons (pv 0) (pa_cons (pv 4) (pa_cons (pv 5) (pa_cons (pv 6) (pa_cons (pv 7) (pa_nil))))))))
  (pss_cons (ps_fld (pv 0) (pv 1) rfl)
  (pss_cons (ps_fld (pv 0) (pv 2) rfl)
  (pss_one (ps_fld (pv 0) (pv 3) rfl)))),?_⟩
 walk_at "st"
 have na0:NoAttrs K c_WordForm bns:=⟨na.1,na.2.1,na.2.2.1,na.2.2.2.1,trivial⟩
 walk_at "rd"
 refine ⟨c_WordForm,a,dx,wd,f,x,st,rfl,cl,na0,e0,?_⟩
 walk_at "rd"
 refine r_kSet upd_same cl (na.at (by decide +kernel)) (by show 4 < 1000;decide) ?_
 rw [upd_upd,bfs_put (by decide +kernel),putF_nil]
 walk_at "rd"
 refine r_kSet upd_same cl (na.at (by decide +kernel)) (by show 5 < 1000;decide) ?_
 rw [upd_upd,bfs_put (by decide +kernel),putF_ne (by decide +kernel),putF_nil]
 walk_at "rd"
 refine r_kSet upd_same cl (na.at (by decide +kernel)) (by show 6 < 1000;decide) ?_
 rw [upd_upd,bfs_put (by decide +kernel),putF_ne (by decide +kernel),putF_ne (by decide +kernel),putF_nil]
 walk_at "rd"
 exact q
def sp_ChoiceForm___init__ (K:W.Frag) (C:Addr):Sp:=fun vs H Q _=>∃ (a dx p:Addr) (ns:List (List Nat)) (wd:Int) (f:Nat) (x:Str) (st:Bool),vs=[.ref a,.ref p,.int wd,.str (T [f]),.str x,.bl st]∧H a=some (.ins C dx [])∧H p=some (.lst (tsV ns)) ∧
 ∀ L H',SB a H H'→H L=none→H' L=some (.lst (tsV ns))→H' a=some (.ins C dx (bfs wd f x st (cmore L)))→Q .non H'
theorem ok_ChoiceForm___init__ {f:Addr} {fd:FuncData} (F:FunD K "__init__" "ChoiceForm.__init__" s_ChoiceForm___init__ f fd) (B:Blt mg) {c_Form:Addr} {c_ChoiceForm:Addr} (m_Form:mg "Form" = some (.ref c_Form)) (C_Form_init:HasC P w K mg base CX0 c_Form "__init__" 1 ["self", "width", "fill", "side", "strict"] (sp_Form___init__ K))(cl:Cls K c_ChoiceForm) (na:NoAttrs K c_ChoiceForm (bns++cns)):FnOk P w K mg base CX0 2 f fd ["self", "names", "width", "fill", "side", "strict"] (sp_ChoiceForm___init__ K c_ChoiceForm):=by
 refine F.ok sc_ChoiceForm___init__ (fun vs H Q E h=>?_) (fun cdv A outer s H vs Q E hr h=>?_)
 ·obtain ⟨a,dx,p,ns,wd,f,x,st,rfl,e0,hp,q⟩:=h
  rfl
 obtain ⟨a,dx,p,ns,wd,f,x,st,rfl,e0,hp,q⟩:=h
 refine ⟨_,pss_cons (ps_expr (pe_cmethH C_Form_init pass0 hr rfl m_Form (pa_cons (pv 0) (pa_cons (pv 2) (pa_cons (pv 3) (pa_cons (pv 4) (pa_cons (pv 5) (pa_nil))))))))
  (pss_one (ps_fld (pv 0) (pe_callTy call_listOf rfl B.z_list bo_list (pa_cons (pv 1) (pa_nil))) rfl)),?_⟩
 walk_at "st"
 have na0:NoAttrs K c_ChoiceForm bns:=⟨na.1,na.2.1,na.2.2.1,na.2.2.2.1,trivial⟩
 walk_at "rd"
 refine ⟨c_ChoiceForm,a,dx,wd,f,x,st,rfl,cl,na0,e0,?_⟩
 walk_at "rd"
 have nap:p≠a:=fun z=>by rw [z,e0] at hp;cases hp
 refine r_listOf (SqL.of (show upd H a (.ins c_ChoiceForm dx (bfs wd f x st [])) p=some (.lst (tsV ns)) by rw [upd_ne nap];exact hp)) fun l H1 g1 n1 e1=>?_
 have nla:l≠a:=fun z=>by rw [z,upd_same] at n1;cases n1
 rw [upd_ne nla] at n1
 walk_at "rd"
 refine r_kSet (g1.at upd_same) cl (na.at (by decide +kernel)) (by show 4 < 1000;decide) ?_
 rw [bfs_put (by decide +kernel),putF_nil]
 walk_at "rd"
 refine q l _ (fun b o hb e=>?_) n1 (by rw [upd_ne nla];exact e1) upd_same
 rw [upd_ne hb]
 exact g1.at (by rw [upd_ne hb];exact e)
def sp_NumberForm___init__ (K:W.Frag) (C:Addr):Sp:=fun vs H Q _=>∃ (a dx:Addr) (fg pl b:Int) (sn:Str) (z:Int) (m pt:Nat) (wy:Str) (wd:Int) (f:Nat) (x:Str) (st:Bool),vs=[.ref a,.int fg,.int pl,.int b,.str sn,.int z,.str (T [m]),.str (T [pt]),.str wy,.int wd,.str (T [f]),.str x,.bl st]∧H a=some (.ins C dx [])∧Q .non (upd H a (.ins C dx (bfs wd f x st (nmore fg pl b sn z m pt wy))))
theorem ok_NumberForm___init__ {f:Addr} {fd:FuncData} (F:FunD K "__init__" "NumberForm.__init__" s_NumberForm___init__ f fd) (B:Blt mg) {c_Form:Addr} {c_NumberForm:Addr} (m_Form:mg "Form" = some (.ref c_Form)) (C_Form_init:HasC P w K mg base CX0 c_Form "__init__" 1 ["self", "width", "fill", "side", "strict"] (sp_Form___init__ K))(cl:Cls K c_NumberForm) (na:NoAttrs K c_NumberForm (bns++nns)):FnOk P w K mg base CX0 2 f fd ["self", "figures", "places", "base", "sign", "size", "mark", "point", "way", "width", "fill", "side", "strict"] (sp_NumberForm___init__ K c_NumberForm):=by
 refine F.ok sc_NumberForm___init__ (fun vs H Q E h=>?_) (fun cdv A outer s H vs Q E hr h=>?_)
 ·obtain ⟨a,dx,fg,pl,b,sn,z,m,pt,wy,wd,f,x,st,rfl,e0,q⟩:=h
  rfl
 obtain ⟨a,dx,fg,pl,b,sn,z,m,pt,wy,wd,f,x,st,rfl,e0,q⟩:=h
 refine ⟨_,pss_cons (ps_expr (pe_cmethH C_Form_init pass0 hr rfl m_Form (pa_cons (pv 0) (pa_cons (pv 9) (pa_cons (pv 10) (pa_cons (pv 11) (pa_cons (pv 12) (pa_nil))))))))
  (pss_cons (ps_fld (pv 0) (pv 1) rfl)
  (pss_cons (ps_fld (pv 0) (pv 2) rfl)
  (pss_cons (ps_fld (pv 0) (pv 3) rfl)
  (pss_cons (ps_fld (pv 0) (pv 4) rfl)
  (pss_cons (ps_fld (pv 0) (pv 5) rfl)
  (pss_cons (ps_fld (pv 0) (pv 6) rfl)
  (pss_cons (ps_fld (pv 0) (pv 7) rfl)
  (pss_one (ps_fld (pv 0) (pv 8) rfl))))))))),?_⟩
 walk_at "st"
 walk_at "rd"
 refine ⟨c_NumberForm,a,dx,wd,f,x,st,rfl,cl,⟨na.1,na.2.1,na.2.2.1,na.2.2.2.1,trivial⟩,e0,?_⟩
 walk_at "rd"
 refine r_kSet upd_same cl (na.at (by decide +kernel)) (by show 4 < 1000;decide) ?_
 rw [upd_upd,bfs_put (by decide +kernel),putF_nil]
 walk_at "rd"
 refine r_kSet upd_same cl (na.at (by decide +kernel)) (by show 5 < 1000;decide) ?_
 rw [upd_upd,bfs_put (by decide +kernel),putF_ne (by decide +kernel),putF_nil]
 walk_at "rd"
 refine r_kSet upd_same cl (na.at (by decide +kernel)) (by show 6 < 1000;decide) ?_
 rw [upd_upd,bfs_put (by decide +kernel),putF_ne (by decide +kernel),putF_ne (by decide +kernel),putF_nil]
 walk_at "rd"
 refine r_kSet upd_same cl (na.at (by decide +kernel)) (by show 7 < 1000;decide) ?_
 rw [upd_upd,bfs_put (by decide +kernel),putF_ne (by decide +kernel),putF_ne (by decide +kernel),putF_ne (by decide +kernel),putF_nil]
 walk_at "rd"
 refine r_kSet upd_same cl (na.at (by decide +kernel)) (by show 8 < 1000;decide) ?_
 rw [upd_upd,bfs_put (by decide +kernel),putF_ne (by decide +kernel),putF_ne (by decide +kernel),putF_ne (by decide +kernel),putF_ne (by decide +kernel),putF_nil]
 walk_at "rd"
 refine r_kSet upd_same cl (na.at (by decide +kernel)) (by show 9 < 1000;decide) ?_
 rw [upd_upd,bfs_put (by decide +kernel),putF_ne (by decide +kernel),putF_ne (by decide +kernel),putF_ne (by decide +kernel),putF_ne (by decide +kernel),putF_ne (by decide +kernel),putF_nil]
 walk_at "rd"
 refine r_kSet upd_same cl (na.at (by decide +kernel)) (by show 10 < 1000;decide) ?_
 rw [upd_upd,bfs_put (by decide +kernel),putF_ne (by decide +kernel),putF_ne (by decide +kernel),putF_ne (by decide +kernel),putF_ne (by decide +kernel),putF_ne (by decide +kernel),putF_ne (by decide +kernel),putF_nil]
 walk_at "rd"
 refine r_kSet upd_same cl (na.at (by decide +kernel)) (by show 11 < 1000;decide) ?_
 rw [upd_upd,bfs_put (by decide +kernel),putF_ne (by decide +kernel),putF_ne (by decide +kernel),putF_ne (by decide +kernel),putF_ne (by decide +kernel),putF_ne (by decide +kernel),putF_ne (by decide +kernel),putF_ne (by decide +kernel),putF_nil]
 walk_at "rd"
 exact q
theorem ok_NumberForm_is_too_great {f:Addr} {fd:FuncData} (F:FunD K "is_too_great" "NumberForm.is_too_great" s_NumberForm_is_too_great f fd) (B:Blt mg) {c_NumberForm:Addr} (C_power_of:Has P w K mg base "power_of" 1 ["base", "times"] (sp_power_of K)):FnOk P w K mg base CX0 2 f fd ["self", "number"] (sp_NumberForm_is_too_great K c_NumberForm):=by
 refine F.ok sc_NumberForm_is_too_great (fun vs H Q E h=>?_) (fun cdv A outer s H vs Q E hr h=>?_)
 ·obtain ⟨a,fg,pl,b,sn,z,m,pt,wy,wd,f,x,st,n,rfl,F0,ok,q⟩:=h
  rfl
 obtain ⟨a,fg,pl,b,sn,z,m,pt,wy,wd,f,x,st,n,rfl,F0,ok,q⟩:=h
 refine ⟨_,pss_one (ps_ret (pe_cmpR op_ge (pv 1) (pe_callH C_power_of hr rfl (pa_cons (pe_fld (pv 0) rfl) (pa_cons (pe_op op_add (pe_fld (pv 0) rfl) (pe_fld (pv 0) rfl)) (pa_nil)))) (nomark _))),?_⟩
 walk_at "st"
 have o1:=ok.fg1;have o2:=ok.fg2;have o3:=ok.pl1;have o4:=ok.pl2;have o5:=ok.b1;have o6:=ok.b2
 walk_at "rd"
 exact q
theorem ncore_ok {fg pl b:Int} {sn:Str} {z:Int} {m pt:Nat} {wy:Str} {wd:Int} {f:Nat} {x:Str} {k:Int} (ok:NumS fg pl b sn z m pt wy wd f x) (h:k.natAbs < b.toNat ^ (fg+pl).toNat):NumB k.natAbs b pl∧Sgd sn (decide (k < 0)) (ncore pl b sn z m pt k)∧Asc (ncore pl b sn z m pt k)∧(ncore pl b sn z m pt k).length≤400:=by
 have o1:=ok.fg1;have o2:=ok.fg2;have o3:=ok.pl1;have o4:=ok.pl2;have o5:=ok.b1;have o6:=ok.b2
 have e1:b.toNat ^ (fg+pl).toNat≤b.toNat ^ (40+pl.toNat):=Nat.pow_le_pow_right (by omega) (by omega)
 have nb:NumB k.natAbs b pl:=⟨by omega,o5,o6,o3,o4,by omega⟩
 have bs:=bdy_spec (z:=z.toNat) (b:=b.toNat) (p:=pl.toNat) (n:=(k.natAbs:Int).toNat) (by omega) (by omega) (by omega) nb.2.2.2.2.2 ok.pt ok.m
 have e:bod sn (decide (k < 0)) (ncore pl b sn z m pt k)=bdI k.natAbs b pl pt z m:=bod_sg
 have sl:=sg_len ok.sn (decide (k < 0)) (bdI k.natAbs b pl pt z m)
 have sa:=st_asc ok.sn (decide (k < 0))
 refine ⟨nb,⟨by rw [e];exact bs.1,by rw [e];rfl⟩,(sa.1.app bs.2.1).app sa.2,?_⟩
 have:=bs.2.2
 unfold ncore
 unfold bdI at sl ⊢
 omega
theorem ok_NumberForm_core {f:Addr} {fd:FuncData} (F:FunD K "core" "NumberForm.core" s_NumberForm_core f fd) (B:Blt mg) {c_NumberForm:Addr} {c_NoValue:Addr} {c_TooGreat:Addr} (cl_NumberForm:Cls K c_NumberForm) (m_NoValue:mg "NoValue" = some (.ref c_NoValue)) (m_TooGreat:mg "TooGreat" = some (.ref c_TooGreat)) (C_gridded:Has P w K mg base "gridded" 2 ["value", "base", "places", "way"] (sp_gridded K)) (C_body_of:Has P w K mg base "body_of" 3 ["number", "base", "places", "point", "size", "mark"] (sp_body_of K)) (C_signed:Has P w K mg base "signed" 2 ["body", "style", "below"] (sp_signed K)) (C_is_fraction:Has P w K mg base "is_fraction" 2 ["thing"] (sp_is_fraction K)) (e_NoValue:Exc K c_NoValue) (e_TooGreat:Exc K c_TooGreat) (M_NumberForm_is_too_great:HasM P w K mg base CX0 c_NumberForm "is_too_great" 2 ["self", "number"] (sp_NumberForm_is_too_great K c_NumberForm)):FnOk P w K mg base (CXE2 P w) 4 f fd ["self", "value"] (sp_NumberForm_core K c_NumberForm c_NoValue c_TooGreat):=by
 refine F.okX2 sc_NumberForm_core (fun vs H Q E h=>?_) (fun cdv A outer s H vs Q E hr h tk pp=>?_)
 ·obtain ⟨o,w,fg,pl,b,sn,z,m,pt,wy,wd,f,x,st,rfl,F0,ok,hw⟩:=h
  all_goals rfl
 refine ⟨_,pss_cons (ps_if (pt_not (pt_val (pe_callH C_is_fraction hr rfl (pa_cons (pv 1) (pa_nil))))) (pss_one (ps_raise tk rfl e_NoValue rfl m_NoValue (pa_cons (pe_str) (pa_nil)))) (pss_nil))
  (pss_cons (ps_set (i:=2) sc_NumberForm_core.nd rfl (Or.inl rfl) (pe_callH C_gridded hr rfl (pa_cons (pv 1) (pa_cons (pe_fld (pv 0) rfl) (pa_cons (pe_fld (pv 0) rfl) (pa_cons (pe_fld (pv 0) rfl) (pa_nil)))))))
  (pss_cons (ps_if (pt_val (pe_methH M_NumberForm_is_too_great cl_NumberForm pass0 hr (pv 0) (pa_cons (pe_callBH call_absN B.z_abs rfl bo_abs (pa_cons (pv 2) (pa_nil))) (pa_nil)))) (pss_one (ps_raise tk rfl e_TooGreat rfl m_TooGreat (pa_cons (pe_str) (pa_nil)))) (pss_nil))
  (pss_cons (ps_set (i:=3) sc_NumberForm_core.nd rfl (Or.inl rfl) (pe_callH C_body_of hr rfl (pa_cons (pe_callBH call_absN B.z_abs rfl bo_abs (pa_cons (pv 2) (pa_nil))) (pa_cons (pe_fld (pv 0) rfl) (pa_cons (pe_fld (pv 0) rfl) (pa_cons (pe_fld (pv 0) rfl) (pa_cons (pe_fld (pv 0) rfl) (pa_cons (pe_fld (pv 0) rfl) (pa_nil)))))))))
  (pss_one (ps_ret (pe_callH C_signed hr rfl (pa_cons (pv 3) (pa_cons (pe_fld (pv 0) rfl) (pa_cons (pe_cmpR op_lt (pv 2) (pe_int) (nomark _)) (pa_nil)))))))))),?_⟩
 obtain ⟨o,w,fg,pl,b,sn,z,m,pt,wy,wd,f,x,st,rfl,F0,ok,hw⟩:=h
 all_goals walk_at "st"
 have o1:=ok.fg1;have o2:=ok.fg2;have o3:=ok.pl1;have o4:=ok.pl2;have o5:=ok.b1;have o6:=ok.b2;have o7:=ok.sn;have o8:=ok.wy;have o9:=ok.z1;have o10:=ok.z2
 rcases hw with ⟨p,u,v,k,rfl,hp,gr,gc,gk,hw⟩ | ⟨nf,e⟩
 ·have g3:=gr.2.2.1
  have pw:((b.toNat ^ (fg+pl).toNat:Nat):Int)=b ^ (fg+pl).toNat:=by rw [Int.natCast_pow,Int.toNat_of_nonneg (by omega)]
  rcases hw with ⟨lim,q⟩ | ⟨lim,e⟩
  ·have hlt:k.natAbs < b.toNat ^ (fg+pl).toNat:=lim
   obtain ⟨nb,n2,n3,n4⟩:=ncore_ok ok hlt
   unfold ncore at q n4
   have sl:=sg_len o7 (decide (k < 0)) (bdI k.natAbs b pl pt z m)
   subst gk
   walk_at "rd"
   rename_i k1 hk1 k0 hk0
   have hk:k0=((grid wy u v (b ^ pl.toNat)).natAbs:Int):=by omega
   subst hk
   clear hk1 hk0
   generalize grid wy u v (b ^ pl.toNat)=kk at *
   refine c_body_of nb o9 o10 fun H1 g1=>?_
   have F1:=F0.same g1
   walk_at "rd"
   exact q _ g1
  ·have hlt : ¬ k.natAbs < b.toNat ^ (fg+pl).toNat:=lim
   subst gk
   walk_at "rd"
   exact ⟨small (by decide),e _ (Same.refl _)⟩
 ·walk_at "rd"
  exact ⟨small (by decide),e _ (Same.refl _)⟩
theorem ok_Form_is_too_wide {f:Addr} {fd:FuncData} (F:FunD K "is_too_wide" "Form.is_too_wide" s_Form_is_too_wide f fd) (B:Blt mg):FnOk P w K mg base CX0 1 f fd ["self", "core"] (sp_Form_is_too_wide K):=by
 refine F.ok sc_Form_is_too_wide (fun vs H Q E h=>?_) (fun cdv A outer s H vs Q E hr h=>?_)
 ·obtain ⟨a,C,wd,f,x,st,more,t,rfl,F0,h0,q⟩:=h
  rfl
 obtain ⟨a,C,wd,f,x,st,more,t,rfl,F0,h0,q⟩:=h
 refine ⟨_,pss_one (ps_ret (pe_and (pe_fld (pv 0) rfl) (pe_one (pe_cmpR op_gt (pe_callBH call_lenT B.z_len rfl bo_len (pa_cons (pv 1) (pa_nil))) (pe_fld (pv 0) rfl) (nomark _))))),?_⟩
 walk_at "st"
 walk_at "rd"
 ·rename_i hc;rw [hc] at q;exact q
 ·rename_i hc;rw [hc] at q;exact q
def sp_padded_inside (K:W.Frag):Sp:=fun vs H Q _=>∃ (l t:List Nat) (w:Int) (f:Nat),vs=[.str (T l),.str (T t),.int w,.str (T [f])]∧l.length≤400∧t.length≤400∧w≤40 ∧ ∀ H',Same H H'→Q (.str (T (l++pad t (w - l.length) f "right"))) H'
theorem c_padded_inside {K:W.Frag} {l t:List Nat} {w:Int} {f:Nat} {H:Hp} {Q:VK} {E:XK} (h1:l.length≤400) (h2:t.length≤400) (h3:w≤40) (q : ∀ H',Same H H'→Q (.str (T (l++pad t (w - l.length) f "right"))) H'):sp_padded_inside K ([.str (T l),.str (T t),.int w,.str (T [f])]++[]) H Q E:=⟨l,t,w,f,rfl,h1,h2,h3,q⟩
local macro_rules | `(tactic| walk_at "rdc")=>`(tactic| ((with_reducible refine' c_padded_inside ?h1 ?h2 ?h3 ?_);(case h1=>walk_at "tl");(case h2=>walk_at "tl");(case h3=>omega);intro H' g'))
def sp_NumberForm_lead_of (K:W.Frag) (C:Addr):Sp:=fun vs H Q _=>∃ (a:Addr) (fg pl b:Int) (sn:Str) (z:Int) (m pt:Nat) (wy:Str) (wd:Int) (f:Nat) (x:Str) (st:Bool) (t:List Nat) (bl:Bool),vs=[.ref a,.str (T t)]∧FormAt K H a C wd f x st (nmore fg pl b sn z m pt wy)∧Style sn∧Asc t∧t.length≤400∧Sgd sn bl t ∧ ∀ H',Same H H'→Q (.str (T (stL sn bl))) H'
theorem c_lead_of {K:W.Frag} {C a:Addr} {fg pl b:Int} {sn:Str} {z:Int} {m pt:Nat} {wy:Str} {wd:Int} {f:Nat} {x:Str} {st:Bool} {t:List Nat} {bl:Bool} {H:Hp} {Q:VK} {E:XK} (h1:FormAt K H a C wd f x st (nmore fg pl b sn z m pt wy)) (h2:Style sn) (h3:Asc t) (h4:t.length≤400) (h5:Sgd sn bl t) (q : ∀ H',Same H H'→Q (.str (T (stL sn bl))) H'):sp_NumberForm_lead_of K C (.ref a::([.str (T t)]++[])) H Q E:=⟨a,fg,pl,b,sn,z,m,pt,wy,wd,f,x,st,t,bl,rfl,h1,h2,h3,h4,h5,q⟩
def nfil (ld t:List Nat) (wd:Int) (f:Nat) (x:Str):List Nat:=if x = "inside" then ld++pad (t.drop ld.length) (wd - ld.length) f "right" else pad t wd f x
theorem ok_padded_inside {f:Addr} {fd:FuncData} (F:Fun K "padded_inside" "padded_inside" s_padded_inside f fd) (B:Blt mg) (C_padded:Has P w K mg base "padded" 2 ["text", "width", "fill", "side"] (sp_padded K)):FnOk P w K mg base CX0 3 f fd ["lead", "rest", "width", "fill"] (sp_padded_inside K):=by
 refine F.ok sc_padded_inside (fun vs H Q E h=>?_) (fun cdv A outer s H vs Q E hr h=>?_)
 ·obtain ⟨l,t,w,f,rfl,h1,h2,h3,q⟩:=h
  rfl
 obtain ⟨l,t,w,f,rfl,h1,h2,h3,q⟩:=h
 refine ⟨_,pss_one (ps_ret (pe_op op_addS (pv 0) (pe_callH C_padded hr rfl (pa_cons (pv 1) (pa_cons (pe_op op_sub (pv 2) (pe_callBH call_lenT B.z_len rfl bo_len (pa_cons (pv 0) (pa_nil)))) (pa_cons (pv 3) (pa_cons (pe_str) (pa_nil)))))))),?_⟩
 walk_at "st"
 have pl:=pad_len (f:=f) (pads_bd (x:="right") (n:=t.length) (w:=w - l.length) (.inr (.inl rfl)) (by omega) (by omega))
 have b2:=lk_bd t.length (w - l.length) (by omega) (by omega)
 walk_at "rd"
 exact q _ (by assumption)
theorem ok_NumberForm_lead_of {f:Addr} {fd:FuncData} (F:FunD K "lead_of" "NumberForm.lead_of" s_NumberForm_lead_of f fd) (B:Blt mg) {c_NumberForm:Addr} (C_ends_of:Has P w K mg base "ends_of" 1 ["style", "below"] (sp_ends_of K)) (C_unsigned:Has P w K mg base "unsigned" 3 ["core", "style"] (spc (sp_unsigned K))):FnOk P w K mg base CX0 4 f fd ["self", "core"] (sp_NumberForm_lead_of K c_NumberForm):=by
 refine F.ok sc_NumberForm_lead_of (fun vs H Q E h=>?_) (fun cdv A outer s H vs Q E hr h=>?_)
 ·obtain ⟨a,fg,pl,b,sn,z,m,pt,wy,wd,f,x,st,t,bl,rfl,F0,hs,ha,hl,sd,q⟩:=h
  rfl
 obtain ⟨a,fg,pl,b,sn,z,m,pt,wy,wd,f,x,st,t,bl,rfl,F0,hs,ha,hl,sd,q⟩:=h
 refine ⟨_,pss_one (ps_ret (pe_ix ix_tup (pe_callH C_ends_of hr rfl (pa_cons (pe_fld (pv 0) rfl) (pa_cons (pe_ix ix_tup (pe_callH C_unsigned hr rfl (pa_cons (pv 1) (pa_cons (pe_fld (pv 0) rfl) (pa_nil)))) (pe_int) (fun _ _=>rfl)) (pa_nil)))) (pe_int) (fun _ _=>rfl))),?_⟩
 walk_at "st"
 walk_at "rd"
 refine c_unsigned hs ha (by omega) sd fun p H1 g1 e1=>?_
 have F1:=F0.same g1
 walk_at "rd"
 exact q _ g1
inductive FlA (K:W.Frag) (H:Hp) (a cN:Addr) (wd:Int) (f:Nat) (x:Str) (st:Bool) (t:List Nat):List Nat→Prop
 | num {fg pl b:Int} {sn:Str} {z:Int} {m pt:Nat} {wy:Str} {bl:Bool} (F:FormAt K H a cN wd f x st (nmore fg pl b sn z m pt wy)) (sx:SideI x) (hs:Style sn) (ha:Asc t) (sd:Sgd sn bl t):FlA K H a cN wd f x st t (stL sn bl)
 | oth {C:Addr} {more:List (Str × V)} (F:FormAt K H a C wd f x st more) (sx:Side x):FlA K H a cN wd f x st t []
def sp_Form_filled (K:W.Frag) (cN:Addr):Sp:=fun vs H Q _=>∃ (a:Addr) (wd:Int) (f:Nat) (x:Str) (st:Bool) (t ld:List Nat),vs=[.ref a,.str (T t)]∧FlA K H a cN wd f x st t ld∧t.length≤400∧wd≤40 ∧ ∀ H',Same H H'→Q (.str (T (nfil ld t wd f x))) H'
theorem c_filled {K:W.Frag} {a cN:Addr} {wd:Int} {f:Nat} {x:Str} {st:Bool} {t ld:List Nat} {H:Hp} {Q:VK} {E:XK} (h1:FlA K H a cN wd f x st t ld) (h2:t.length≤400) (h4:wd≤40) (q : ∀ H',Same H H'→Q (.str (T (nfil ld t wd f x))) H'):sp_Form_filled K cN (.ref a::([.str (T t)]++[])) H Q E:=⟨a,wd,f,x,st,t,ld,rfl,h1,h2,h4,q⟩
theorem side_not {x:Str} (h:Side x):x ≠ "inside" := by
 rcases h with rfl | rfl | rfl <;> decide +kernel
theorem ok_Form_filled {f : Addr} {fd : FuncData} (F : FunD K "filled" "Form.filled" s_Form_filled f fd) (B : Blt mg) {c_NumberForm : Addr} (cl_NumberForm : Cls K c_NumberForm) (C_padded_inside : Has P w K mg base "padded_inside" 3 ["lead", "rest", "width", "fill"] (sp_padded_inside K)) (C_padded : Has P w K mg base "padded" 2 ["text", "width", "fill", "side"] (sp_padded K)) (M_NumberForm_lead_of : HasM P w K mg base CX0 c_NumberForm "lead_of" 4 ["self", "core"] (sp_NumberForm_lead_of K c_NumberForm)) : FnOk P w K mg base CX0 5 f fd ["self", "core"] (sp_Form_filled K c_NumberForm) := by
  refine F.ok sc_Form_filled (fun vs H Q E h => ?_) (fun cdv A outer s H vs Q E hr h => ?_)
  · obtain ⟨a, wd, f, x, st, t, ld, rfl, D0, hl, hw, q⟩ := h
    rfl
  obtain ⟨a, wd, f, x, st, t, ld, rfl, D0, hl, hw, q⟩ := h
  refine ⟨_, pss_cons (ps_if (pt_cmpR op_ne (pe_fld (pv 0) rfl) (pe_str) (nomark _)) (pss_one (ps_ret (pe_callH C_padded hr rfl (pa_cons (pv 1) (pa_cons (pe_fld (pv 0) rfl) (pa_cons (pe_fld (pv 0) rfl) (pa_cons (pe_fld (pv 0) rfl) (pa_nil)))))))) (pss_nil))
    (pss_cons (ps_set (i := 2) sc_Form_filled.nd rfl (Or.inl rfl) (pe_methH M_NumberForm_lead_of cl_NumberForm pass0 hr (pv 0) (pa_cons (pv 1) (pa_nil))))
    (pss_one (ps_ret (pe_callH C_padded_inside hr rfl (pa_cons (pv 2) (pa_cons (pe_slice sl_str (pv 1) (po_some (pe_callBH call_lenT B.z_len rfl bo_len (pa_cons (pv 2) (pa_nil)))) (po_none)) (pa_cons (pe_fld (pv 0) rfl) (pa_cons (pe_fld (pv 0) rfl) (pa_nil))))))))), ?_⟩
  walk_at "st"
  cases D0 with
  | @num fg pl b sn z m pt wy bl F0 sx hs ha sd =>
    have sl := st_len hs bl
    walk_at "rd"
    · rename_i hc
      refine c_lead_of F0 hs ha hl sd fun H1 g1 => ?_
      have F1 := F0.same g1
      walk_at "rd"
      rename_i H2 g2
      have q' := q _ (g1.trans g2)
      unfold nfil at q'
      rw [if_pos hc] at q'
      rw [Int.toNat_natCast]
      exact q'
    · rename_i hc
      have sx' : Side x := sx.elim id fun z => absurd z hc
      refine c_padded sx' hl hw fun H1 g1 => ?_
      have q' := q _ g1
      unfold nfil at q'
      rw [if_neg hc] at q'
      exact q'
  | oth F0 sx =>
    have hc := side_not sx
    walk_at "rd"
    have q' := q _ (by assumption)
    unfold nfil at q'
    rw [if_neg hc] at q'
    exact q'
def sp_WordForm_is_word (K:W.Frag) (C:Addr):Sp:=fun vs H Q _=>∃ (a:Addr) (sg:List Nat) (lo hi wd:Int) (f:Nat) (x:Str) (st:Bool) (v:V),vs=[.ref a,v]∧FormAt K H a C wd f x st (wmore sg lo hi)∧((∃ t,v = .str (T t)∧t.length≤400 ∧ ∀ H',Same H H'→Q (.bl (decide (Isw sg lo hi t))) H')∨(NT H v∧Q (.bl false) H))
theorem c_is_word {K:W.Frag} {C a:Addr} {sg:List Nat} {lo hi wd:Int} {f:Nat} {x:Str} {st:Bool} {t:List Nat} {H:Hp} {Q:VK} {E:XK} (h1:FormAt K H a C wd f x st (wmore sg lo hi)) (h2:t.length≤400) (q : ∀ H',Same H H'→Q (.bl (decide (Isw sg lo hi t))) H'):sp_WordForm_is_word K C (.ref a::([.str (T t)]++[])) H Q E:=⟨a,sg,lo,hi,wd,f,x,st,_,rfl,h1,.inl ⟨t,rfl,h2,q⟩⟩
theorem c_is_nt {K:W.Frag} {C a:Addr} {sg:List Nat} {lo hi wd:Int} {f:Nat} {x:Str} {st:Bool} {v:V} {H:Hp} {Q:VK} {E:XK} (h1:FormAt K H a C wd f x st (wmore sg lo hi)) (h2:NT H v) (q:Q (.bl false) H):sp_WordForm_is_word K C (.ref a::([v]++[])) H Q E:=⟨a,sg,lo,hi,wd,f,x,st,v,rfl,h1,.inr ⟨h2,q⟩⟩
local macro_rules | `(tactic| walk_at "rdc")=>`(tactic| first | (with_reducible refine r_isiO_str (kit_str_str _) ?_) | fail "none")
local macro_rules | `(tactic| walk_at "rdc")=>`(tactic| ((with_reducible refine' c_is_nt ?h1 ?h2 ?_);(case h1=>walk_at "fm");(case h2=>assumption)))
local macro_rules | `(tactic| walk_at "rdc")=>`(tactic| ((with_reducible refine' c_is_word ?h1 ?h2 ?_);(case h1=>walk_at "fm");(case h2=>omega);intro H' g'))
theorem ok_WordForm_is_word {f:Addr} {fd:FuncData} (F:FunD K "is_word" "WordForm.is_word" s_WordForm_is_word f fd) (B:Blt mg) {c_WordForm:Addr}:FnOk P w K mg base CX0 1 f fd ["self", "thing"] (sp_WordForm_is_word K c_WordForm):=by
 refine F.ok sc_WordForm_is_word (fun vs H Q E h=>?_) (fun cdv A outer s H vs Q E hr h=>?_)
 ·obtain ⟨a,sg,lo,hi,wd,f,x,st,v,rfl,F0,⟨t,rfl,h0,q⟩ | ⟨nt,q⟩⟩:=h
  all_goals rfl
 refine ⟨_,pss_cons (ps_if (PW.pt (pw_or (pt_not (pt_val (pe_callBH call_isiO B.z_isinstance rfl bo_isinstance (pa_cons (pv 1) (pa_cons (pe_bltn rfl B.z_str bo_str (v:=.ty "str") rfl) (pa_nil)))))) (pw_or1 (pt_not (pt_chain op_le op_le (pe_fld (pv 0) rfl) (pe_callBH call_lenT B.z_len rfl bo_len (pa_cons (pv 1) (pa_nil))) (pe_fld (pv 0) rfl)))))) (pss_one (ps_ret (pe_bl))) (pss_nil))
  (pss_one (ps_ret (pe_callBH (call_allB rfl) B.z_all rfl bo_all (pa_cons (pe_comp (cl:=[("self", s.heap.objs.size+1+0)]) (fr:=["self"]) (is:=[0]) rfl rfl ⟨rfl,trivial⟩ rfl ⟨⟨rfl,rfl,Or.inl rfl⟩,trivial⟩ (by decide) (by decide +kernel) rfl (by decide +kernel) rfl (pi_strT (pv 1)) (fun _ _ _ _=>pifs_nil) (fun _ _ _ _=>pe_cmpR op_inS (pv 0) (pe_fldK (K:=K) rfl (pv 1) rfl) (by with_unfolding_all rfl))) (pa_nil))))),?_⟩
 obtain ⟨a,sg,lo,hi,wd,f,x,st,v,rfl,F0,⟨t,rfl,h0,q⟩ | ⟨nt,q⟩⟩:=h
 all_goals walk_at "st"
 ·walk_at "rd"
  ·rename_i c1 c2
   refine r_kCompS (Nat.le_of_lt (small1000 (by omega))) (fun i ys H'=>H'=H∧ys=((t.take i).map fun c=>decide (c ∈ sg)).map V.bl) ⟨rfl,rfl⟩ (fun i ys H' hi z=>by rw [z.2];simp;omega) ?_ ?_
   ·rintro i c ys H' hc hi ⟨rfl,rfl⟩
    walk_at "rd"
    refine nxC hi ⟨rfl,?_⟩
    rw [List.take_succ,hc,List.map_append,List.map_append];rfl
   ·rintro ys H' ⟨rfl,rfl⟩ p H2 g2 e2
    rw [List.take_length] at e2
    walk_at "rd"
    have e:(t.map fun c=>decide (c ∈ sg)).all id=decide (Isw sg lo hi t):=by
     rw [Bool.eq_iff_iff,List.all_eq_true,decide_eq_true_iff]
     constructor
     ·intro h
      exact ⟨⟨c1,c2⟩,fun c hc=>of_decide_eq_true (h _ (List.mem_map.mpr ⟨c,hc,rfl⟩))⟩
     ·rintro h b hb
      obtain ⟨c,hc,rfl⟩:=List.mem_map.mp hb
      exact decide_eq_true (h.2 c hc)
    rw [e]
    exact q _ g2
  ·rename_i c1 c2
   have q':=q _ (Same.refl _)
   rw [decide_eq_false (fun z=>c2 z.1.2)] at q';exact q'
  ·rename_i c1
   have q':=q _ (Same.refl _)
   rw [decide_eq_false (fun z=>c1 z.1.1)] at q';exact q'
 ·walk_at "rd"
  exact q
def sp_WordForm_core (K:W.Frag) (C cV:Addr):Sp:=fun vs H Q E=>∃ (a:Addr) (sg:List Nat) (lo hi wd:Int) (f:Nat) (x:Str) (st:Bool) (v:V),vs=[.ref a,v]∧FormAt K H a C wd f x st (wmore sg lo hi)∧((∃ t,v = .str (T t)∧t.length≤400∧Isw sg lo hi t ∧ ∀ H',Same H H'→Q (.str (T t)) H')∨(NT H v ∧ ∀ H',Same H H'→E (.ref cV) none H'))
theorem ok_WordForm_core {f:Addr} {fd:FuncData} (F:FunD K "core" "WordForm.core" s_WordForm_core f fd) (B:Blt mg) {c_WordForm:Addr} {c_NoValue:Addr} (cl_WordForm:Cls K c_WordForm) (m_NoValue:mg "NoValue" = some (.ref c_NoValue)) (e_NoValue:Exc K c_NoValue) (M_WordForm_is_word:HasM P w K mg base CX0 c_WordForm "is_word" 1 ["self", "thing"] (sp_WordForm_is_word K c_WordForm)):FnOk P w K mg base (CXE2 P w) 2 f fd ["self", "value"] (sp_WordForm_core K c_WordForm c_NoValue):=by
 refine F.okX2 sc_WordForm_core (fun vs H Q E h=>?_) (fun cdv A outer s H vs Q E hr h tk pp=>?_)
 ·obtain ⟨a,sg,lo,hi,wd,f,x,st,v,rfl,F0,⟨t,rfl,h0,iw,q⟩ | ⟨nt,e⟩⟩:=h
  all_goals rfl
 refine ⟨_,pss_cons (ps_if (pt_not (pt_val (pe_methH M_WordForm_is_word cl_WordForm pass0 hr (pv 0) (pa_cons (pv 1) (pa_nil))))) (pss_one (ps_raise tk rfl e_NoValue rfl m_NoValue (pa_cons (pe_str) (pa_nil)))) (pss_nil))
  (pss_one (ps_ret (pv 1))),?_⟩
 obtain ⟨a,sg,lo,hi,wd,f,x,st,v,rfl,F0,⟨t,rfl,h0,iw,q⟩ | ⟨nt,e⟩⟩:=h
 all_goals walk_at "st"
 ·walk_at "rd"
  rename_i H' g'
  exact q _ g'
 ·walk_at "rd"
  exact ⟨small (by decide),e _ (Same.refl _)⟩
def sp_ChoiceForm_core (K:W.Frag) (C cV:Addr):Sp:=fun vs H Q E=>∃ (a L:Addr) (ns:List (List Nat)) (wd:Int) (f:Nat) (x:Str) (st:Bool) (v:V),vs=[.ref a,v]∧FormAt K H a C wd f x st (cmore L)∧H L=some (.lst (tsV ns))∧((∃ t,v = .str (T t)∧t ∈ ns ∧ ∀ H',Same H H'→Q (.str (T t)) H')∨(NT H v ∧ ∀ H',Same H H'→E (.ref cV) none H'))
theorem ok_ChoiceForm_core {f:Addr} {fd:FuncData} (F:FunD K "core" "ChoiceForm.core" s_ChoiceForm_core f fd) (B:Blt mg) {c_ChoiceForm:Addr} {c_NoValue:Addr} (m_NoValue:mg "NoValue" = some (.ref c_NoValue)) (e_NoValue:Exc K c_NoValue):FnOk P w K mg base (CXE2 P w) 1 f fd ["self", "value"] (sp_ChoiceForm_core K c_ChoiceForm c_NoValue):=by
 refine F.okX2 sc_ChoiceForm_core (fun vs H Q E h=>?_) (fun cdv A outer s H vs Q E hr h tk pp=>?_)
 ·obtain ⟨a,L,ns,wd,f,x,st,v,rfl,F0,e0,⟨t,rfl,hm,q⟩ | ⟨nt,e⟩⟩:=h
  all_goals rfl
 refine ⟨_,pss_cons (ps_if (PW.pt (pw_or (pt_not (pt_val (pe_callBH call_isiO B.z_isinstance rfl bo_isinstance (pa_cons (pv 1) (pa_cons (pe_bltn rfl B.z_str bo_str (v:=.ty "str") rfl) (pa_nil)))))) (pw_or1 (pt_cmpR op_notIn_seq (pv 1) (pe_fld (pv 0) rfl) (by with_unfolding_all rfl))))) (pss_one (ps_raise tk rfl e_NoValue rfl m_NoValue (pa_cons (pe_str) (pa_nil)))) (pss_nil))
  (pss_one (ps_ret (pv 1))),?_⟩
 obtain ⟨a,L,ns,wd,f,x,st,v,rfl,F0,e0,⟨t,rfl,hm,q⟩ | ⟨nt,e⟩⟩:=h
 all_goals walk_at "st"
 ·walk_at "rd"
  exact q _ (Same.refl _)
 ·walk_at "rd"
  exact ⟨small (by decide),e _ (Same.refl _)⟩
inductive Fd1
 | num (fg pl b:Int) (sn:Str) (z:Int) (m pt:Nat) (wy:Str)
 | word (sg:List Nat) (lo hi:Int)
 | cho (L:Addr) (ns:List (List Nat))
inductive F1At (K:W.Frag) (H:Hp) (o cN cW cC:Addr) (wd:Int) (f:Nat) (x:Str) (st:Bool):Fd1→Prop
 | num {fg pl b:Int} {sn:Str} {z:Int} {m pt:Nat} {wy:Str} (F:FormAt K H o cN wd f x st (nmore fg pl b sn z m pt wy)) (ok:NumS fg pl b sn z m pt wy wd f x):F1At K H o cN cW cC wd f x st (.num fg pl b sn z m pt wy)
 | word {sg:List Nat} {lo hi:Int} (F:FormAt K H o cW wd f x st (wmore sg lo hi)) (sx:Side x):F1At K H o cN cW cC wd f x st (.word sg lo hi)
 | cho {L:Addr} {ns:List (List Nat)} (F:FormAt K H o cC wd f x st (cmore L)) (e:H L=some (.lst (tsV ns))) (sx:Side x):F1At K H o cN cW cC wd f x st (.cho L ns)
inductive Co1 (H:Hp):Fd1→V→List Nat × List Nat ⊕ Bool→Prop
 | num {p:Addr} {fg pl b:Int} {sn:Str} {z:Int} {m pt:Nat} {wy:Str} {u d k:Int} (hp:H p=some (.tup [.int u,.int d])) (gb:GrB u d) (gc:Int.gcd u d=1) (gk:grid wy u d (b ^ pl.toNat)=k) (lim:LimN fg pl b k):Co1 H (.num fg pl b sn z m pt wy) (.ref p) (.inl (ncore pl b sn z m pt k,stL sn (decide (k < 0))))
 | great {p:Addr} {fg pl b:Int} {sn:Str} {z:Int} {m pt:Nat} {wy:Str} {u d:Int} (hp:H p=some (.tup [.int u,.int d])) (gb:GrB u d) (gc:Int.gcd u d=1) (lim : ¬ LimN fg pl b (grid wy u d (b ^ pl.toNat))):Co1 H (.num fg pl b sn z m pt wy) (.ref p) (.inr true)
 | nonum {v:V} {fg pl b:Int} {sn:Str} {z:Int} {m pt:Nat} {wy:Str} (nf:NF H v):Co1 H (.num fg pl b sn z m pt wy) v (.inr false)
 | word {sg:List Nat} {lo hi:Int} {t:List Nat} (h0:t.length≤400) (iw:Isw sg lo hi t):Co1 H (.word sg lo hi) (.str (T t)) (.inl (t,[]))
 | noword {sg:List Nat} {lo hi:Int} {v:V} (nt:NT H v):Co1 H (.word sg lo hi) v (.inr false)
 | cho {L:Addr} {ns:List (List Nat)} {t:List Nat} (h0:t.length≤400) (hm:t ∈ ns):Co1 H (.cho L ns) (.str (T t)) (.inl (t,[]))
 | nocho {L:Addr} {ns:List (List Nat)} {v:V} (nt:NT H v):Co1 H (.cho L ns) v (.inr false)
def sp_Form_put (K:W.Frag) (cN cW cC cT cV cG:Addr):Sp:=fun vs H Q E=>∃ (o:Addr) (v:V) (wd:Int) (f:Nat) (x:Str) (st:Bool) (d:Fd1) (r:List Nat × List Nat ⊕ Bool),vs=[.ref o,v]∧F1At K H o cN cW cC wd f x st d∧Co1 H d v r∧wd≤40 ∧ ∀ H',Same H H'→match r with
 | .inl (t,ld)=>if (st && decide (wd < (t.length:Int)))=true then E (.ref cT) none H' else Q (.str (T (nfil ld t wd f x))) H'
 | .inr g=>E (.ref (bif g then cG else cV)) none H'
theorem ok_Form_put {f : Addr} {fd : FuncData} (F : FunD K "put" "Form.put" s_Form_put f fd) (B : Blt mg) {c_NumberForm : Addr} {c_WordForm : Addr} {c_ChoiceForm : Addr} {c_TooWide : Addr} {c_NoValue : Addr} {c_TooGreat : Addr} (cl_NumberForm : Cls K c_NumberForm) (cl_WordForm : Cls K c_WordForm) (cl_ChoiceForm : Cls K c_ChoiceForm) (m_TooWide : mg "TooWide" = some (.ref c_TooWide)) (e_TooWide : Exc K c_TooWide) (M_NumberForm_core : HasM P w K mg base (CXE2 P w) c_NumberForm "core" 4 ["self", "value"] (sp_NumberForm_core K c_NumberForm c_NoValue c_TooGreat)) (M_WordForm_core : HasM P w K mg base (CXE2 P w) c_WordForm "core" 2 ["self", "value"] (sp_WordForm_core K c_WordForm c_NoValue)) (M_ChoiceForm_core : HasM P w K mg base (CXE2 P w) c_ChoiceForm "core" 1 ["self", "value"] (sp_ChoiceForm_core K c_ChoiceForm c_NoValue)) (M_NumberForm_is_too_wide : HasM P w K mg base CX0 c_NumberForm "is_too_wide" 1 ["self", "core"] (sp_Form_is_too_wide K)) (M_WordForm_is_too_wide : HasM P w K mg base CX0 c_WordForm "is_too_wide" 1 ["self", "core"] (sp_Form_is_too_wide K)) (M_ChoiceForm_is_too_wide : HasM P w K mg base CX0 c_ChoiceForm "is_too_wide" 1 ["self", "core"] (sp_Form_is_too_wide K)) (M_NumberForm_filled : HasM P w K mg base CX0 c_NumberForm "filled" 5 ["self", "core"] (sp_Form_filled K c_NumberForm)) (M_WordForm_filled : HasM P w K mg base CX0 c_WordForm "filled" 5 ["self", "core"] (sp_Form_filled K c_NumberForm)) (M_ChoiceForm_filled : HasM P w K mg base CX0 c_ChoiceForm "filled" 5 ["self", "core"] (sp_Form_filled K c_NumberForm)) : FnOk P w K mg base (CXE2 P w) 6 f fd ["self", "value"] (sp_Form_put K c_NumberForm c_WordForm c_ChoiceForm c_TooWide c_NoValue c_TooGreat) := by
  refine F.okX2 sc_Form_put (fun vs H Q E h => ?_) (fun cdv A outer s H vs Q E hr h tk pp => ?_)
  · obtain ⟨o, v, wd, f, x, st, d, r, rfl, D0, V0, hw, q⟩ := h
    all_goals rfl
  refine ⟨_, pss_cons (ps_set (i := 2) sc_Form_put.nd rfl (Or.inl rfl) (pe_orE (pe_methH M_NumberForm_core cl_NumberForm pp hr (pv 0) (pa_cons (pv 1) (pa_nil))) (pe_orE (pe_methH M_WordForm_core cl_WordForm pp hr (pv 0) (pa_cons (pv 1) (pa_nil))) (pe_methH M_ChoiceForm_core cl_ChoiceForm pp hr (pv 0) (pa_cons (pv 1) (pa_nil))))))
    (pss_cons (ps_if (pt_val (pe_orE (pe_methH M_NumberForm_is_too_wide cl_NumberForm pass0 hr (pv 0) (pa_cons (pv 2) (pa_nil))) (pe_orE (pe_methH M_WordForm_is_too_wide cl_WordForm pass0 hr (pv 0) (pa_cons (pv 2) (pa_nil))) (pe_methH M_ChoiceForm_is_too_wide cl_ChoiceForm pass0 hr (pv 0) (pa_cons (pv 2) (pa_nil)))))) (pss_one (ps_raise tk rfl e_TooWide rfl m_TooWide (pa_cons (pe_str) (pa_nil)))) (pss_nil))
    (pss_one (ps_ret (pe_orE (pe_methH M_NumberForm_filled cl_NumberForm pass0 hr (pv 0) (pa_cons (pv 2) (pa_nil))) (pe_orE (pe_methH M_WordForm_filled cl_WordForm pass0 hr (pv 0) (pa_cons (pv 2) (pa_nil))) (pe_methH M_ChoiceForm_filled cl_ChoiceForm pass0 hr (pv 0) (pa_cons (pv 2) (pa_nil)))))))), ?_⟩
  obtain ⟨o, v, wd, f, x, st, d, r, rfl, D0, V0, hw, q⟩ := h
  all_goals walk_at "st"
  cases V0 with
  | @num p fg pl b sn z m pt wy u d k hp gb gc gk lim =>
    cases D0 with
    | num F0 ok =>
      obtain ⟨nb, n2, n3, n4⟩ := ncore_ok ok lim
      walk_at "rd"
      refine r_orL ?_
      walk_at "rd"
      refine ⟨o, _, fg, pl, b, sn, z, m, pt, wy, wd, f, x, st, rfl, F0, ok, .inl ⟨p, u, d, k, rfl, hp, gb, gc, gk, .inl ⟨lim, fun H1 g1 => ?_⟩⟩⟩
      have F1 := F0.same g1
      walk_at "rd"
      refine r_orL ?_
      walk_at "rd"
      · rename_i hc
        have q' := q _ g1
        simp only [hc, if_true] at q'
        exact ⟨small (by decide), q'⟩
      · rename_i hc
        refine r_orL ?_
        walk_at "rd"
        refine c_filled (.num F1 ok.x ok.sn n3 n2) n4 hw fun H2 g2 => ?_
        have q' := q _ (g1.trans g2)
        simp only [hc] at q'
        exact q'
  | @great p fg pl b sn z m pt wy u d hp gb gc lim =>
    cases D0 with
    | num F0 ok =>
      walk_at "rd"
      refine r_orL ?_
      walk_at "rd"
      exact ⟨o, _, fg, pl, b, sn, z, m, pt, wy, wd, f, x, st, rfl, F0, ok, .inl ⟨p, u, d, _, rfl, hp, gb, gc, rfl, .inr ⟨lim, fun H1 g1 => q _ g1⟩⟩⟩
  | @nonum v fg pl b sn z m pt wy nf =>
    cases D0 with
    | num F0 ok =>
      walk_at "rd"
      refine r_orL ?_
      walk_at "rd"
      exact ⟨o, _, fg, pl, b, sn, z, m, pt, wy, wd, f, x, st, rfl, F0, ok, .inr ⟨nf, fun H1 g1 => q _ g1⟩⟩
  | @word sg lo hi t h0 iw =>
    cases D0 with
    | word F0 sx =>
      walk_at "rd"
      refine r_orR (r_orL ?_)
      walk_at "rd"
      refine ⟨o, sg, lo, hi, wd, f, x, st, _, rfl, F0, .inl ⟨t, rfl, h0, iw, fun H1 g1 => ?_⟩⟩
      have F1 := F0.same g1
      walk_at "rd"
      refine r_orR (r_orL ?_)
      walk_at "rd"
      · rename_i hc
        have q' := q _ g1
        simp only [hc, if_true] at q'
        exact ⟨small (by decide), q'⟩
      · rename_i hc
        refine r_orR (r_orL ?_)
        walk_at "rd"
        refine c_filled (.oth F1 sx) h0 hw fun H2 g2 => ?_
        have q' := q _ (g1.trans g2)
        simp only [hc] at q'
        exact q'
  | @noword sg lo hi v nt =>
    cases D0 with
    | word F0 sx =>
      walk_at "rd"
      refine r_orR (r_orL ?_)
      walk_at "rd"
      exact ⟨o, sg, lo, hi, wd, f, x, st, _, rfl, F0, .inr ⟨nt, fun H1 g1 => q _ g1⟩⟩
  | @cho L ns t h0 hm =>
    cases D0 with
    | cho F0 e0 sx =>
      walk_at "rd"
      refine r_orR (r_orR ?_)
      walk_at "rd"
      refine ⟨o, L, ns, wd, f, x, st, _, rfl, F0, e0, .inl ⟨t, rfl, hm, fun H1 g1 => ?_⟩⟩
      have F1 := F0.same g1
      walk_at "rd"
      refine r_orR (r_orR ?_)
      walk_at "rd"
      · rename_i hc
        have q' := q _ g1
        simp only [hc, if_true] at q'
        exact ⟨small (by decide), q'⟩
      · rename_i hc
        refine r_orR (r_orR ?_)
        walk_at "rd"
        refine c_filled (.oth F1 sx) h0 hw fun H2 g2 => ?_
        have q' := q _ (g1.trans g2)
        simp only [hc] at q'
        exact q'
  | @nocho L ns v nt =>
    cases D0 with
    | cho F0 e0 sx =>
      walk_at "rd"
      refine r_orR (r_orR ?_)
      walk_at "rd"
      exact ⟨o, L, ns, wd, f, x, st, _, rfl, F0, e0, .inr ⟨nt, fun H1 g1 => q _ g1⟩⟩
abbrev Ce:=List (List Nat)
inductive Al {α:Type} (R:V→α→Prop):List V→List α→Prop
 | nil:Al R [] []
 | cons {v:V} {a:α} {vs:List V} {as:List α} (h:R v a) (t:Al R vs as):Al R (v::vs) (a::as)
section
variable {α : Type} {R R' : V → α → Prop}
theorem Al.len {vs:List V} {as:List α} (h:Al R vs as):vs.length=as.length:=by
 induction h with
 | nil=>rfl
 | cons _ _ ih=>rw [List.length_cons,List.length_cons,ih]
theorem Al.imp {vs:List V} {as:List α} (h:Al R vs as) (f : ∀ v a,R v a→R' v a):Al R' vs as:=by
 induction h with
 | nil=>exact .nil
 | cons h _ ih=>exact .cons (f _ _ h) ih
theorem Al.app {vs us:List V} {as bs:List α} (h:Al R vs as) (k:Al R us bs):Al R (vs++us) (as++bs):=by
 induction h with
 | nil=>exact k
 | cons h _ ih=>exact .cons h ih
theorem Al.one {v:V} {a:α} (h:R v a):Al R [v] [a]:=.cons h .nil
theorem Al.get {vs : List V} {as : List α} (h : Al R vs as) : ∀ {i : Nat} {v : V}, vs[i]? = some v → ∃ a, as[i]? = some a ∧ R v a := by
  induction h with
  | nil => intro i v e; simp at e
  | cons h _ ih =>
    intro i v e
    cases i with
    | zero => cases e; exact ⟨_, rfl, h⟩
    | succ i => exact ih e
theorem Al.filter {vs : List V} {as : List α} {p : α → Bool} (h : Al R vs as) : ∃ us, Al R us (as.filter p) := by
  induction h with
  | nil => exact ⟨[], .nil⟩
  | @cons v a vs as h _ ih =>
    obtain ⟨us, k⟩ := ih
    rw [List.filter_cons]
    cases p a with
    | false => exact ⟨us, k⟩
    | true => exact ⟨v :: us, .cons h k⟩
end
theorem none_of {H H':Hp} {a:Addr} (g:Same H H') (n:H' a=none):H a=none:=by
 cases hl:H a with
 | none=>rfl
 | some u=>rw [g.at hl] at n;cases n
theorem tsV_len (l:Ce):(tsV l).length=l.length:=List.length_map _
theorem tsV_app (a b:List (List Nat)):tsV a++tsV b=tsV (a++b):=by unfold tsV;rw [List.map_append]
def RL (H:Hp) (P:Addr→Prop) (v:V) (cs:Ce):Prop:=∃ q,v = .ref q∧P q∧H q=some (.lst (tsV cs))
def RP (H:Hp) (P:Addr→Prop) (v:V) (x:Ce × Ce):Prop:=∃ t a b,v = .ref t∧(P t∧P a∧P b)∧H t=some (.tup [.ref a,.ref b])∧H a=some (.lst (tsV x.1))∧H b=some (.lst (tsV x.2))
theorem RL.same {H H':Hp} {P:Addr→Prop} {v:V} {cs:Ce} (g:Same H H') (h:RL H P v cs):RL H' P v cs:=let ⟨q,e,p,k⟩:=h;⟨q,e,p,g.at k⟩
theorem RP.same {H H':Hp} {P:Addr→Prop} {v:V} {x:Ce × Ce} (g:Same H H') (h:RP H P v x):RP H' P v x:=let ⟨t,a,b,e,p,k,k1,k2⟩:=h;⟨t,a,b,e,p,g.at k,g.at k1,g.at k2⟩
theorem RL.put {H:Hp} {P:Addr→Prop} {l:Addr} {o:HO} {v:V} {cs:Ce} (n : ∀ a,P a→a≠l) (h:RL H P v cs):RL (upd H l o) P v cs:=let ⟨q,e,p,k⟩:=h;⟨q,e,p,by rw [upd_ne (n _ p)];exact k⟩
theorem RP.put {H:Hp} {P:Addr→Prop} {l:Addr} {o:HO} {v:V} {x:Ce × Ce} (n : ∀ a,P a→a≠l) (h:RP H P v x):RP (upd H l o) P v x:=let ⟨t,a,b,e,p,k,k1,k2⟩:=h;⟨t,a,b,e,p,by rw [upd_ne (n _ p.1)];exact k,by rw [upd_ne (n _ p.2.1)];exact k1,by rw [upd_ne (n _ p.2.2)];exact k2⟩
theorem tsV_take (l:Ce) (n:Nat):(tsV l).take n=tsV (l.take n):=by unfold tsV;rw [List.map_take]
theorem tsV_drop (l:Ce) (n:Nat):(tsV l).drop n=tsV (l.drop n):=by unfold tsV;rw [List.map_drop]
section
variable {K : W.Frag} {H : Hp} {Q : VK}
theorem r_kLst1 {c:List Nat} (q : ∀ p H',Same H H'→H p=none→H' p=some (.lst (tsV [c]))→Q (.ref p) H'):kLst Q [.str (T c)] H:=r_kLstN (small (by simp only [List.length_cons,List.length_nil];decide)) fun p H1 g n e=>q p H1 g n e
theorem r_kLst0 (q : ∀ p H',Same H H'→H p=none→H' p=some (.lst (tsV []))→Q (.ref p) H'):kLst Q [] H:=r_kLstN (small (by simp only [List.length_cons,List.length_nil];decide)) fun p H1 g n e=>q p H1 g n e
theorem r_catC {l b:Addr} {xs zs:Ce} (h1:H l=some (.lst (tsV xs))) (h2:H b=some (.lst (tsV zs))) (hz:xs.length+zs.length≤900) (q : ∀ p H',Same H H'→H p=none→H' p=some (.lst (tsV (xs++zs)))→Q (.ref p) H'):rCat (.ref l) (.ref b) H Q:=
 ⟨l,b,_,_,rfl,rfl,h1,h2,Nat.le_of_lt (small1000 (by rw [tsV_len,tsV_len];omega)),fun p hp=>q p _ (same_upd (Same.refl _) hp) hp (by rw [upd_same];unfold tsV;rw [List.map_append])⟩
theorem r_slC {a:Addr} {xs ys:Ce} {lo hi:Option Int} (h:H a=some (.lst (tsV xs))) (e:(xs.drop (HT.sIx xs.length 0 lo)).take (HT.sIx xs.length xs.length hi - HT.sIx xs.length 0 lo)=ys) (q : ∀ p H',Same H H'→H p=none→H' p=some (.lst (tsV ys))→Q (.ref p) H'):rSlL K (.ref a) lo hi H Q:=
 ⟨a,_,rfl,SqL.of h,fun p hp=>q p _ (same_upd (Same.refl _) hp) hp (by rw [upd_same,← e];unfold cutV;rw [tsV_len,tsV_drop,tsV_take])⟩
theorem sIx_some {n d:Nat} {v:Int} (h:0≤v):HT.sIx n d (some v)=min v.toNat n:=by
 show (if v < 0 then (v+(n:Int)).toNat else min v.toNat n)=_
 rw [if_neg (by omega)]
theorem r_slTo {a:Addr} {xs:Ce} {j:Int} (h:H a=some (.lst (tsV xs))) (h1:0≤j) (q : ∀ p H',Same H H'→H p=none→H' p=some (.lst (tsV (xs.take j.toNat)))→Q (.ref p) H'):rSlL K (.ref a) none (some j) H Q:=by
 refine r_slC h ?_ q
 rw [HT.sIx_none,sIx_some h1,List.drop_zero,Nat.sub_zero]
 rcases Nat.le_total j.toNat xs.length with y | y
 ·rw [Nat.min_eq_left y]
 ·rw [Nat.min_eq_right y,List.take_length,List.take_of_length_le y]
theorem r_slFrom {a:Addr} {xs:Ce} {i:Int} (h:H a=some (.lst (tsV xs))) (h0:0≤i) (q : ∀ p H',Same H H'→H p=none→H' p=some (.lst (tsV (xs.drop i.toNat)))→Q (.ref p) H'):rSlL K (.ref a) (some i) none H Q:=by
 refine r_slC h ?_ q
 rw [HT.sIx_none,sIx_some h0]
 rcases Nat.le_total i.toNat xs.length with z | z
 ·rw [Nat.min_eq_left z,List.take_of_length_le (by rw [List.length_drop];exact Nat.le_refl _)]
 ·rw [Nat.min_eq_right z,List.drop_of_length_le (Nat.le_refl _),List.drop_of_length_le z,List.take_nil]
theorem r_lenC {p:Addr} {ys:Ce} (h:H p=some (.lst (tsV ys))) (q:Q (.int ys.length) H):rLenS K [.ref p] H Q:=r_lenL (SqL.of h) (by rw [tsV_len];exact q)
end
local macro_rules | `(tactic| walk_at "rd1")=>`(tactic| first | ((with_reducible refine' r_lenC ?h ?_);(case h=>walk_at "hp")) | fail "none")
local macro_rules | `(tactic| walk_at "rd1")=>`(tactic| first | ((with_reducible refine' r_kLstN ?hz ?_);(case hz=>exact small (by simp only [List.length_cons,List.length_nil];decide));intro p' H' g' n' e') | fail "none")
local macro_rules | `(tactic| walk_at "rd1")=>`(tactic| first | ((with_reducible refine r_kLst0 ?_);intro p' H' g' n' e') | fail "none")
local macro_rules | `(tactic| walk_at "rd1")=>`(tactic| first | ((with_reducible refine r_kLst1 ?_);intro p' H' g' n' e') | fail "none")
local macro_rules | `(tactic| walk_at "rd1")=>`(tactic| first | ((with_reducible refine' r_catC ?h1 ?h2 ?hz ?_);(case h1=>walk_at "hp");(case h2=>walk_at "hp");(case hz=>walk_at "tl");intro p' H' g' n' e') | fail "none")
local macro_rules | `(tactic| walk_at "rd1")=>`(tactic| first | ((with_reducible refine' r_sl2 ?h ?h0 ?h1 ?_);(case h=>walk_at "hp");(case h0=>omega);(case h1=>omega);intro p' H' g' n' e') | ((with_reducible refine' r_slTo ?h ?h1 ?_);(case h=>walk_at "hp");(case h1=>omega);intro p' H' g' n' e') | ((with_reducible refine' r_slFrom ?h ?h0 ?_);(case h=>walk_at "hp");(case h0=>omega);intro p' H' g' n' e'))
local macro_rules | `(tactic| walk_at "tl")=>`(tactic| (simp only [List.length_map,List.length_append,List.length_replicate,List.length_cons,List.length_nil,List.length_take,List.length_drop];omega))
local macro_rules | `(tactic| walk_at "fm")=>`(tactic| first | assumption | (refine' FormAt.same ?s (by assumption);(case s=>walk_at "sm")))
inductive Fd where
 | num (fg pl b:Int) (sn:Str) (z:Int) (m pt:Nat) (wy:Str)
 | word (sg:List Nat) (lo hi:Int)
 | cho (ns:Ce)
structure WdS (sg:List Nat) (lo hi wd:Int) (f:Nat) (x:Str):Prop where
 s1:1≤sg.length
 s2:sg.length≤200
 lo1:0≤lo
 lo2:lo≤hi
 hi2:hi≤24
 wd1:0≤wd
 wd2:wd≤40
 x:Side x
 sa:Asc sg
 f:f < 127
structure ChS (ns:Ce) (wd:Int) (f:Nat) (x:Str):Prop where
 n1:1≤ns.length
 n2:ns.length≤12
 len : ∀ t ∈ ns,t.length≤13
 wd1:0≤wd
 wd2:wd≤40
 x:Side x
 ta : ∀ t ∈ ns,Asc t
 f:f < 127
inductive FdAt (K:W.Frag) (H:Hp) (o cN cW cC:Addr) (wd:Int) (f:Nat) (x:Str) (st:Bool):Fd→Prop
 | num {fg pl b:Int} {sn:Str} {z:Int} {m pt:Nat} {wy:Str} (F:FormAt K H o cN wd f x st (nmore fg pl b sn z m pt wy)) (ok:NumS fg pl b sn z m pt wy wd f x):FdAt K H o cN cW cC wd f x st (.num fg pl b sn z m pt wy)
 | word {sg:List Nat} {lo hi:Int} (F:FormAt K H o cW wd f x st (wmore sg lo hi)) (ok:WdS sg lo hi wd f x):FdAt K H o cN cW cC wd f x st (.word sg lo hi)
 | cho {L:Addr} {ns:Ce} (F:FormAt K H o cC wd f x st (cmore L)) (e:H L=some (.lst (tsV ns))) (ok:ChS ns wd f x):FdAt K H o cN cW cC wd f x st (.cho ns)
theorem FdAt.same {K:W.Frag} {H H':Hp} {o cN cW cC:Addr} {wd:Int} {f:Nat} {x:Str} {st:Bool} {d:Fd} (g:Same H H') (h:FdAt K H o cN cW cC wd f x st d):FdAt K H' o cN cW cC wd f x st d:=by
 cases h with
 | num F ok=>exact .num (F.same g) ok
 | word F ok=>exact .word (F.same g) ok
 | cho F e ok=>exact .cho (F.same g) (g.at e) ok
theorem FdAt.bd {K:W.Frag} {H:Hp} {o cN cW cC:Addr} {wd:Int} {f:Nat} {x:Str} {st:Bool} {d:Fd} (h:FdAt K H o cN cW cC wd f x st d) : ∃ C more,FormAt K H o C wd f x st more∧SideI x∧0≤wd∧wd≤40:=by
 cases h with
 | num F ok=>exact ⟨_,_,F,ok.x,ok.wd1,ok.wd2⟩
 | word F ok=>exact ⟨_,_,F,.inl ok.x,ok.wd1,ok.wd2⟩
 | cho F e ok=>exact ⟨_,_,F,.inl ok.x,ok.wd1,ok.wd2⟩
def sp_law_signs (K:W.Frag):Sp:=fun vs H Q _=>vs=[] ∧ ∀ l:List Nat,l.length=94→Asc l→Q (.str (T l)) H
theorem c_signs {K:W.Frag} {H:Hp} {Q:VK} {E:XK} (q : ∀ l:List Nat,l.length=94→Asc l→Q (.str (T l)) H):sp_law_signs K ([]++[]) H Q E:=⟨rfl,q⟩
local macro_rules | `(tactic| walk_at "rdc")=>`(tactic| ((with_reducible refine c_signs ?_);intro l' hl' al'))
def sp_law_sign (K:W.Frag):Sp:=fun vs H Q _=>∃ n t:Int,vs=[.int n,.int t]∧0≤t ∧ ∀ c:Nat,c < 127→Q (.str (T [c])) H
theorem c_sign {K:W.Frag} {n t:Int} {H:Hp} {Q:VK} {E:XK} (h1:0≤t) (q : ∀ c:Nat,c < 127→Q (.str (T [c])) H):sp_law_sign K ([.int n,.int t]++[]) H Q E:=⟨n,t,rfl,h1,q⟩
local macro_rules | `(tactic| walk_at "rdc")=>`(tactic| ((with_reducible refine' c_sign ?h1 ?_);(case h1=>omega);intro c' hc'))
inductive SpAt (H:Hp) (p:Addr) (wd:Int) (f:Nat) (x:Str) (st:Bool):Fd→Prop
 | num {fg pl b:Int} {sn:Str} {z:Int} {m pt:Nat} {wy:Str} (e:H p=some (.tup [.str "number", .int fg,.int pl,.int b,.str sn,.int z,.str (T [m]),.str (T [pt]),.str wy,.int wd,.str (T [f]),.str x,.bl st])) (ok:NumS fg pl b sn z m pt wy wd f x):SpAt H p wd f x st (.num fg pl b sn z m pt wy)
 | word {sg:List Nat} {lo hi:Int} (e:H p=some (.tup [.str "word", .str (T sg),.int lo,.int hi,.int wd,.str (T [f]),.str x,.bl st])) (ok:WdS sg lo hi wd f x):SpAt H p wd f x st (.word sg lo hi)
 | cho {L:Addr} {ns:Ce} (e:H p=some (.tup [.str "choice", .ref L,.int wd,.str (T [f]),.str x,.bl st])) (eL:H L=some (.lst (tsV ns))) (ok:ChS ns wd f x):SpAt H p wd f x st (.cho ns)
theorem SpAt.same {H H':Hp} {p:Addr} {wd:Int} {f:Nat} {x:Str} {st:Bool} {d:Fd} (g:Same H H') (h:SpAt H p wd f x st d):SpAt H' p wd f x st d:=by
 cases h with
 | num e ok=>exact .num (g.at e) ok
 | word e ok=>exact .word (g.at e) ok
 | cho e eL ok=>exact .cho (g.at e) (g.at eL) ok
theorem ok_law_signs {f:Addr} {fd:FuncData} (F:Fun K "_law_signs" "_law_signs" s_law_signs f fd) (B:Blt mg):FnOk P w K mg base CX0 1 f fd [] (sp_law_signs K):=by
 refine F.ok sc_law_signs (fun vs H Q E h=>?_) (fun cdv A outer s H vs Q E hr h=>?_)
 ·obtain ⟨rfl,q⟩:=h
  rfl
 obtain ⟨rfl,q⟩:=h
 refine ⟨_,pss_one (ps_ret (pe_str)),?_⟩
 walk_at "st"
 walk_at "rd"
 have q':=q (Lt " !\"#$&'()*+,-./0123456789:;<=>?@ABCDEFGHIJKLMNOPQRSTUVWXYZ[\\]^_`abcdefghijklmnopqrstuvwxyz{|}~") (by decide +kernel) (by unfold Asc;decide +kernel)
 rw [T_Lt] at q'
 exact q'
theorem ok_law_sign {f:Addr} {fd:FuncData} (F:Fun K "_law_sign" "_law_sign" s_law_sign f fd) (B:Blt mg) (C_law_pick:Has P w K mg base "_law_pick" 1 ["_law_cell", "_law_salt", "_law_many"] (sp_law_pick K)) (C_law_signs:Has P w K mg base "_law_signs" 1 [] (sp_law_signs K)):FnOk P w K mg base CX0 2 f fd ["_law_cell", "_law_salt"] (sp_law_sign K):=by
 refine F.ok sc_law_sign (fun vs H Q E h=>?_) (fun cdv A outer s H vs Q E hr h=>?_)
 ·obtain ⟨n,t,rfl,h0,q⟩:=h
  rfl
 obtain ⟨n,t,rfl,h0,q⟩:=h
 refine ⟨_,pss_cons (ps_set (i:=2) sc_law_sign.nd rfl (Or.inl rfl) (pe_str))
  (pss_cons (ps_if (pt_cmpR op_gt (pe_callH C_law_pick hr rfl (pa_cons (pv 0) (pa_cons (pv 1) (pa_cons (pe_int) (pa_nil))))) (pe_int) (nomark _)) (pss_one (ps_ret (pe_ix ix_str (pv 2) (pe_callH C_law_pick hr rfl (pa_cons (pv 0) (pa_cons (pe_op op_add (pv 1) (pe_int)) (pa_cons (pe_callBH call_lenT B.z_len rfl bo_len (pa_cons (pv 2) (pa_nil))) (pa_nil))))) (fun _ _=>rfl)))) (pss_nil))
  (pss_one (ps_ret (pe_ix ix_str (pe_callH0 C_law_signs hr rfl) (pe_callH C_law_pick hr rfl (pa_cons (pv 0) (pa_cons (pe_op op_add (pv 1) (pe_int)) (pa_cons (pe_int) (pa_nil))))) (fun _ _=>rfl))))),?_⟩
 walk_at "st"
 have l13:(Lt " 0-+(1*)_,.9f").length=13:=by decide +kernel
 have a1 : ∀ c ∈ Lt " 0-+(1*)_,.9f", c < 127:=by decide +kernel
 walk_at "rd"
 ·rename_i c' hc';exact q _ (a1 _ hc')
 ·rename_i l' hl' al' v' h0' h1'
  refine q _ (al' _ ?_)
  rw [List.getD_eq_getElem?_getD,List.getElem?_eq_getElem (by omega)]
  exact List.getElem_mem _
theorem r_ixInt {K:W.Frag} {H:Hp} {Q:VK} {p:Addr} {xs:List V} {i:Int} (P:Int→Prop) (e:H p=some (.lst xs)) (h0:0≤i) (h1:i < xs.length) (hx : ∀ v ∈ xs,∃ k,v = .int k∧P k) (q : ∀ k,P k→Q (.int k) H):rIxL K (.ref p) (.int i) H Q:=
 r_ixAll (SqL.of e) h0 h1 fun x hi=>by
  obtain ⟨k,rfl,hk⟩:=hx x (List.mem_of_getElem? hi)
  exact q k hk
theorem r_ixStr {K:W.Frag} {H:Hp} {Q:VK} {p:Addr} {xs:List V} {i:Int} (P:Str→Prop) (e:H p=some (.lst xs)) (h0:0≤i) (h1:i < xs.length) (hx : ∀ v ∈ xs,∃ k,v = .str k∧P k) (q : ∀ k,P k→Q (.str k) H):rIxL K (.ref p) (.int i) H Q:=
 r_ixAll (SqL.of e) h0 h1 fun x hi=>by
  obtain ⟨k,rfl,hk⟩:=hx x (List.mem_of_getElem? hi)
  exact q k hk
theorem sty_mem : ∀ v ∈ [V.str "minus", V.str "plus", V.str "blank", V.str "brackets", V.str "behind"],∃ k,v = .str k∧Style k:=by
 simp only [List.mem_cons,List.not_mem_nil,or_false]
 rintro v (rfl | rfl | rfl | rfl | rfl)
 ·exact ⟨_,rfl,.inl rfl⟩
 ·exact ⟨_,rfl,.inr (.inl rfl)⟩
 ·exact ⟨_,rfl,.inr (.inr (.inl rfl))⟩
 ·exact ⟨_,rfl,.inr (.inr (.inr (.inl rfl)))⟩
 ·exact ⟨_,rfl,.inr (.inr (.inr (.inr rfl)))⟩
theorem way_mem : ∀ v ∈ [V.str "down", V.str "up", V.str "cut", V.str "near", V.str "even"],∃ k,v = .str k∧Way k:=by
 simp only [List.mem_cons,List.not_mem_nil,or_false]
 rintro v (rfl | rfl | rfl | rfl | rfl)
 ·exact ⟨_,rfl,.inl rfl⟩
 ·exact ⟨_,rfl,.inr (.inl rfl)⟩
 ·exact ⟨_,rfl,.inr (.inr (.inl rfl))⟩
 ·exact ⟨_,rfl,.inr (.inr (.inr (.inl rfl)))⟩
 ·exact ⟨_,rfl,.inr (.inr (.inr (.inr rfl)))⟩
theorem sidi_mem : ∀ v ∈ [V.str "right", V.str "left", V.str "middle", V.str "inside"],∃ k,v = .str k∧SideI k:=by
 simp only [List.mem_cons,List.not_mem_nil,or_false]
 rintro v (rfl | rfl | rfl | rfl)
 ·exact ⟨_,rfl,.inl (.inr (.inl rfl))⟩
 ·exact ⟨_,rfl,.inl (.inl rfl)⟩
 ·exact ⟨_,rfl,.inl (.inr (.inr rfl))⟩
 ·exact ⟨_,rfl,.inr rfl⟩
theorem side_mem : ∀ v ∈ [V.str "left", V.str "right", V.str "middle"],∃ k,v = .str k∧Side k:=by
 simp only [List.mem_cons,List.not_mem_nil,or_false]
 rintro v (rfl | rfl | rfl)
 ·exact ⟨_,rfl,.inl rfl⟩
 ·exact ⟨_,rfl,.inr (.inl rfl)⟩
 ·exact ⟨_,rfl,.inr (.inr rfl)⟩
def sp_law_number_spec (K:W.Frag):Sp:=fun vs H Q _=>∃ (c o s:Int),vs=[.int c,.int o,.int s]∧s=0 ∧ ∀ p H' wd f x st d,Same H H'→SpAt H' p wd f x st d→Q (.ref p) H'
theorem c_number_spec {K:W.Frag} {c o s:Int} {H:Hp} {Q:VK} {E:XK} (h:s=0) (q : ∀ p H' wd f x st d,Same H H'→SpAt H' p wd f x st d→Q (.ref p) H'):sp_law_number_spec K ([.int c,.int o,.int s]++[]) H Q E:=⟨c,o,s,rfl,h,q⟩
theorem ok_law_number_spec {f:Addr} {fd:FuncData} (F:Fun K "_law_number_spec" "_law_number_spec" s_law_number_spec f fd) (B:Blt mg) (C_law_pick:Has P w K mg base "_law_pick" 1 ["_law_cell", "_law_salt", "_law_many"] (sp_law_pick K)) (C_law_sign:Has P w K mg base "_law_sign" 2 ["_law_cell", "_law_salt"] (sp_law_sign K)):FnOk P w K mg base CX0 3 f fd ["_law_cell", "_law_other", "_law_small"] (sp_law_number_spec K):=by
 refine F.ok sc_law_number_spec (fun vs H Q E h=>?_) (fun cdv A outer s H vs Q E hr h=>?_)
 ·obtain ⟨c,o,s0,rfl,hs,q⟩:=h
  rfl
 obtain ⟨c,o,s0,rfl,hs,q⟩:=h
 refine ⟨_,pss_cons (ps_set (i:=3) sc_law_number_spec.nd rfl (Or.inl rfl) (pe_op op_add (pe_int) (pe_callH C_law_pick hr rfl (pa_cons (pv 0) (pa_cons (pe_int) (pa_cons (pe_ix ix_list (pe_lst (pa_cons (pe_int) (pa_cons (pe_int) (pa_nil)))) (pv 2) (fun _ _=>rfl)) (pa_nil)))))))
  (pss_cons (ps_set (i:=4) sc_law_number_spec.nd rfl (Or.inl rfl) (pe_callH C_law_pick hr rfl (pa_cons (pv 0) (pa_cons (pe_int) (pa_cons (pe_ix ix_list (pe_lst (pa_cons (pe_int) (pa_cons (pe_int) (pa_nil)))) (pv 2) (fun _ _=>rfl)) (pa_nil))))))
  (pss_cons (ps_set (i:=5) sc_law_number_spec.nd rfl (Or.inl rfl) (pe_ix ix_list (pe_lst (pa_cons (pe_int) (pa_cons (pe_int) (pa_cons (pe_ix ix_list (pe_lst (pa_cons (pe_int) (pa_cons (pe_int) (pa_nil)))) (pv 2) (fun _ _=>rfl)) (pa_cons (pe_ix ix_list (pe_lst (pa_cons (pe_op op_add (pe_int) (pe_callH C_law_pick hr rfl (pa_cons (pv 0) (pa_cons (pe_int) (pa_cons (pe_int) (pa_nil)))))) (pa_cons (pe_int) (pa_nil)))) (pv 2) (fun _ _=>rfl)) (pa_nil)))))) (pe_callH C_law_pick hr rfl (pa_cons (pv 0) (pa_cons (pe_int) (pa_cons (pe_int) (pa_nil))))) (fun _ _=>rfl)))
  (pss_cons (ps_set (i:=6) sc_law_number_spec.nd rfl (Or.inl rfl) (pe_ix ix_list (pe_lst (pa_cons (pe_str) (pa_cons (pe_str) (pa_cons (pe_str) (pa_cons (pe_str) (pa_cons (pe_str) (pa_nil))))))) (pe_callH C_law_pick hr rfl (pa_cons (pv 0) (pa_cons (pe_int) (pa_cons (pe_int) (pa_nil))))) (fun _ _=>rfl)))
  (pss_cons (ps_set (i:=7) sc_law_number_spec.nd rfl (Or.inl rfl) (pe_ix ix_list (pe_lst (pa_cons (pe_int) (pa_cons (pe_int) (pa_cons (pe_op op_add (pe_int) (pe_callH C_law_pick hr rfl (pa_cons (pv 0) (pa_cons (pe_int) (pa_cons (pe_int) (pa_nil)))))) (pa_nil))))) (pe_callH C_law_pick hr rfl (pa_cons (pv 0) (pa_cons (pe_int) (pa_cons (pe_int) (pa_nil))))) (fun _ _=>rfl)))
  (pss_cons (ps_set (i:=8) sc_law_number_spec.nd rfl (Or.inl rfl) (pe_ix ix_list (pe_lst (pa_cons (pe_str) (pa_cons (pe_str) (pa_cons (pe_str) (pa_cons (pe_str) (pa_cons (pe_str) (pa_nil))))))) (pe_callH C_law_pick hr rfl (pa_cons (pv 0) (pa_cons (pe_int) (pa_cons (pe_int) (pa_nil))))) (fun _ _=>rfl)))
  (pss_cons (ps_set (i:=9) sc_law_number_spec.nd rfl (Or.inl rfl) (pe_tup (pa_cons (pe_callH C_law_sign hr rfl (pa_cons (pv 1) (pa_cons (pe_int) (pa_nil)))) (pa_cons (pe_callH C_law_sign hr rfl (pa_cons (pv 1) (pa_cons (pe_int) (pa_nil)))) (pa_cons (pe_callH C_law_sign hr rfl (pa_cons (pv 1) (pa_cons (pe_int) (pa_nil)))) (pa_nil))))))
  (pss_cons (ps_set (i:=10) sc_law_number_spec.nd rfl (Or.inl rfl) (pe_lst (pa_cons (pe_int) (pa_cons (pe_op op_add (pe_int) (pe_callH C_law_pick hr rfl (pa_cons (pv 1) (pa_cons (pe_int) (pa_cons (pe_ix ix_list (pe_lst (pa_cons (pe_int) (pa_cons (pe_int) (pa_nil)))) (pv 2) (fun _ _=>rfl)) (pa_nil)))))) (pa_cons (pe_op op_add (pe_int) (pe_callH C_law_pick hr rfl (pa_cons (pv 1) (pa_cons (pe_int) (pa_cons (pe_ix ix_list (pe_lst (pa_cons (pe_int) (pa_cons (pe_int) (pa_nil)))) (pv 2) (fun _ _=>rfl)) (pa_nil)))))) (pa_nil))))))
  (pss_cons (ps_set (i:=11) sc_law_number_spec.nd rfl (Or.inl rfl) (pe_ix ix_list (pv 10) (pe_callH C_law_pick hr rfl (pa_cons (pv 1) (pa_cons (pe_int) (pa_cons (pe_int) (pa_nil))))) (fun _ _=>rfl)))
  (pss_cons (ps_set (i:=12) sc_law_number_spec.nd rfl (Or.inl rfl) (pe_ix ix_list (pe_lst (pa_cons (pe_str) (pa_cons (pe_str) (pa_cons (pe_str) (pa_cons (pe_str) (pa_nil)))))) (pe_callH C_law_pick hr rfl (pa_cons (pv 1) (pa_cons (pe_int) (pa_cons (pe_int) (pa_nil))))) (fun _ _=>rfl)))
  (pss_cons (ps_set (i:=13) sc_law_number_spec.nd rfl (Or.inl rfl) (pe_cmpR op_eq (pe_callH C_law_pick hr rfl (pa_cons (pv 1) (pa_cons (pe_int) (pa_cons (pe_int) (pa_nil))))) (pe_int) (nomark _)))
  (pss_one (ps_ret (pe_tup (pa_cons (pe_str) (pa_cons (pv 3) (pa_cons (pv 4) (pa_cons (pv 5) (pa_cons (pv 6) (pa_cons (pv 7) (pa_cons (pe_ix ix_tup (pv 9) (pe_int) (fun _ _=>rfl)) (pa_cons (pe_ix ix_tup (pv 9) (pe_int) (fun _ _=>rfl)) (pa_cons (pv 8) (pa_cons (pv 11) (pa_cons (pe_ix ix_tup (pv 9) (pe_int) (fun _ _=>rfl)) (pa_cons (pv 12) (pa_cons (pv 13) (pa_nil) se_Name) se_Name) se_Subscript) se_Name) se_Name) se_Subscript) se_Subscript) se_Name) se_Name) se_Name) se_Name) se_Name) se_Constant)))))))))))))),?_⟩
 walk_at "st"
 subst hs
 all_goals
  walk_at "rd"
  rename_i p4 H4 g4 n4 e4 v3 h03 h13 p3 H3 g3 n3 e3 v2 h02 h12 p2 H2 g2 n2 e2 v1 h01 h11 p1 H1 g1 n1 e1 p0 H0 g0 n0 e0 v0 h00 h10
  refine r_ixInt (fun b=>2≤b∧b≤16) e0 (by omega) (by show _ < (4:Int);omega) (by simp only [List.mem_cons,List.not_mem_nil,or_false];rintro v (rfl | rfl | rfl | rfl) <;> exact ⟨_,rfl,by omega,by omega⟩) fun b hb=>?_
  have gA:Same H H0:=by walk_at "sm"
  clear e0 e1 e2 e3 e4
  walk_at "rd"
  rename_i p5 H5 g5 n5 e5 v5 h05 h15
  refine r_ixStr Style e5 (by omega) (by show _ < (5:Int);omega)  sty_mem fun sn hsn=>?_
  clear e5
  walk_at "rd"
  rename_i v6 h06 h16 p7 H7 g7 n7 e7 v7 h07 h17
  refine r_ixInt (fun z=>0≤z∧z≤9) e7 (by omega) (by show _ < (3:Int);omega) (by simp only [List.mem_cons,List.not_mem_nil,or_false];rintro v (rfl | rfl | rfl) <;> exact ⟨_,rfl,by omega,by omega⟩) fun z hz=>?_
  clear e7
  walk_at "rd"
  rename_i p8 H8 g8 n8 e8 v8 h08 h18
  refine r_ixStr Way e8 (by omega) (by show _ < (5:Int);omega)  way_mem fun wy hwy=>?_
  clear e8
  walk_at "rd"
  rename_i c3 hc3 c2 hc2 c1 hc1 pA HA gA1 eA pB HB gB nB eB v9 h09 h19 pC HC gC nC eC v10 h010 h110 pD HD gD nD eD v11 h011 h111
  refine r_ixInt (fun wd=>0≤wd∧wd≤40) eD (by omega) (by show _ < (3:Int);omega) (by simp only [List.mem_cons,List.not_mem_nil,or_false];rintro v (rfl | rfl | rfl) <;> exact ⟨_,rfl,by omega,by omega⟩) fun wd hwd=>?_
  clear eD eC eB
  walk_at "rd"
  rename_i pE HE gE nE eE v12 h012 h112
  refine r_ixStr SideI eE (by omega) (by show _ < (4:Int);omega) sidi_mem fun y hy=>?_
  clear eE
  walk_at "rd"
  rename_i v13 h013 h113 pF HF gF eF
  exact q _ _ _ _ _ _ _ (by walk_at "sm") (.num eF ⟨by omega,by omega,by omega,by omega,hb.1,hb.2,hsn,hz.1,hz.2,by assumption,by assumption,hwy,hwd.1,hwd.2,by assumption,hy⟩)
def sp_law_number_form (K:W.Frag) (C:Addr):Sp:=fun vs H Q _=>∃ (p:Addr) (fg pl b:Int) (sn:Str) (z:Int) (m pt:Nat) (wy:Str) (wd:Int) (f:Nat) (x:Str) (st:Bool),vs=[.ref p]∧H p=some (.tup [.str "number", .int fg,.int pl,.int b,.str sn,.int z,.str (T [m]),.str (T [pt]),.str wy,.int wd,.str (T [f]),.str x,.bl st]) ∧ ∀ o H',Same H H'→FormAt K H' o C wd f x st (nmore fg pl b sn z m pt wy)→Q (.ref o) H'
theorem r_slT {K:W.Frag} {H:Hp} {Q:VK} {a:Addr} {xs:List V} {lo hi:Option Int} {n:Nat} (h:H a=some (.tup xs)) (hn:xs.length=n) (hw : ¬ (HT.sIx n 0 lo=0∧HT.sIx n n hi=n)) (q : ∀ p H',Same H H'→H' p=some (.tup (cutV xs lo hi))→Q (.ref p) H'):rSlT K (.ref a) lo hi H Q:=⟨a,xs,rfl,SqT.of h,by rw [hn];exact hw,fun p hp=>q p _ (same_new hp _) upd_same⟩
theorem ok_law_number_form {f:Addr} {fd:FuncData} (F:Fun K "_law_number_form" "_law_number_form" s_law_number_form f fd) (B:Blt mg) {c_NumberForm:Addr} (m_NumberForm:mg "NumberForm" = some (.ref c_NumberForm)) (I_NumberForm_init:HasI P w K mg base CX0 c_NumberForm 2 ["self", "figures", "places", "base", "sign", "size", "mark", "point", "way", "width", "fill", "side", "strict"] (sp_NumberForm___init__ K c_NumberForm))(cl:Cls K c_NumberForm) (na:NoAttrs K c_NumberForm (bns++nns)):FnOk P w K mg base CX0 4 f fd ["_law_spec_here"] (sp_law_number_form K c_NumberForm):=by
 refine F.ok sc_law_number_form (fun vs H Q E h=>?_) (fun cdv A outer s H vs Q E hr h=>?_)
 ·obtain ⟨p,fg,pl,b,sn,z,m,pt,wy,wd,f,x,st,rfl,hp,q⟩:=h
  rfl
 obtain ⟨p,fg,pl,b,sn,z,m,pt,wy,wd,f,x,st,rfl,hp,q⟩:=h
 refine ⟨_,pss_cons (ps_asg (pe_slice sl_tup (pv 0) (po_some (pe_int)) (po_some (pe_int))) (pg_tup rfl (pgs_cons (pg_name (i:=1) sc_law_number_form.nd rfl (Or.inl rfl)) (pgs_cons (pg_name (i:=2) sc_law_number_form.nd rfl (Or.inl rfl)) (pgs_cons (pg_name (i:=3) sc_law_number_form.nd rfl (Or.inl rfl)) (pgs_cons (pg_name (i:=4) sc_law_number_form.nd rfl (Or.inl rfl)) (pgs_cons (pg_name (i:=5) sc_law_number_form.nd rfl (Or.inl rfl)) (pgs_cons (pg_name (i:=6) sc_law_number_form.nd rfl (Or.inl rfl)) (pgs_cons (pg_name (i:=7) sc_law_number_form.nd rfl (Or.inl rfl)) (pgs_nil))))))))))
  (pss_cons (ps_asg (pe_slice sl_tup (pv 0) (po_some (pe_int)) (po_none)) (pg_tup rfl (pgs_cons (pg_name (i:=8) sc_law_number_form.nd rfl (Or.inl rfl)) (pgs_cons (pg_name (i:=9) sc_law_number_form.nd rfl (Or.inl rfl)) (pgs_cons (pg_name (i:=10) sc_law_number_form.nd rfl (Or.inl rfl)) (pgs_cons (pg_name (i:=11) sc_law_number_form.nd rfl (Or.inl rfl)) (pgs_cons (pg_name (i:=12) sc_law_number_form.nd rfl (Or.inl rfl)) (pgs_nil))))))))
  (pss_one (ps_ret (pe_makeH I_NumberForm_init pass0 hr rfl m_NumberForm (pa_cons (pv 1) (pa_cons (pv 2) (pa_cons (pv 3) (pa_cons (pv 4) (pa_cons (pv 5) (pa_cons (pv 6) (pa_cons (pv 7) (pa_cons (pv 8) (pa_cons (pv 9) (pa_cons (pv 10) (pa_cons (pv 11) (pa_cons (pv 12) (pa_nil) se_Name) se_Name) se_Name) se_Name) se_Name) se_Name) se_Name) se_Name) se_Name) se_Name) se_Name) se_Name))))),?_⟩
 walk_at "st"
 walk_at "rd"
 refine r_slT (n:=13) hp rfl (by decide) fun p1 H1 g1 e1=>?_
 have e1':H1 p1=some (.tup [.int fg,.int pl,.int b,.str sn,.int z,.str (T [m]),.str (T [pt])]):=e1
 clear e1
 walk_at "rd"
 refine r_slT (n:=13) (g1.at hp) rfl (by decide) fun p2 H2 g2 e2=>?_
 have e2':H2 p2=some (.tup [.str wy,.int wd,.str (T [f]),.str x,.bl st]):=e2
 clear e2
 walk_at "rd"
 intro o dx no nd ne
 refine ⟨o,dx,fg,pl,b,sn,z,m,pt,wy,wd,f,x,st,rfl,upd_same,?_⟩
 have F0:FormAt K (upd (upd (upd H2 dx (.own o)) o (.ins c_NumberForm dx [])) o (.ins c_NumberForm dx (bfs wd f x st (nmore fg pl b sn z m pt wy)))) o c_NumberForm wd f x st (nmore fg pl b sn z m pt wy):=⟨⟨dx,upd_same⟩,cl,na⟩
 have g3:Same H2 (upd (upd (upd H2 dx (.own o)) o (.ins c_NumberForm dx [])) o (.ins c_NumberForm dx (bfs wd f x st (nmore fg pl b sn z m pt wy)))):=same_upd (same_upd (same_upd (Same.refl _) nd) no) no
 generalize upd (upd (upd H2 dx (.own o)) o (.ins c_NumberForm dx [])) o (.ins c_NumberForm dx (bfs wd f x st (nmore fg pl b sn z m pt wy)))=H3 at F0 g3 ⊢
 exact ⟨rfl,q _ _ ((g1.trans g2).trans g3) F0⟩
theorem asc_getD {l:List Nat} (h:Asc l) (k:Nat):l.getD k 0 < 127:=by
 rw [List.getD_eq_getElem?_getD]
 cases e:l[k]? with
 | none=>decide
 | some c=>exact h c (List.mem_of_getElem? e)
local macro_rules | `(tactic| walk_at "asc")=>`(tactic| first | assumption | exact Asc.nil | exact Asc.one (asc_getD (by assumption) _) | exact Asc.one (by decide) | (with_reducible refine Asc.app ?_ ?_ <;> walk_at "asc") | (with_reducible refine Asc.take ?_ _;walk_at "asc") | (with_reducible refine Asc.drop ?_ _;walk_at "asc"))
def sp_law_word_spec (K:W.Frag):Sp:=fun vs H Q _=>∃ (c o s:Int),vs=[.int c,.int o,.int s]∧s=0 ∧ ∀ p H' wd f x st d,Same H H'→SpAt H' p wd f x st d→Q (.ref p) H'
theorem c_word_spec {K:W.Frag} {c o s:Int} {H:Hp} {Q:VK} {E:XK} (h:s=0) (q : ∀ p H' wd f x st d,Same H H'→SpAt H' p wd f x st d→Q (.ref p) H'):sp_law_word_spec K ([.int c,.int o,.int s]++[]) H Q E:=⟨c,o,s,rfl,h,q⟩
theorem ok_law_word_spec {f:Addr} {fd:FuncData} (F:Fun K "_law_word_spec" "_law_word_spec" s_law_word_spec f fd) (B:Blt mg) (C_law_pick:Has P w K mg base "_law_pick" 1 ["_law_cell", "_law_salt", "_law_many"] (sp_law_pick K)) (C_law_signs:Has P w K mg base "_law_signs" 1 [] (sp_law_signs K)) (C_law_sign:Has P w K mg base "_law_sign" 2 ["_law_cell", "_law_salt"] (sp_law_sign K)):FnOk P w K mg base CX0 3 f fd ["_law_cell", "_law_other", "_law_small"] (sp_law_word_spec K):=by
 refine F.ok sc_law_word_spec (fun vs H Q E h=>?_) (fun cdv A outer s H vs Q E hr h=>?_)
 ·obtain ⟨c,o,s0,rfl,hs,q⟩:=h
  rfl
 obtain ⟨c,o,s0,rfl,hs,q⟩:=h
 refine ⟨_,pss_cons (ps_set (i:=3) sc_law_word_spec.nd rfl (Or.inl rfl) (pe_callH C_law_pick hr rfl (pa_cons (pv 0) (pa_cons (pe_int) (pa_cons (pe_int) (pa_nil))))))
  (pss_cons (ps_set (i:=4) sc_law_word_spec.nd rfl (Or.inl rfl) (pe_op op_add (pe_int) (pe_callH C_law_pick hr rfl (pa_cons (pv 0) (pa_cons (pe_int) (pa_cons (pe_int) (pa_nil)))))))
  (pss_cons (ps_set (i:=5) sc_law_word_spec.nd rfl (Or.inl rfl) (pe_slice sl_str (pe_slice3 (pe_callH0 C_law_signs hr rfl) (po_some (pv 3)) (po_none) (pv 4)) (po_none) (po_some (pe_op op_add (pe_int) (pe_callH C_law_pick hr rfl (pa_cons (pv 0) (pa_cons (pe_int) (pa_cons (pe_ix ix_list (pe_lst (pa_cons (pe_int) (pa_cons (pe_int) (pa_nil)))) (pv 2) (fun _ _=>rfl)) (pa_nil)))))))))
  (pss_cons (ps_set (i:=6) sc_law_word_spec.nd rfl (Or.inl rfl) (pe_callH C_law_pick hr rfl (pa_cons (pv 1) (pa_cons (pe_int) (pa_cons (pe_ix ix_list (pe_lst (pa_cons (pe_int) (pa_cons (pe_int) (pa_nil)))) (pv 2) (fun _ _=>rfl)) (pa_nil))))))
  (pss_cons (ps_set (i:=7) sc_law_word_spec.nd rfl (Or.inl rfl) (pe_callBH (call_min2N rfl) B.z_min rfl bo_min (pa_cons (pe_int) (pa_cons (pe_op op_add (pv 6) (pe_callH C_law_pick hr rfl (pa_cons (pv 1) (pa_cons (pe_int) (pa_cons (pe_ix ix_list (pe_lst (pa_cons (pe_int) (pa_cons (pe_int) (pa_nil)))) (pv 2) (fun _ _=>rfl)) (pa_nil)))))) (pa_nil)))))
  (pss_cons (ps_set (i:=8) sc_law_word_spec.nd rfl (Or.inl rfl) (pe_ix ix_list (pe_lst (pa_cons (pe_ix ix_str (pv 5) (pe_int) (fun _ _=>rfl)) (pa_cons (pe_callH C_law_sign hr rfl (pa_cons (pv 1) (pa_cons (pe_int) (pa_nil)))) (pa_cons (pe_ix ix_str (pv 5) (pe_un un_neg (pe_int)) (fun _ _=>rfl)) (pa_nil))))) (pe_callH C_law_pick hr rfl (pa_cons (pv 1) (pa_cons (pe_int) (pa_cons (pe_int) (pa_nil))))) (fun _ _=>rfl)))
  (pss_cons (ps_set (i:=9) sc_law_word_spec.nd rfl (Or.inl rfl) (pe_ix ix_list (pe_lst (pa_cons (pe_int) (pa_cons (pe_op op_add (pe_int) (pe_callH C_law_pick hr rfl (pa_cons (pv 1) (pa_cons (pe_int) (pa_cons (pe_ix ix_list (pe_lst (pa_cons (pe_int) (pa_cons (pe_int) (pa_nil)))) (pv 2) (fun _ _=>rfl)) (pa_nil)))))) (pa_cons (pv 7) (pa_nil))))) (pe_callH C_law_pick hr rfl (pa_cons (pv 1) (pa_cons (pe_int) (pa_cons (pe_int) (pa_nil))))) (fun _ _=>rfl)))
  (pss_cons (ps_set (i:=10) sc_law_word_spec.nd rfl (Or.inl rfl) (pe_ix ix_list (pe_lst (pa_cons (pe_str) (pa_cons (pe_str) (pa_cons (pe_str) (pa_nil))))) (pe_callH C_law_pick hr rfl (pa_cons (pv 1) (pa_cons (pe_int) (pa_cons (pe_int) (pa_nil))))) (fun _ _=>rfl)))
  (pss_one (ps_ret (pe_tup (pa_cons (pe_str) (pa_cons (pv 5) (pa_cons (pv 6) (pa_cons (pv 7) (pa_cons (pv 9) (pa_cons (pv 8) (pa_cons (pv 10) (pa_cons (pe_cmpR op_eq (pe_callH C_law_pick hr rfl (pa_cons (pv 1) (pa_cons (pe_int) (pa_cons (pe_int) (pa_nil))))) (pe_int) (nomark _)) (pa_nil) se_Compare) se_Name) se_Name) se_Name) se_Name) se_Name) se_Name) se_Constant))))))))))),?_⟩
 walk_at "st"
 subst hs
 all_goals
  walk_at "rd"
  rename_i v1 h01 h11 v0 h00 h10 l hl al
  obtain ⟨p1,p2,p3⟩:=picks_step (a:=l) (s:=v1) (st:=1+v0) h01 (by omega) (by omega)
  refine ⟨T l,rfl,by omega,by show l.length≤sizeLine;rw [hl];decide,Nat.le_of_lt (small1000 (by omega)),fun y hy=>?_⟩
  have hy' : ∃ z:List Nat,y=T z∧0 < z.length∧z.length≤200∧Asc z:=by
   rcases hy with rfl | ⟨_,rfl⟩
   ·exact ⟨_,rfl,List.length_pos_iff.mpr p1,by omega,fun c hc=>al c (p2 c hc)⟩
   ·exact ⟨l,rfl,by omega,by omega,al⟩
  obtain ⟨z,rfl,z1,z2,z3⟩:=hy'
  clear hy p1 p2 p3
  walk_at "rd"
  rename_i q3 H3 g3 m3 e3 v3 h03 h13 q2 H2 g2 m2 e2 v2 h02 h12 q1 H1 g1 m1 e1 v9 h09 h19 k0 hk0 c0 hc0 qf Hf gf mf ef vf hf0 hf1
  have s1:0 < (z.take (1+v3).toNat).length:=by rw [List.length_take];omega
  have s2:(z.take (1+v3).toNat).length≤200:=by rw [List.length_take];omega
  have s3:Asc (z.take (1+v3).toNat):=z3.take _
  generalize z.take (1+v3).toNat=sg at ef s1 s2 s3 ⊢
  have sm : ∀ k,k < sg.length→sg.getD k 0 < 127:=fun k hk=>s3 _ (by rw [List.getD_eq_getElem?_getD,List.getElem?_eq_getElem hk];exact List.getElem_mem _)
  refine r_ixStr (fun y=>∃ f:Nat,y=T [f]∧f < 127) ef (by omega) (by show _ < (3:Int);omega) (by simp only [List.mem_cons,List.not_mem_nil,or_false];rintro v (rfl | rfl | rfl) <;> exact ⟨_,rfl,_,rfl,by first | assumption | exact asc_getD s3 _⟩) fun y hy=>?_
  obtain ⟨f,rfl,hf⟩:=hy
  have g0:Same H Hf:=by walk_at "sm"
  clear ef e1 e2 e3
  walk_at "rd"
  rename_i q8 H8 g8 m8 e8 v8 h08 h18 q7 H7 g7 m7 e7 v7 h07 h17
  refine r_ixInt (fun wd=>0≤wd∧wd≤40) e7 (by omega) (by show _ < (3:Int);omega) (by simp only [List.mem_cons,List.not_mem_nil,or_false];rintro v (rfl | rfl | rfl) <;> exact ⟨_,rfl,by omega,by omega⟩) fun wd hwd=>?_
  clear e7 e8
  walk_at "rd"
  rename_i q6 H6 g6 m6 e6 v6 h06 h16
  refine r_ixStr Side e6 (by omega) (by show _ < (3:Int);omega) side_mem fun y hy=>?_
  clear e6
  walk_at "rd"
  rename_i v5 h05 h15 q5 H5 g5 e5
  exact q _ _ _ _ _ _ _ (by walk_at "sm") (.word e5 ⟨by omega,s2,h02,by omega,by omega,hwd.1,hwd.2,hy,s3,hf⟩)
def sp_law_names (K:W.Frag):Sp:=fun vs H Q _=>∃ (c n:Int),vs=[.int c,.int n]∧1≤n∧n≤12 ∧ ∀ L H' ns,Same H H'→H' L=some (.lst (tsV ns))→(ns.length:Int)=n→(∀ t ∈ ns,1≤t.length∧t.length≤13∧Asc t)→Q (.ref L) H'
theorem c_names {K:W.Frag} {c n:Int} {H:Hp} {Q:VK} {E:XK} (h1:1≤n) (h2:n≤12) (q : ∀ L H' ns,Same H H'→H' L=some (.lst (tsV ns))→(ns.length:Int)=n→(∀ t ∈ ns,1≤t.length∧t.length≤13∧Asc t)→Q (.ref L) H'):sp_law_names K ([.int c,.int n]++[]) H Q E:=⟨c,n,rfl,h1,h2,q⟩
theorem fl1 : ∀ cs:List Nat,(cs.map fun c=>[c]).flatten=cs
 | []=>rfl
 | c::cs=>by rw [List.map_cons,List.flatten_cons,fl1 cs];rfl
theorem app_nm {H' H4:Hp} {L:Addr} {ns:Ce} {t:List Nat} {Q:VK} (nL:H' L=none) (g4:Same H' H4) (e4:H4 L=some (.lst (tsV ns))) (hz:ns.length≤900) (q : ∀ H5,Same H' H5→H5 L=some (.lst (tsV (ns++[t])))→Q .non H5):rAppend (.ref L) [.str (T t)] H4 Q:=
 r_append e4 (small1000 (by rw [tsV_len];omega)) (q _ (same_upd g4 nL) (by rw [upd_same,← tsV_app];rfl))
theorem mem_app {ns:Ce} {t:List Nat} (h : ∀ t ∈ ns,1≤t.length∧t.length≤13∧Asc t) (h1:1≤t.length∧t.length≤13) (h2:Asc t) : ∀ u ∈ ns++[t],1≤u.length∧u.length≤13∧Asc u:=fun u hu=>by
 rcases List.mem_append.mp hu with hu | hu
 ·exact h u hu
 ·rw [List.mem_singleton.mp hu];exact ⟨h1.1,h1.2,h2⟩
theorem ok_law_names {f:Addr} {fd:FuncData} (F:Fun K "_law_names" "_law_names" s_law_names f fd) (B:Blt mg) (C_law_pick:Has P w K mg base "_law_pick" 1 ["_law_cell", "_law_salt", "_law_many"] (sp_law_pick K)) (C_law_signs:Has P w K mg base "_law_signs" 1 [] (sp_law_signs K)):FnOk P w K mg base CX0 2 f fd ["_law_cell", "_law_many"] (sp_law_names K):=by
 refine F.ok sc_law_names (fun vs H Q E h=>?_) (fun cdv A outer s H vs Q E hr h=>?_)
 ·obtain ⟨c,n,rfl,h1,h2,q⟩:=h
  rfl
 obtain ⟨c,n,rfl,h1,h2,q⟩:=h
 refine ⟨_,pss_cons (ps_set (i:=2) sc_law_names.nd rfl (Or.inr rfl) (pe_slice sl_str (pe_callH0 C_law_signs hr rfl) (po_some (pe_int)) (po_none)))
  (pss_cons (ps_set (i:=3) sc_law_names.nd rfl (Or.inl rfl) (pe_bm PySem.F.plainAttrs_str PySem.F.slot_str_join PySem.F.type_str_join mt_joinT (pe_strT (l:=[]) (by decide +kernel)) (pa_cons (pe_comp (cl:=[("_law_signs_here", s.heap.objs.size+1+1),("_law_cell", s.heap.objs.size+1+0)]) (fr:=["_law_cell", "_law_signs_here"]) (is:=[0,2]) rfl rfl ⟨rfl,⟨rfl,trivial⟩⟩ rfl ⟨⟨rfl,rfl,Or.inl rfl⟩,⟨⟨rfl,rfl,Or.inl rfl⟩,trivial⟩⟩ (by decide) (by decide +kernel) rfl (by decide +kernel) rfl (pi_range1 rfl B.z_range (pa_cons (pe_int) (pa_nil))) (fun _ _ _ _=>pifs_nil) (fun _ _ _ _=>pe_ix ix_str (pv 2) (pe_callH C_law_pick hr rfl (pa_cons (pv 1) (pa_cons (pe_op op_add (pe_int) (pv 0)) (pa_cons (pe_int) (pa_nil))))) (fun _ _=>rfl))) (pa_nil))))
  (pss_cons (ps_set (i:=4) sc_law_names.nd rfl (Or.inl rfl) (pe_callH C_law_pick hr rfl (pa_cons (pv 0) (pa_cons (pe_int) (pa_cons (pe_int) (pa_nil))))))
  (pss_cons (ps_set (i:=5) sc_law_names.nd rfl (Or.inl rfl) (pe_callH C_law_pick hr rfl (pa_cons (pv 0) (pa_cons (pe_int) (pa_cons (pe_int) (pa_nil))))))
  (pss_cons (ps_set (i:=6) sc_law_names.nd rfl (Or.inl rfl) (pe_op op_add (pe_int) (pe_callH C_law_pick hr rfl (pa_cons (pv 0) (pa_cons (pe_int) (pa_cons (pe_int) (pa_nil)))))))
  (pss_cons (ps_set (i:=7) sc_law_names.nd rfl (Or.inl rfl) (pe_ix ix_list (pe_lst (pa_cons (pe_int) (pa_cons (pe_int) (pa_cons (pe_int) (pa_cons (pe_int) (pa_cons (pe_int) (pa_cons (pe_int) (pa_nil)))))))) (pe_callH C_law_pick hr rfl (pa_cons (pv 0) (pa_cons (pe_int) (pa_cons (pe_int) (pa_nil))))) (fun _ _=>rfl)))
  (pss_cons (ps_set (i:=8) sc_law_names.nd rfl (Or.inl rfl) (pe_lst (pa_nil)))
  (pss_cons (ps_for PassesOwn.never rfl (pi_range1 rfl B.z_range (pa_cons (pv 1) (pa_nil))) (pg_name (i:=9) sc_law_names.nd rfl (Or.inl rfl)) (pss_cons (ps_set (i:=10) sc_law_names.nd rfl (Or.inl rfl) (pe_ix ix_str (pv 2) (pe_op op_modP (pe_op op_add (pe_callH C_law_pick hr rfl (pa_cons (pv 0) (pa_cons (pe_int) (pa_cons (pe_int) (pa_nil))))) (pe_op op_mulA (pv 9) (pv 7))) (pe_int)) (fun _ _=>rfl)))
  (pss_one (ps_if (pt_cmpR op_eq (pv 4) (pe_int) (nomark _)) (pss_one (ps_expr (pe_bm PySem.F.plainAttrs_list PySem.F.slot_list_append PySem.F.type_list_append mt_append (pv 8) (pa_cons (pe_slice sl_str (pv 3) (po_none) (po_some (pe_op op_add (pv 9) (pe_int)))) (pa_nil))))) (pss_one (ps_if (pt_cmpR op_eq (pv 4) (pe_int) (nomark _)) (pss_one (ps_expr (pe_bm PySem.F.plainAttrs_list PySem.F.slot_list_append PySem.F.type_list_append mt_append (pv 8) (pa_cons (pe_op op_addS (pe_op op_addS (pe_slice sl_str (pv 3) (po_none) (po_some (pe_callBH (call_min2N rfl) B.z_min rfl bo_min (pa_cons (pv 5) (pa_cons (pe_op op_sub (pv 6) (pe_int)) (pa_nil)))))) (pv 10)) (pe_slice sl_str (pv 3) (po_some (pe_op op_add (pe_callBH (call_min2N rfl) B.z_min rfl bo_min (pa_cons (pv 5) (pa_cons (pe_op op_sub (pv 6) (pe_int)) (pa_nil)))) (pe_int))) (po_some (pv 6)))) (pa_nil))))) (pss_one (ps_expr (pe_bm PySem.F.plainAttrs_list PySem.F.slot_list_append PySem.F.type_list_append mt_append (pv 8) (pa_cons (pe_op op_addS (pe_slice sl_str (pv 3) (po_none) (po_some (pv 9))) (pe_strT (l:=[48]) (by decide +kernel))) (pa_nil)))))))))))
  (pss_cons (ps_set (i:=11) sc_law_names.nd rfl (Or.inl rfl) (pe_callH C_law_pick hr rfl (pa_cons (pv 0) (pa_cons (pe_int) (pa_cons (pv 1) (pa_nil))))))
  (pss_one (ps_ret (pe_op op_cat (pe_slice sl_list (pv 8) (po_some (pv 11)) (po_none)) (pe_slice sl_list (pv 8) (po_none) (po_some (pv 11)))))))))))))),?_⟩
 walk_at "st"
 walk_at "rd"
 rename_i l hl al
 have lS:(l.drop (Int.toNat 1)).length=93:=by rw [List.length_drop,hl];rfl
 have aS:Asc (l.drop (Int.toNat 1)):=Asc.drop al _
 generalize l.drop (Int.toNat 1)=S at lS aS ⊢
 refine r_kCompRN (by decide) (by decide) (Nat.le_of_lt (small1000 (by decide))) (fun i ys H'=>H'=H ∧ ∃ cs:List Nat,cs.length=i∧Asc cs∧ys=tsV (cs.map fun c=>[c])) ⟨rfl,[],rfl,Asc.nil,rfl⟩ (fun i ys H' _ zz=>by obtain ⟨_,cs,h,_,e⟩:=zz;rw [e,tsV_len,List.length_map];omega) ?_ ?_
 ·rintro i ys H' hi ⟨rfl,cs,c1,c2,rfl⟩
  walk_at "rd"
  rename_i v' h0' h1'
  refine nxC hi ⟨rfl,cs++[S.getD v'.toNat 0],by rw [List.length_append,c1];rfl,c2.app (.one (asc_getD aS _)),?_⟩
  rw [List.map_append,← tsV_app];rfl
 ·rintro ys H' ⟨rfl,B,lB,aB,rfl⟩ p1 H1 g1 n1 e1
  have lB':B.length=12:=lB
  walk_at "rd"
  refine r_joinT e1 (by rw [fl1,List.length_map];show B.length+B.length*0≤_;omega) ?_
  rw [show Lt (T [])=[] from rfl,jn_nil,fl1]
  clear e1
  walk_at "rd"
  rename_i w1 w10 w11 w2 w20 w21 w3 w30 w31 p2 H2 g2 n2 e2 w4 w40 w41
  refine r_ixInt (fun s=>1≤s∧s≤8) e2 (by omega) (by show _ < (6:Int);omega) (by simp only [List.mem_cons,List.not_mem_nil,or_false];rintro v (rfl | rfl | rfl | rfl | rfl | rfl) <;> exact ⟨_,rfl,by omega,by omega⟩) fun s hs=>?_
  have g02:=g1.trans g2
  clear e2
  walk_at "rd"
  rename_i L H3 g3 n3 e3
  have g03:=g02.trans g3
  refine r_kForR (by omega) (by omega) (fun i σ H4=>∃ (ns:Ce) (r1 r2:Option V),Same H' H4∧H4 L=some (.lst (tsV ns))∧ns.length=i∧(∀ t ∈ ns,1≤t.length∧t.length≤13∧Asc t)∧σ=[some (.int c),some (.int n),some (.str (T S)),some (.str (T B)),some (.int w1),some (.int w2),some (.int (1+w3)),some (.int s),some (.ref L),r1,r2,none]) ⟨[],none,none,g03,e3,rfl,(by intro t h;cases h),rfl⟩ ?_ ?_
  ·rintro i σ H4 hi ⟨ns,r1,r2,g4,e4,ln,ht,rfl⟩
   have m0:0≤(i:Int)*s:=Int.mul_nonneg (by omega) (by omega)
   have m1:(i:Int)*s≤12*8:=Int.mul_le_mul (by omega) hs.2 (by omega) (by omega)
   have nL:H' L=none:=none_of g02 n3
   walk_at "rd"
   ·rename_i hc
    refine app_nm nL g4 e4 (by omega) fun H5 g5 e5=>⟨_,_,_,g5,e5,by rw [List.length_append,ln];rfl,mem_app ht ?_ (by walk_at "asc"),rfl⟩
    simp only [List.length_append,List.length_take,List.length_drop,List.length_cons,List.length_nil,lB']
    omega
   ·rename_i hc1 hc2 k1 hk1 k2 hk2
    refine app_nm nL g4 e4 (by omega) fun H5 g5 e5=>⟨_,_,_,g5,e5,by rw [List.length_append,ln];rfl,mem_app ht ?_ (by walk_at "asc"),rfl⟩
    simp only [List.length_append,List.length_take,List.length_drop,List.length_cons,List.length_nil,lB']
    omega
   ·rename_i hc1 hc2
    refine app_nm nL g4 e4 (by omega) fun H5 g5 e5=>⟨_,_,_,g5,e5,by rw [List.length_append,ln];rfl,mem_app ht ?_ (by walk_at "asc"),rfl⟩
    simp only [List.length_append,List.length_take,List.length_drop,List.length_cons,List.length_nil,lB']
    omega
  ·rintro σ H4 ⟨ns,r1,r2,g4,e4,ln,ht,rfl⟩
   walk_at "rd"
   rename_i v5 v50 v51 p5 H5 g5 n5 e5 p6 H6 g6 n6 e6 p7 H7 g7 n7 e7
   refine q _ _ _ (by walk_at "sm") e7 (by rw [List.length_append,List.length_drop,List.length_take];omega) fun t h=>?_
   rcases List.mem_append.mp h with h | h
   ·exact ht t (List.mem_of_mem_drop h)
   ·exact ht t (List.mem_of_mem_take h)
local macro_rules | `(tactic| walk_at "rdc")=>`(tactic| first | ((with_reducible refine' c_names ?h1 ?h2 ?_);(case h1=>omega);(case h2=>omega);intro L' H' ns' g' e' hn' ht') | fail "none")
def sp_law_choice_spec (K:W.Frag):Sp:=fun vs H Q _=>∃ (c o s:Int),vs=[.int c,.int o,.int s]∧s=0 ∧ ∀ p H' wd f x st d,Same H H'→SpAt H' p wd f x st d→Q (.ref p) H'
theorem c_choice_spec {K:W.Frag} {c o s:Int} {H:Hp} {Q:VK} {E:XK} (h:s=0) (q : ∀ p H' wd f x st d,Same H H'→SpAt H' p wd f x st d→Q (.ref p) H'):sp_law_choice_spec K ([.int c,.int o,.int s]++[]) H Q E:=⟨c,o,s,rfl,h,q⟩
theorem ok_law_choice_spec {f:Addr} {fd:FuncData} (F:Fun K "_law_choice_spec" "_law_choice_spec" s_law_choice_spec f fd) (B:Blt mg) (C_law_names:Has P w K mg base "_law_names" 2 ["_law_cell", "_law_many"] (sp_law_names K)) (C_law_pick:Has P w K mg base "_law_pick" 1 ["_law_cell", "_law_salt", "_law_many"] (sp_law_pick K)) (C_law_sign:Has P w K mg base "_law_sign" 2 ["_law_cell", "_law_salt"] (sp_law_sign K)):FnOk P w K mg base CX0 3 f fd ["_law_cell", "_law_other", "_law_small"] (sp_law_choice_spec K):=by
 refine F.ok sc_law_choice_spec (fun vs H Q E h=>?_) (fun cdv A outer s H vs Q E hr h=>?_)
 ·obtain ⟨c,o,s0,rfl,hs,q⟩:=h
  rfl
 obtain ⟨c,o,s0,rfl,hs,q⟩:=h
 refine ⟨_,pss_cons (ps_set (i:=3) sc_law_choice_spec.nd rfl (Or.inl rfl) (pe_callH C_law_names hr rfl (pa_cons (pv 0) (pa_cons (pe_op op_add (pe_int) (pe_callH C_law_pick hr rfl (pa_cons (pv 1) (pa_cons (pe_int) (pa_cons (pe_ix ix_list (pe_lst (pa_cons (pe_int) (pa_cons (pe_int) (pa_nil)))) (pv 2) (fun _ _=>rfl)) (pa_nil)))))) (pa_nil)))))
  (pss_cons (ps_set (i:=4) sc_law_choice_spec.nd rfl (Or.inl rfl) (pe_ix ix_list (pe_lst (pa_cons (pe_ix ix_str (pe_ix ix_list (pv 3) (pe_int) (fun _ _=>rfl)) (pe_un un_neg (pe_int)) (fun _ _=>rfl)) (pa_cons (pe_callH C_law_sign hr rfl (pa_cons (pv 1) (pa_cons (pe_int) (pa_nil)))) (pa_cons (pe_strT (l:=[48]) (by decide +kernel)) (pa_nil))))) (pe_callH C_law_pick hr rfl (pa_cons (pv 1) (pa_cons (pe_int) (pa_cons (pe_int) (pa_nil))))) (fun _ _=>rfl)))
  (pss_cons (ps_set (i:=5) sc_law_choice_spec.nd rfl (Or.inl rfl) (pe_ix ix_list (pe_lst (pa_cons (pe_int) (pa_cons (pe_op op_add (pe_int) (pe_callH C_law_pick hr rfl (pa_cons (pv 1) (pa_cons (pe_int) (pa_cons (pe_ix ix_list (pe_lst (pa_cons (pe_int) (pa_cons (pe_int) (pa_nil)))) (pv 2) (fun _ _=>rfl)) (pa_nil)))))) (pa_cons (pe_op op_add (pe_callBH call_lenT B.z_len rfl bo_len (pa_cons (pe_ix ix_list (pv 3) (pe_un un_neg (pe_int)) (fun _ _=>rfl)) (pa_nil))) (pe_int)) (pa_nil))))) (pe_callH C_law_pick hr rfl (pa_cons (pv 1) (pa_cons (pe_int) (pa_cons (pe_int) (pa_nil))))) (fun _ _=>rfl)))
  (pss_cons (ps_set (i:=6) sc_law_choice_spec.nd rfl (Or.inl rfl) (pe_ix ix_list (pe_lst (pa_cons (pe_str) (pa_cons (pe_str) (pa_cons (pe_str) (pa_nil))))) (pe_callH C_law_pick hr rfl (pa_cons (pv 1) (pa_cons (pe_int) (pa_cons (pe_int) (pa_nil))))) (fun _ _=>rfl)))
  (pss_one (ps_ret (pe_tup (pa_cons (pe_str) (pa_cons (pv 3) (pa_cons (pv 5) (pa_cons (pv 4) (pa_cons (pv 6) (pa_cons (pe_cmpR op_eq (pe_callH C_law_pick hr rfl (pa_cons (pv 1) (pa_cons (pe_int) (pa_cons (pe_int) (pa_nil))))) (pe_int) (nomark _)) (pa_nil))))))))))))),?_⟩
 walk_at "st"
 subst hs
 all_goals
  walk_at "rd"
  rename_i p0 H0 g0 n0 e0 v0 h00 h10 L H1 ns g1 e1 hn ht
  have l0:0 < ns.length:=by omega
  have t0:=ht (ns.getD (Int.toNat 0) []) (by rw [List.getD_eq_getElem?_getD,List.getElem?_eq_getElem (show Int.toNat 0 < ns.length from l0)];exact List.getElem_mem _)
  generalize ns.getD (Int.toNat 0) []=t at t0 ⊢
  have g01:=g0.trans g1
  clear e0
  walk_at "rd"
  rename_i c2 hc2 p2 H2 g2 n2 e2 v2 h02 h12
  refine r_ixStr (fun y=>∃ f:Nat,y=T [f]∧f < 127) e2 (by omega) (by show _ < (3:Int);omega) (by simp only [List.mem_cons,List.not_mem_nil,or_false];rintro v (rfl | rfl | rfl) <;> exact ⟨_,rfl,_,rfl,by first | assumption | exact asc_getD t0.2.2 _ | decide⟩) fun y hy=>?_
  obtain ⟨f,rfl,hf⟩:=hy
  clear e2
  have t1:=ht (ns.getD (ns.length - 1) []) (by rw [List.getD_eq_getElem?_getD,List.getElem?_eq_getElem (show ns.length - 1 < ns.length by omega)];exact List.getElem_mem _)
  walk_at "rd"
  rename_i p3 H3 g3 n3 e3 v3 h03 h13 p4 H4 g4 n4 e4 v4 h04 h14
  generalize ns.getD (ns.length - 1) []=u at t1 e4 ⊢
  clear e3
  refine r_ixInt (fun wd=>0≤wd∧wd≤40) e4 (by omega) (by show _ < (3:Int);omega) (by simp only [List.mem_cons,List.not_mem_nil,or_false];rintro v (rfl | rfl | rfl) <;> exact ⟨_,rfl,by omega,by omega⟩) fun wd hwd=>?_
  clear e4
  walk_at "rd"
  rename_i p5 H5 g5 n5 e5 v5 h05 h15
  refine r_ixStr Side e5 (by omega) (by show _ < (3:Int);omega) side_mem fun y hy=>?_
  clear e5
  walk_at "rd"
  rename_i v6 h06 h16 p6 H6 g6 e6
  exact q _ _ _ _ _ _ _ (by walk_at "sm") (.cho e6 (g6.at (g5.at (g4.at (g3.at (g2.at e1))))) ⟨by omega,by omega,fun t h=>(ht t h).2.1,hwd.1,hwd.2,hy,fun t h=>(ht t h).2.2,hf⟩)
theorem grid_exact {w:Str} {a b P k:Int} (hb:0 < b) (h:a*P=b*k):grid w a b P=k:=by
 unfold grid
 rw [h,Int.mul_emod_right,if_neg (fun z=>absurd z.1 (by decide)),Int.mul_ediv_cancel_left _ (by omega)]
theorem grid_stays {w:Str} {k S:Int} (hS:0 < S):grid w (low1 k S) (low2 k S) S=k:=by
 refine grid_exact (low2_pos hS) ?_
 have h1:=low_mul1 k S
 have h2:=low_mul2 k S
 have e1:low1 k S*S=low1 k S*(low2 k S*lowS k S):=by rw [h2]
 have e2:low2 k S*k=low2 k S*(low1 k S*lowS k S):=by rw [h1]
 rw [e1,e2];ac_rfl
theorem low_gcd1 {t b:Int} (hb:0 < b):Int.gcd (low1 t b) (low2 t b)=1:=by
 unfold low1 low2 lowS
 have e0:(0:Int)≤(Int.gcd t b:Int):=by omega
 rw [if_neg (show ¬ b < 0 by omega),Int.fdiv_eq_ediv_of_nonneg _ e0,Int.fdiv_eq_ediv_of_nonneg _ e0]
 exact Int.gcd_ediv_gcd_ediv_gcd (Int.gcd_pos_of_ne_zero_right _ (show b≠0 by omega))
theorem low_grb {k S:Int} (hS:0 < S) (h1:S < 10000000000000000000000000000000000000000000000000000000000000000000000000000000000000000000000000000000000000000000000000000000000000000000000000000000000000000000000000000000000000000000000) (h2 : -10000000000000000000000000000000000000000000000000000000000000000000000000000000000000000000000000000000000000000000000000000000000000000000000000000000000000000000000000000000000000000000000 < k) (h3:k < 10000000000000000000000000000000000000000000000000000000000000000000000000000000000000000000000000000000000000000000000000000000000000000000000000000000000000000000000000000000000000000000000):GrB (low1 k S) (low2 k S):=low_bd hS h1 h2 h3
def SpecN (H:Hp) (p:Addr) (fg pl b:Int) (sn:Str) (z:Int) (m pt:Nat) (wy:Str) (wd:Int) (f:Nat) (x:Str) (st:Bool):Prop:=H p=some (.tup [.str "number", .int fg,.int pl,.int b,.str sn,.int z,.str (T [m]),.str (T [pt]),.str wy,.int wd,.str (T [f]),.str x,.bl st])
def sp_law_power (K:W.Frag):Sp:=fun vs H Q _=>∃ b t:Int,vs=[.int b,.int t]∧2≤b∧b≤16∧0≤t∧t≤60∧Q (.int (b ^ t.toNat)) H
theorem c_power {K:W.Frag} {b t:Int} {H:Hp} {Q:VK} {E:XK} (h1:2≤b) (h2:b≤16) (h3:0≤t) (h4:t≤60) (q:Q (.int (b ^ t.toNat)) H):sp_law_power K ([.int b,.int t]++[]) H Q E:=⟨b,t,rfl,h1,h2,h3,h4,q⟩
local macro_rules | `(tactic| walk_at "rdc")=>`(tactic| ((with_reducible refine' c_power ?h1 ?h2 ?h3 ?h4 ?_);(case h1=>omega);(case h2=>omega);(case h3=>omega);(case h4=>omega)))
def sp_law_divisor (K:W.Frag):Sp:=fun vs H Q _=>∃ a b:Int,vs=[.int a,.int b]∧0 < b∧Q (.int (Int.gcd a b)) H
theorem c_divisor {K:W.Frag} {a b:Int} {H:Hp} {Q:VK} {E:XK} (h:0 < b) (q:Q (.int (Int.gcd a b)) H):sp_law_divisor K ([.int a,.int b]++[]) H Q E:=⟨a,b,rfl,h,q⟩
local macro_rules | `(tactic| walk_at "rdc")=>`(tactic| ((with_reducible refine' c_divisor ?h ?_);(case h=>omega)))
def sp_law_lowest (K:W.Frag):Sp:=fun vs H Q _=>∃ t b:Int,vs=[.int t,.int b]∧0 < b∧b < 10000000000000000000000000000000000000000000000000000000000000000000000000000000000000000000000000000000000000000000000000000000000000000000000000000000000000000000000000000000000000000000000 ∧ ∀ p H',Same H H'→H' p=some (.tup [.int (low1 t b),.int (low2 t b)])→Q (.ref p) H'
def sp_law_figures (K:W.Frag):Sp:=fun vs H Q _=>∃ n b:Int,vs=[.int n,.int b]∧0≤n∧2≤b∧b≤16∧n < 1766847064778384329583297500742918515827483896875618958121606201292619776∧Q (.str (T (figs b.toNat n.toNat))) H
theorem c_lfigures {K:W.Frag} {n b:Int} {H:Hp} {Q:VK} {E:XK} (h1:0≤n) (h2:2≤b) (h3:b≤16) (h4:n < 1766847064778384329583297500742918515827483896875618958121606201292619776) (q:Q (.str (T (figs b.toNat n.toNat))) H):sp_law_figures K ([.int n,.int b]++[]) H Q E:=⟨n,b,rfl,h1,h2,h3,h4,q⟩
local macro_rules | `(tactic| walk_at "rdc")=>`(tactic| ((with_reducible refine' c_lfigures ?h1 ?h2 ?h3 ?h4 ?_);(case h1=>omega);(case h2=>omega);(case h3=>omega);(case h4=>omega)))
theorem ok_law_power {f:Addr} {fd:FuncData} (F:Fun K "_law_power" "_law_power" s_law_power f fd) (B:Blt mg):FnOk P w K mg base CX0 1 f fd ["_law_base", "_law_times"] (sp_law_power K):=by
 refine F.ok sc_law_power (fun vs H Q E h=>?_) (fun cdv A outer s H vs Q E hr h=>?_)
 ·obtain ⟨b,t,rfl,h1,h2,h3,h4,q⟩:=h
  rfl
 obtain ⟨b,t,rfl,h1,h2,h3,h4,q⟩:=h
 refine ⟨_,pss_cons (ps_set (i:=2) sc_law_power.nd rfl (Or.inl rfl) (pe_int))
  (pss_cons (ps_for PassesOwn.never rfl (pi_range1 rfl B.z_range (pa_cons (pv 1) (pa_nil))) (pg_name (i:=3) sc_law_power.nd rfl (Or.inl rfl)) (pss_one (ps_set (i:=2) sc_law_power.nd rfl (Or.inl rfl) (pe_op op_mulA (pv 2) (pv 0)))))
  (pss_one (ps_ret (pv 2)))),?_⟩
 walk_at "st"
 walk_at "rd"
 refine r_kForR (by omega) (by omega) (fun i σ H'=>H'=H ∧ ∃ r,σ=[some (.int b),some (.int t),some (.int (b ^ i)),r]) ⟨rfl,none,by rw [Int.pow_zero];rfl⟩ ?_ ?_
 ·rintro i σ H' hi ⟨rfl,r,rfl⟩
  have z:=pw60 (n:=i) h1 h2 (by omega)
  walk_at "rd"
  exact ⟨rfl,some (.int (0+i)),by rw [Int.pow_succ];rfl⟩
 ·rintro σ H' ⟨rfl,r,rfl⟩
  walk_at "rd"
  exact q
theorem gcd_turn0 {g l:Int} (hl:0 < l):Int.gcd l (g % l)=Int.gcd g l:=by
 rw [Int.gcd_comm g l]
 have e:g % l=g+l*(-(g / l)):=by
  have:=Int.emod_add_mul_ediv g l
  rw [Int.mul_neg];omega
 rw [e,Int.gcd_add_mul_left_right]
theorem ok_law_divisor {f:Addr} {fd:FuncData} (F:Fun K "_law_divisor" "_law_divisor" s_law_divisor f fd) (B:Blt mg):FnOk P w K mg base CX0 1 f fd ["_law_one", "_law_other"] (sp_law_divisor K):=by
 refine F.ok sc_law_divisor (fun vs H Q E h=>?_) (fun cdv A outer s H vs Q E hr h=>?_)
 ·obtain ⟨a,b,rfl,h0,q⟩:=h
  rfl
 obtain ⟨a,b,rfl,h0,q⟩:=h
 refine ⟨_,pss_cons (ps_while PassesOwn.never (pt_cmpR op_ne (pv 1) (pe_int) (nomark _)) (pss_one (ps_par (i:=0) (j:=1) rfl sc_law_divisor.nd rfl rfl (by decide) rfl rfl (pa_cons (pv 1) (pa_cons (pe_op op_modP (pv 0) (pv 1)) (pa_nil))) rfl)))
  (pss_one (ps_ret (pe_callBH call_absN B.z_abs rfl bo_abs (pa_cons (pv 0) (pa_nil))))),?_⟩
 walk_at "st"
 walk_at "rd"
 refine r_while (fun m σ H'=>H'=H ∧ ∃ (g l:Int),σ=[some (.int g),some (.int l)]∧0≤l∧Int.gcd g l=Int.gcd a b∧m=l.toNat) ⟨_,rfl,a,b,rfl,by omega,rfl,rfl⟩ ?_
 rintro m σ H' ⟨rfl,g,l,rfl,hl,hgl,rfl⟩
 walk_at "rd"
 ·rename_i hc k' hk'
  subst hc
  rw [Int.gcd_zero_right] at hgl
  rw [← hgl] at q
  rw [show k'=(g.natAbs:Int) by omega];exact q
 ·rename_i hc
  have e1:=Int.emod_nonneg g (show l≠0 by omega)
  have e2:=Int.emod_lt_of_pos g (show 0 < l by omega)
  exact ⟨_,by omega,rfl,l,g % l,rfl,e1,(gcd_turn0 (by omega)).trans hgl,rfl⟩
theorem ok_law_lowest {f:Addr} {fd:FuncData} (F:Fun K "_law_lowest" "_law_lowest" s_law_lowest f fd) (B:Blt mg) (C_law_divisor:Has P w K mg base "_law_divisor" 1 ["_law_one", "_law_other"] (sp_law_divisor K)):FnOk P w K mg base CX0 2 f fd ["_law_top", "_law_bottom"] (sp_law_lowest K):=by
 refine F.ok sc_law_lowest (fun vs H Q E h=>?_) (fun cdv A outer s H vs Q E hr h=>?_)
 ·obtain ⟨t,b,rfl,h0,h1,q⟩:=h
  rfl
 obtain ⟨t,b,rfl,h0,h1,q⟩:=h
 refine ⟨_,pss_cons (ps_set (i:=2) sc_law_lowest.nd rfl (Or.inl rfl) (pe_callH C_law_divisor hr rfl (pa_cons (pv 0) (pa_cons (pv 1) (pa_nil)))))
  (pss_one (ps_ret (pe_tup (pa_cons (pe_op op_fdivB (pv 0) (pv 2)) (pa_cons (pe_op op_fdivB (pv 1) (pv 2)) (pa_nil)))))),?_⟩
 walk_at "st"
 have e0:0 < (Int.gcd t b:Int):=by have:=Int.gcd_pos_of_ne_zero_right t (show b≠0 by omega);omega
 have e1:(Int.gcd t b:Int)≤b.natAbs:=by have:=Int.gcd_le_natAbs_right (a:=t) (b:=b) (by omega);omega
 walk_at "rd"
 refine q _ _ (by assumption) ?_
 unfold low1 low2 lowS;rw [if_neg (show ¬ b < 0 by omega),Int.fdiv_eq_ediv_of_nonneg _ (Int.le_of_lt e0),Int.fdiv_eq_ediv_of_nonneg _ (Int.le_of_lt e0)];assumption
theorem c_lowest {K:W.Frag} {t b:Int} {H:Hp} {Q:VK} {E:XK} (h1:0 < b) (h2:b < 10000000000000000000000000000000000000000000000000000000000000000000000000000000000000000000000000000000000000000000000000000000000000000000000000000000000000000000000000000000000000000000000) (q : ∀ p H',Same H H'→H' p=some (.tup [.int (low1 t b),.int (low2 t b)])→Q (.ref p) H'):sp_law_lowest K ([.int t,.int b]++[]) H Q E:=⟨t,b,rfl,h1,h2,q⟩
theorem ok_law_figures {f:Addr} {fd:FuncData} (F:Fun K "_law_figures" "_law_figures" s_law_figures f fd) (B:Blt mg):FnOk P w K mg base CX0 1 f fd ["_law_number", "_law_base"] (sp_law_figures K):=by
 refine F.ok sc_law_figures (fun vs H Q E h=>?_) (fun cdv A outer s H vs Q E hr h=>?_)
 ·obtain ⟨n,b,rfl,h1,h2,h3,h4,q⟩:=h
  rfl
 obtain ⟨n,b,rfl,h1,h2,h3,h4,q⟩:=h
 refine ⟨_,pss_cons (ps_set (i:=2) sc_law_figures.nd rfl (Or.inl rfl) (pe_ix ix_str (pe_str) (pe_op op_modP (pv 0) (pv 1)) (fun _ _=>rfl)))
  (pss_cons (ps_while PassesOwn.never (pt_cmpR op_ge (pv 0) (pv 1) (nomark _)) (pss_cons (ps_set (i:=0) sc_law_figures.nd rfl (Or.inl rfl) (pe_op op_fdivB (pv 0) (pv 1)))
  (pss_one (ps_set (i:=2) sc_law_figures.nd rfl (Or.inl rfl) (pe_op op_addS (pe_ix ix_str (pe_str) (pe_op op_modP (pv 0) (pv 1)) (fun _ _=>rfl)) (pv 2))))))
  (pss_one (ps_ret (pv 2)))),?_⟩
 walk_at "st"
 obtain ⟨N,rfl⟩:=Int.eq_ofNat_of_zero_le h1
 obtain ⟨m,rfl⟩:=Int.eq_ofNat_of_zero_le (show 0≤b by omega)
 have hz:=figs_240 (b:=m) (n:=N) (by omega) (by omega)
 have em : ∀ k:Nat,(k:Int) % (m:Int)=((k % m:Nat):Int):=fun k=>(Int.natCast_emod k m).symm
 have ed : ∀ k:Nat,(k:Int) / (m:Int)=((k / m:Nat):Int):=fun k=>(Int.natCast_ediv k m).symm
 have lm : ∀ k:Nat,k % m < m:=fun k=>Nat.mod_lt k (by omega)
 simp only [Int.toNat_natCast] at q
 have l0:=lm N
 have e0:=em N
 walk_at "rd"
 rw [em N,Int.toNat_natCast]
 refine r_while (fun k σ H'=>H'=H ∧ ∃ l:List Nat,σ=[some (.int k),some (.int m),some (.str (T l))]∧figs m N=if k < m then l else figs m (k / m)++l) ⟨N,rfl,[fc (N % m)],rfl,?_⟩ ?_
 ·split
  ·rename_i z;rw [figs_lt z,Nat.mod_eq_of_lt z]
  ·rename_i z;exact figs_ge (by omega) (by omega)
 ·rintro k σ H' ⟨rfl,l,rfl,e⟩
  have lk:=lm (k / m)
  have ek:=em (k / m)
  have ek':=ed k
  have ll:l.length≤240:=by
   have z:=congrArg List.length e
   split at z
   ·omega
   ·rw [List.length_append] at z;omega
  walk_at "rd"
  ·rename_i hc
   rw [ed k,em (k / m)]
   walk_at "rd"
   refine ⟨k / m,Nat.div_lt_self (by omega) (by omega),rfl,fc (k / m % m)::l,rfl,?_⟩
   rw [e,if_neg (by omega),figs_turn (by omega) l]
   have dz:=Nat.div_eq_zero_iff_lt (x:=k / m) (show 0 < m by omega)
   by_cases z:k / m < m
   ·rw [if_pos z,if_pos (dz.mpr z)]
   ·rw [if_neg z,if_neg (fun y=>z (dz.mp y))]
  ·rename_i hc
   rw [if_pos (by omega)] at e
   rw [← e];exact q
def sp_law_body (K:W.Frag):Sp:=fun vs H Q _=>∃ (n:Int) (p:Addr) (fg pl b:Int) (sn:Str) (z:Int) (m pt:Nat) (wy:Str) (wd:Int) (f:Nat) (x:Str) (st:Bool),vs=[.int n,.ref p]∧SpecN H p fg pl b sn z m pt wy wd f x st∧NumS fg pl b sn z m pt wy wd f x∧0≤n∧LimN fg pl b n ∧ ∀ H',Same H H'→Q (.str (T (bdI n b pl pt z m))) H'
theorem c_lbody {K:W.Frag} {n:Int} {p:Addr} {fg pl b:Int} {sn:Str} {z:Int} {m pt:Nat} {wy:Str} {wd:Int} {f:Nat} {x:Str} {st:Bool} {H:Hp} {Q:VK} {E:XK} (h1:SpecN H p fg pl b sn z m pt wy wd f x st) (h2:NumS fg pl b sn z m pt wy wd f x) (h3:0≤n) (h4:LimN fg pl b n) (q : ∀ H',Same H H'→Q (.str (T (bdI n b pl pt z m))) H'):sp_law_body K ([.int n,.ref p]++[]) H Q E:=⟨n,p,fg,pl,b,sn,z,m,pt,wy,wd,f,x,st,rfl,h1,h2,h3,h4,q⟩
def nrest (pl b:Int) (sn:Str) (z:Int) (m pt:Nat) (k:Int):List Nat:=bdI k.natAbs b pl pt z m++stT sn (decide (k < 0))
def sp_law_parts (K:W.Frag):Sp:=fun vs H Q _=>∃ (k:Int) (p:Addr) (fg pl b:Int) (sn:Str) (z:Int) (m pt:Nat) (wy:Str) (wd:Int) (f:Nat) (x:Str) (st:Bool),vs=[.int k,.ref p]∧SpecN H p fg pl b sn z m pt wy wd f x st∧NumS fg pl b sn z m pt wy wd f x∧LimN fg pl b k ∧ ∀ q H',Same H H'→H' q=some (.tup [.str (T (stL sn (decide (k < 0)))),.str (T (nrest pl b sn z m pt k))])→Q (.ref q) H'
theorem c_parts {K:W.Frag} {k:Int} {p:Addr} {fg pl b:Int} {sn:Str} {z:Int} {m pt:Nat} {wy:Str} {wd:Int} {f:Nat} {x:Str} {st:Bool} {H:Hp} {Q:VK} {E:XK} (h1:SpecN H p fg pl b sn z m pt wy wd f x st) (h2:NumS fg pl b sn z m pt wy wd f x) (h4:LimN fg pl b k) (q : ∀ q H',Same H H'→H' q=some (.tup [.str (T (stL sn (decide (k < 0)))),.str (T (nrest pl b sn z m pt k))])→Q (.ref q) H'):sp_law_parts K ([.int k,.ref p]++[]) H Q E:=⟨k,p,fg,pl,b,sn,z,m,pt,wy,wd,f,x,st,rfl,h1,h2,h4,q⟩
def sp_law_great (K:W.Frag):Sp:=fun vs H Q _=>∃ c t m:Int,vs=[.int c,.int t,.int m]∧0≤t∧t < 1000∧0 < m ∧ ∀ v:Int,0≤v→v < m→Q (.int v) H
theorem c_great {K:W.Frag} {c t m:Int} {H:Hp} {Q:VK} {E:XK} (h1:0≤t) (h1':t < 1000) (h2:0 < m) (q : ∀ v:Int,0≤v→v < m→Q (.int v) H):sp_law_great K ([.int c,.int t,.int m]++[]) H Q E:=⟨c,t,m,rfl,h1,h1',h2,q⟩
local macro_rules | `(tactic| walk_at "rdc")=>`(tactic| ((with_reducible refine' c_great ?h1 ?h1' ?h2 ?_);(case h1=>omega);(case h1'=>omega);(case h2=>omega);intro v' h0' h1'))
theorem body_cast {n b:Int} {t:Nat} (h0:0≤n) (h1:0≤b):(n / b ^ t).toNat=n.toNat / b.toNat ^ t∧(n % b ^ t).toNat=n.toNat % b.toNat ^ t:=by
 obtain ⟨N,rfl⟩:=Int.eq_ofNat_of_zero_le h0
 obtain ⟨B,rfl⟩:=Int.eq_ofNat_of_zero_le h1
 have e:((B:Int) ^ t)=((B ^ t:Nat):Int):=by simp
 rw [e]
 exact ⟨by rw [← Int.natCast_ediv,Int.toNat_natCast,Int.toNat_natCast,Int.toNat_natCast],by rw [← Int.natCast_emod,Int.toNat_natCast,Int.toNat_natCast,Int.toNat_natCast]⟩
theorem lim_60 {fg pl b n:Int} (o1:1≤fg) (o2:fg≤12) (o3:0≤pl) (o4:pl≤6) (o5:2≤b) (o6:b≤16) (h0:0≤n) (h:LimN fg pl b n):n < 1766847064778384329583297500742918515827483896875618958121606201292619776:=by
 unfold LimN at h
 have a:=pw60 (b:=b) (n:=(fg+pl).toNat) o5 o6 (by omega)
 have e:((b.toNat ^ (fg+pl).toNat:Nat):Int)=b ^ (fg+pl).toNat:=by rw [Int.natCast_pow,Int.toNat_of_nonneg (by omega)]
 omega
theorem gr_one {z m:Nat} {a:List Nat} (h:0 < a.length):gr z m (a.drop (a.length - 1))=[a.getD (a.length - 1) 0]:=by
 rw [gr_turn (k:=0) h,if_neg (by omega),Nat.sub_zero,Nat.sub_zero,List.drop_length,show gr z m []=[] by unfold gr;rw [List.reverse_nil,RJ_le (by simp)];rfl];rfl
theorem ok_law_body {f:Addr} {fd:FuncData} (F:Fun K "_law_body" "_law_body" s_law_body f fd) (B:Blt mg) (C_law_power:Has P w K mg base "_law_power" 1 ["_law_base", "_law_times"] (sp_law_power K)) (C_law_figures:Has P w K mg base "_law_figures" 1 ["_law_number", "_law_base"] (sp_law_figures K)):FnOk P w K mg base CX0 2 f fd ["_law_steps_here", "_law_spec_here"] (sp_law_body K):=by
 refine F.ok sc_law_body (fun vs H Q E h=>?_) (fun cdv A outer s H vs Q E hr h=>?_)
 ·obtain ⟨n,p,fg,pl,b,sn,z,m,pt,wy,wd,f,x,st,rfl,hp,ok,h0,h1,q⟩:=h
  rfl
 obtain ⟨n,p,fg,pl,b,sn,z,m,pt,wy,wd,f,x,st,rfl,hp,ok,h0,h1,q⟩:=h
 refine ⟨_,pss_cons (ps_asg (pe_slice sl_tup (pv 1) (po_some (pe_int)) (po_some (pe_int))) (pg_tup rfl (pgs_cons (pg_name (i:=2) sc_law_body.nd rfl (Or.inl rfl)) (pgs_cons (pg_name (i:=3) sc_law_body.nd rfl (Or.inl rfl)) (pgs_nil)))))
  (pss_cons (ps_asg (pe_slice sl_tup (pv 1) (po_some (pe_int)) (po_some (pe_int))) (pg_tup rfl (pgs_cons (pg_name (i:=4) sc_law_body.nd rfl (Or.inl rfl)) (pgs_cons (pg_name (i:=5) sc_law_body.nd rfl (Or.inl rfl)) (pgs_cons (pg_name (i:=6) sc_law_body.nd rfl (Or.inl rfl)) (pgs_nil))))))
  (pss_cons (ps_set (i:=7) sc_law_body.nd rfl (Or.inl rfl) (pe_callH C_law_power hr rfl (pa_cons (pv 3) (pa_cons (pv 2) (pa_nil)))))
  (pss_cons (ps_set (i:=8) sc_law_body.nd rfl (Or.inl rfl) (pe_callH C_law_figures hr rfl (pa_cons (pe_op op_fdivB (pv 0) (pv 7)) (pa_cons (pv 3) (pa_nil)))))
  (pss_cons (ps_set (i:=9) sc_law_body.nd rfl (Or.inl rfl) (pe_ix ix_str (pv 8) (pe_un un_neg (pe_int)) (fun _ _=>rfl)))
  (pss_cons (ps_for PassesOwn.never rfl (pi_range2 rfl B.z_range (pa_cons (pe_int) (pa_cons (pe_callBH call_lenT B.z_len rfl bo_len (pa_cons (pv 8) (pa_nil))) (pa_nil)))) (pg_name (i:=10) sc_law_body.nd rfl (Or.inl rfl)) (pss_cons (ps_if (PW.pt (pw_and (pt_cmpR op_gt (pv 4) (pe_int) (nomark _)) (pw_and1 (pt_cmpR op_eq (pe_op op_modP (pv 10) (pv 4)) (pe_int) (nomark _))))) (pss_one (ps_set (i:=9) sc_law_body.nd rfl (Or.inl rfl) (pe_op op_addS (pv 5) (pv 9)))) (pss_nil))
  (pss_one (ps_set (i:=9) sc_law_body.nd rfl (Or.inl rfl) (pe_op op_addS (pe_ix ix_str (pv 8) (pe_op op_sub (pe_op op_sub (pe_callBH call_lenT B.z_len rfl bo_len (pa_cons (pv 8) (pa_nil))) (pe_int)) (pv 10)) (fun _ _=>rfl)) (pv 9))))))
  (pss_cons (ps_if (pt_cmpR op_eq (pv 2) (pe_int) (nomark _)) (pss_one (ps_ret (pv 9))) (pss_nil))
  (pss_cons (ps_set (i:=11) sc_law_body.nd rfl (Or.inl rfl) (pe_callH C_law_figures hr rfl (pa_cons (pe_op op_modP (pv 0) (pv 7)) (pa_cons (pv 3) (pa_nil)))))
  (pss_one (ps_ret (pe_op op_addS (pe_op op_addS (pe_op op_addS (pv 9) (pv 6)) (pe_op op_mulT (pe_strT (l:=[48]) (by decide +kernel)) (pe_op op_sub (pv 2) (pe_callBH call_lenT B.z_len rfl bo_len (pa_cons (pv 11) (pa_nil)))))) (pv 11))))))))))),?_⟩
 walk_at "st"
 unfold SpecN at hp
 have o1:=ok.fg1;have o2:=ok.fg2;have o3:=ok.pl1;have o4:=ok.pl2;have o5:=ok.b1;have o6:=ok.b2;have o7:=ok.z1;have o8:=ok.z2
 have pw:=pw6 (b:=b) (t:=pl) o5 o6 o4
 have lim:=lim_60 o1 o2 o3 o4 o5 o6 h0 h1
 have d0:0≤n / b ^ pl.toNat:=Int.ediv_nonneg h0 (by omega)
 have d1:n / b ^ pl.toNat≤n:=Int.ediv_le_self _ h0
 have m0:=Int.emod_nonneg n (show b ^ pl.toNat≠0 by omega)
 have m1:=Int.emod_lt_of_pos n (show 0 < b ^ pl.toNat by omega)
 obtain ⟨c1,c2⟩:=body_cast (t:=pl.toNat) h0 (show 0≤b by omega)
 have bd:=bdy_div (b:=b.toNat) (p:=pl.toNat) (pt:=pt) (z:=z.toNat) (m:=m) (n:=n.toNat) (by omega)
 rw [← c1,← c2] at bd
 have a1:=figs_pos (b:=b.toNat) (n:=(n / b ^ pl.toNat).toNat) (by omega)
 have a2:=figs_240 (b:=b.toNat) (n:=(n / b ^ pl.toNat).toNat) (by omega) (by omega)
 have r1:=figs_pos (b:=b.toNat) (n:=(n % b ^ pl.toNat).toNat) (by omega)
 have r2:=figs_240 (b:=b.toNat) (n:=(n % b ^ pl.toNat).toNat) (by omega) (by omega)
 walk_at "rd"
 refine r_slT (n:=13) hp rfl (by decide) fun p1 H1 g1 e1=>?_
 have e1':H1 p1=some (.tup [.int pl,.int b]):=e1
 clear e1
 walk_at "rd"
 refine r_slT (n:=13) (g1.at hp) rfl (by decide) fun p2 H2 g2 e2=>?_
 have e2':H2 p2=some (.tup [.int z,.str (T [m]),.str (T [pt])]):=e2
 clear e2
 walk_at "rd"
 generalize figs b.toNat (n / b ^ pl.toNat).toNat=a at *
 have gl:=gr_len (z:=z.toNat) (m:=m) (a:=a)
 refine r_kForR2 (by omega) (fun i σ H'=>H'=H2 ∧ ∃ r:Option V,σ=[some (.int n),some (.ref p),some (.int pl),some (.int b),some (.int z),some (.str (T [m])),some (.str (T [pt])),some (.int (b ^ pl.toNat)),some (.str (T a)),some (.str (T (gr z.toNat m (a.drop (a.length - (i+1)))))),r,none]) ⟨rfl,none,by rw [gr_one a1];rfl⟩ ?_ ?_
 ·rintro i σ H' hi ⟨rfl,r,rfl⟩
  have hl:=gr_len (z:=z.toNat) (m:=m) (a:=a.drop (a.length - (i+1)))
  rw [List.length_drop] at hl
  have tn:=gr_turn (z:=z.toNat) (m:=m) (a:=a) (k:=i+1) (by omega)
  obtain ⟨Z,rfl⟩:=Int.eq_ofNat_of_zero_le o7
  have em:(1+(i:Int)) % (Z:Int)=(((i+1) % Z:Nat):Int):=by rw [Int.natCast_emod,Int.natCast_add,Int.add_comm];rfl
  rw [Int.toNat_natCast] at *
  have ei:((a.length:Int) - 1 - (1+(i:Int))).toNat=a.length - 1 - (i+1):=by omega
  walk_at "rd"
  ·refine ⟨rfl,some (.int (1+i)),?_⟩
   rw [tn,if_pos ⟨by omega,by omega,by omega⟩,ei];rfl
  ·refine ⟨rfl,some (.int (1+i)),?_⟩
   rw [tn,if_neg (by omega),ei];rfl
  ·refine ⟨rfl,some (.int (1+i)),?_⟩
   rw [tn,if_neg (by omega),ei];rfl
 ·rintro σ H' ⟨rfl,r,rfl⟩
  rw [show a.length - (((a.length:Int) - 1).toNat+1)=0 by omega,List.drop_zero]
  have q':=q _ (g1.trans g2)
  unfold bdI at q'
  rw [bd] at q'
  generalize gr z.toNat m a=ga at *
  walk_at "rd"
  ·rw [if_pos (by omega)] at q';exact q'
  ·rw [if_neg (by omega)] at q'
   unfold pz at q'
   generalize figs b.toNat (n % b ^ pl.toNat).toNat=rr at *
   rw [show pl.toNat - rr.length=(pl - rr.length).toNat by omega,← List.append_assoc] at q'
   exact q'
theorem parts_nil {a:V} {B:List Nat} {sn:Str} {bl:Bool} (h:stT sn bl=[]):some (HO.tup [a,.str (T B)])=some (.tup [a,.str (T (B++stT sn bl))]):=by rw [h,List.append_nil]
theorem ok_law_parts {f:Addr} {fd:FuncData} (F:Fun K "_law_parts" "_law_parts" s_law_parts f fd) (B:Blt mg) (C_law_body:Has P w K mg base "_law_body" 2 ["_law_steps_here", "_law_spec_here"] (sp_law_body K)):FnOk P w K mg base CX0 3 f fd ["_law_steps_here", "_law_spec_here"] (sp_law_parts K):=by
 refine F.ok sc_law_parts (fun vs H Q E h=>?_) (fun cdv A outer s H vs Q E hr h=>?_)
 ·obtain ⟨k,p,fg,pl,b,sn,z,m,pt,wy,wd,f,x,st,rfl,hp,ok,h1,q⟩:=h
  rfl
 obtain ⟨k,p,fg,pl,b,sn,z,m,pt,wy,wd,f,x,st,rfl,hp,ok,h1,q⟩:=h
 refine ⟨_,pss_cons (ps_set (i:=2) sc_law_parts.nd rfl (Or.inl rfl) (pe_callH C_law_body hr rfl (pa_cons (pe_callBH call_absN B.z_abs rfl bo_abs (pa_cons (pv 0) (pa_nil))) (pa_cons (pv 1) (pa_nil)))))
  (pss_cons (ps_if (PW.pt (pw_and (pt_cmpR op_eq (pe_ix ix_tup (pv 1) (pe_int) (fun _ _=>rfl)) (pe_str) (nomark _)) (pw_and1 (pt_cmpR op_lt (pv 0) (pe_int) (nomark _))))) (pss_one (ps_ret (pe_tup (pa_cons (pe_strT (l:=[40]) (by decide +kernel)) (pa_cons (pe_op op_addS (pv 2) (pe_strT (l:=[41]) (by decide +kernel))) (pa_nil)))))) (pss_nil))
  (pss_cons (ps_if (PW.pt (pw_and (pt_cmpR op_eq (pe_ix ix_tup (pv 1) (pe_int) (fun _ _=>rfl)) (pe_str) (nomark _)) (pw_and1 (pt_cmpR op_lt (pv 0) (pe_int) (nomark _))))) (pss_one (ps_ret (pe_tup (pa_cons (pe_strT (l:=[]) (by decide +kernel)) (pa_cons (pe_op op_addS (pv 2) (pe_strT (l:=[45]) (by decide +kernel))) (pa_nil)))))) (pss_nil))
  (pss_cons (ps_if (pt_cmpR op_lt (pv 0) (pe_int) (nomark _)) (pss_one (ps_ret (pe_tup (pa_cons (pe_strT (l:=[45]) (by decide +kernel)) (pa_cons (pv 2) (pa_nil)))))) (pss_nil))
  (pss_cons (ps_if (pt_cmpR op_eq (pe_ix ix_tup (pv 1) (pe_int) (fun _ _=>rfl)) (pe_str) (nomark _)) (pss_one (ps_ret (pe_tup (pa_cons (pe_strT (l:=[43]) (by decide +kernel)) (pa_cons (pv 2) (pa_nil)))))) (pss_nil))
  (pss_cons (ps_if (pt_cmpR op_eq (pe_ix ix_tup (pv 1) (pe_int) (fun _ _=>rfl)) (pe_str) (nomark _)) (pss_one (ps_ret (pe_tup (pa_cons (pe_strT (l:=[32]) (by decide +kernel)) (pa_cons (pv 2) (pa_nil)))))) (pss_nil))
  (pss_one (ps_ret (pe_tup (pa_cons (pe_strT (l:=[]) (by decide +kernel)) (pa_cons (pv 2) (pa_nil))))))))))),?_⟩
 walk_at "st"
 have hp0:=hp
 unfold SpecN at hp
 walk_at "rd"
 rename_i k' hk'
 obtain rfl:k'=(k.natAbs:Int):=by omega
 obtain ⟨nb,n2,n3,n4⟩:=ncore_ok ok h1
 have n5:(bdI k.natAbs b pl pt z m).length≤400:=by
  unfold ncore sg at n4
  rw [List.length_append,List.length_append] at n4;omega
 refine c_lbody hp0 ok (by omega) (by unfold LimN;rw [Int.natAbs_natCast];exact h1) fun H1 g1=>?_
 unfold nrest at q
 have hp1:=g1.at hp
 generalize bdI k.natAbs b pl pt z m=B at *
 clear hp
 rcases ok.sn with rfl | rfl | rfl | rfl | rfl
 all_goals walk_at "rd"
 all_goals rename_i hc p2 H2 g2 e2
 all_goals first | rw [decide_eq_true hc] at q | rw [decide_eq_false hc] at q
 all_goals refine q _ _ (g1.trans g2) (e2.trans ?_)
 all_goals first | rfl | exact parts_nil rfl
theorem ok_law_great {f:Addr} {fd:FuncData} (F:Fun K "_law_great" "_law_great" s_law_great f fd) (B:Blt mg):FnOk P w K mg base CX0 1 f fd ["_law_cell", "_law_at", "_law_limit"] (sp_law_great K):=by
 refine F.ok sc_law_great (fun vs H Q E h=>?_) (fun cdv A outer s H vs Q E hr h=>?_)
 ·obtain ⟨c,t,m,rfl,ht,ht',hm,q⟩:=h
  rfl
 obtain ⟨c,t,m,rfl,ht,ht',hm,q⟩:=h
 refine ⟨_,pss_cons (ps_if (PW.pt (pw_and (pt_cmpR op_gt (pv 0) (pe_powK (k:=1000000000000000000) (by unfold CPow;decide) (by decide +kernel)) (nomark _)) (pw_and1 (pt_cmpR op_gt (pe_op op_shrP (pv 0) (pe_op op_add (pe_int) (pe_op op_mulA (pe_int) (pv 1)))) (pe_int) (nomark _))))) (pss_one (ps_ret (pe_op op_modP (pe_op op_shrP (pv 0) (pe_op op_add (pe_int) (pe_op op_mulA (pe_int) (pv 1)))) (pv 2)))) (pss_nil))
  (pss_cons (ps_set (i:=3) sc_law_great.nd rfl (Or.inl rfl) (pe_op op_add (pe_op op_add (pe_op op_modP (pv 0) (pe_powK (k:=10000000000000000000000000000000000000000) (by unfold CPow;decide) (by decide +kernel))) (pe_op op_mulA (pe_int) (pv 1))) (pe_int)))
  (pss_one (ps_ret (pe_op op_modP (pe_op op_mulA (pv 3) (pe_int)) (pv 2))))),?_⟩
 walk_at "st"
 walk_at "rd"
 all_goals exact q _ (Int.emod_nonneg _ (by omega)) (Int.emod_lt_of_pos _ hm)
def sp_law_filled (K:W.Frag):Sp:=fun vs H Q _=>∃ (ld rs:List Nat) (p:Addr) (wd:Int) (f:Nat) (x:Str) (st:Bool) (d:Fd),vs=[.str (T ld),.str (T rs),.ref p]∧SpAt H p wd f x st d∧ld.length≤2∧rs.length≤200 ∧ ∀ H',Same H H'→Q (.str (T (nfil ld (ld++rs) wd f x))) H'
theorem c_lfilled {K:W.Frag} {ld rs:List Nat} {p:Addr} {wd:Int} {f:Nat} {x:Str} {st:Bool} {d:Fd} {H:Hp} {Q:VK} {E:XK} (h1:SpAt H p wd f x st d) (h3:ld.length≤2) (h4:rs.length≤200) (q : ∀ H',Same H H'→Q (.str (T (nfil ld (ld++rs) wd f x))) H'):sp_law_filled K ([.str (T ld),.str (T rs),.ref p]++[]) H Q E:=⟨ld,rs,p,wd,f,x,st,d,rfl,h1,h3,h4,q⟩
theorem SpAt.bd {H:Hp} {p:Addr} {wd:Int} {f:Nat} {x:Str} {st:Bool} {d:Fd} (h:SpAt H p wd f x st d):SideI x∧0≤wd∧wd≤40∧f < 127:=by
 cases h with
 | num e ok=>exact ⟨ok.x,ok.wd1,ok.wd2,ok.f⟩
 | word e ok=>exact ⟨.inl ok.x,ok.wd1,ok.wd2,ok.f⟩
 | cho e eL ok=>exact ⟨.inl ok.x,ok.wd1,ok.wd2,ok.f⟩
theorem sp_m4 {K:W.Frag} {H:Hp} {p:Addr} {wd:Int} {f:Nat} {x:Str} {st:Bool} {d:Fd} {Q:VK} (S:SpAt H p wd f x st d) (q:Q (.int wd) H):rIxT K (.ref p) (.int (-4)) H Q:=by
 cases S with
 | num e=>exact r_ixT e rfl q
 | word e=>exact r_ixT e rfl q
 | cho e=>exact r_ixT e rfl q
theorem sp_m3 {K:W.Frag} {H:Hp} {p:Addr} {wd:Int} {f:Nat} {x:Str} {st:Bool} {d:Fd} {Q:VK} (S:SpAt H p wd f x st d) (q:Q (.str (T [f])) H):rIxT K (.ref p) (.int (-3)) H Q:=by
 cases S with
 | num e=>exact r_ixT e rfl q
 | word e=>exact r_ixT e rfl q
 | cho e=>exact r_ixT e rfl q
theorem sp_m2 {K:W.Frag} {H:Hp} {p:Addr} {wd:Int} {f:Nat} {x:Str} {st:Bool} {d:Fd} {Q:VK} (S:SpAt H p wd f x st d) (q:Q (.str x) H):rIxT K (.ref p) (.int (-2)) H Q:=by
 cases S with
 | num e=>exact r_ixT e rfl q
 | word e=>exact r_ixT e rfl q
 | cho e=>exact r_ixT e rfl q
theorem sp_m1 {K:W.Frag} {H:Hp} {p:Addr} {wd:Int} {f:Nat} {x:Str} {st:Bool} {d:Fd} {Q:VK} (S:SpAt H p wd f x st d) (q:Q (.bl st) H):rIxT K (.ref p) (.int (-1)) H Q:=by
 cases S with
 | num e=>exact r_ixT e rfl q
 | word e=>exact r_ixT e rfl q
 | cho e=>exact r_ixT e rfl q
theorem ok_law_filled {f:Addr} {fd:FuncData} (F:Fun K "_law_filled" "_law_filled" s_law_filled f fd) (B:Blt mg):FnOk P w K mg base CX0 1 f fd ["_law_lead", "_law_rest", "_law_spec_here"] (sp_law_filled K):=by
 refine F.ok sc_law_filled (fun vs H Q E h=>?_) (fun cdv A outer s H vs Q E hr h=>?_)
 ·obtain ⟨ld,rs,p,wd,f,x,st,d,rfl,D0,h1,h2,q⟩:=h
  rfl
 obtain ⟨ld,rs,p,wd,f,x,st,d,rfl,D0,h1,h2,q⟩:=h
 refine ⟨_,pss_cons (ps_par3 (i:=3) (j:=4) (k:=5) rfl sc_law_filled.nd rfl rfl rfl rfl rfl rfl (pa_cons (pe_ix ix_tup (pv 2) (pe_un un_neg (pe_int)) (fun _ _=>rfl)) (pa_cons (pe_ix ix_tup (pv 2) (pe_un un_neg (pe_int)) (fun _ _=>rfl)) (pa_cons (pe_ix ix_tup (pv 2) (pe_un un_neg (pe_int)) (fun _ _=>rfl)) (pa_nil)))) rfl)
  (pss_cons (ps_set (i:=6) sc_law_filled.nd rfl (Or.inl rfl) (pe_callBH (call_max2N rfl) B.z_max rfl bo_max (pa_cons (pe_int) (pa_cons (pe_op op_sub (pe_op op_sub (pv 3) (pe_callBH call_lenT B.z_len rfl bo_len (pa_cons (pv 0) (pa_nil)))) (pe_callBH call_lenT B.z_len rfl bo_len (pa_cons (pv 1) (pa_nil)))) (pa_nil)))))
  (pss_cons (ps_if (pt_cmpR op_eq (pv 5) (pe_str) (nomark _)) (pss_one (ps_ret (pe_op op_addS (pe_op op_addS (pv 0) (pe_op op_mulT (pv 4) (pv 6))) (pv 1)))) (pss_nil))
  (pss_cons (ps_set (i:=7) sc_law_filled.nd rfl (Or.inl rfl) (pe_ix ix_list (pe_lst (pa_cons (pe_int) (pa_cons (pv 6) (pa_cons (pe_op op_fdivB (pv 6) (pe_int)) (pa_nil))))) (pe_bm PySem.F.plainAttrs_list PySem.F.slot_list_index PySem.F.type_list_index mt_indexT (pe_lst (pa_cons (pe_str) (pa_cons (pe_str) (pa_cons (pe_str) (pa_nil))))) (pa_cons (pv 5) (pa_nil))) (fun _ _=>rfl)))
  (pss_one (ps_ret (pe_op op_addS (pe_op op_addS (pe_op op_addS (pe_op op_mulT (pv 4) (pv 7)) (pv 0)) (pv 1)) (pe_op op_mulT (pv 4) (pe_op op_sub (pv 6) (pv 7))))))))),?_⟩
 walk_at "st"
 obtain ⟨sx0,w0,w1,_⟩:=D0.bd
 have lt:((ld++rs).length:Int)=ld.length+rs.length:=by rw [List.length_append];omega
 have bl:=lk_bd (ld++rs).length wd (by omega) w1
 have bi:=lk_bd rs.length (wd - ld.length) (by omega) (by omega)
 unfold nfil at q
 walk_at "rd"
 refine sp_m4 D0 ?_
 walk_at "rd"
 refine sp_m3 D0 ?_
 walk_at "rd"
 refine sp_m2 D0 ?_
 walk_at "rd"
 ·rename_i k' hk' hc
  rw [if_pos hc,List.drop_left] at q
  have e1:k'=lk rs.length (wd - ld.length):=by omega
  have q':=q _ (Same.refl _)
  unfold pad at q'
  rw [show pB "right" rs.length (wd - ld.length)=0 by unfold pB;rw [pAr];omega,pAr] at q'
  subst e1
  rw [show Int.toNat 0=0 from rfl,List.replicate_zero,List.append_nil,← List.append_assoc] at q'
  exact q'
 ·rename_i k0 hk0 hc q2 H2 g2 n2 e2 q3 H3 g3 n3 e3
  have sx:Side x:=sx0.elim id fun z=>absurd z hc
  have pb:=pads_bd (n:=(ld++rs).length) sx (by omega) w1
  have hk:k0=lk (ld++rs).length wd:=by omega
  clear hk0
  subst hk
  have fin : ∃ j:Nat,(["left", "right", "middle"]:List Str)[j]? = some x∧(∀ m,m < j→(["left", "right", "middle"]:List Str)[m]? ≠ some x)∧j < 1000∧atI [V.int 0,V.int (lk (ld++rs).length wd),V.int (lk (ld++rs).length wd / 2)] j=some (.int (pA x (ld++rs).length wd)):=by
   rcases sx with rfl | rfl | rfl
   ·exact ⟨0,rfl,fun m hm=>absurd hm (Nat.not_lt_zero m),by decide,by rw [pAl];rfl⟩
   ·exact ⟨1,rfl,fun m hm=>by rw [show m=0 by omega];decide +kernel,by decide,by rw [pAr];rfl⟩
   ·exact ⟨2,rfl,fun m hm=>by rcases (show m=0∨m=1 by omega) with rfl | rfl <;> decide +kernel,by decide,by rw [pAm];rfl⟩
  obtain ⟨j,j1,j2,j3,j4⟩:=fin
  obtain ⟨b1,b2,b3,_⟩:=pb
  have e4:pB x (ld++rs).length wd=lk (ld++rs).length wd - pA x (ld++rs).length wd:=rfl
  refine r_indexT (zs:=["left", "right", "middle"]) j e3 j1 j2 j3 ?_
  refine r_ixL (SqL.of (g3.at e2)) j4 ?_
  have q':=q _ (g2.trans g3)
  rw [if_neg hc] at q'
  unfold pad at q'
  rw [e4,← List.append_assoc] at q'
  clear q j4 e2 bi
  generalize pA x ((ld++rs).length:Int) wd=A at *
  generalize lk ((ld++rs).length:Int) wd=L at *
  walk_at "rd"
  exact q'
def sp_law_steps (K:W.Frag):Sp:=fun vs H Q _=>∃ c m:Int,vs=[.int c,.int m]∧1 < m∧m < 10000000000000000000000 ∧ ∀ (v:Int) (H':Hp),Same H H' → -m < v→v < m→Q (.int v) H'
theorem c_steps {K:W.Frag} {c m:Int} {H:Hp} {Q:VK} {E:XK} (h1:1 < m) (h2:m < 10000000000000000000000) (q : ∀ (v:Int) (H':Hp),Same H H' → -m < v→v < m→Q (.int v) H'):sp_law_steps K ([.int c,.int m]++[]) H Q E:=⟨c,m,rfl,h1,h2,q⟩
theorem ok_law_steps {f:Addr} {fd:FuncData} (F:Fun K "_law_steps" "_law_steps" s_law_steps f fd) (B:Blt mg) (C_law_pick:Has P w K mg base "_law_pick" 1 ["_law_cell", "_law_salt", "_law_many"] (sp_law_pick K)) (C_law_great:Has P w K mg base "_law_great" 1 ["_law_cell", "_law_at", "_law_limit"] (sp_law_great K)):FnOk P w K mg base CX0 2 f fd ["_law_cell", "_law_limit"] (sp_law_steps K):=by
 refine F.ok sc_law_steps (fun vs H Q E h=>?_) (fun cdv A outer s H vs Q E hr h=>?_)
 ·obtain ⟨c,m,rfl,h1,h2,q⟩:=h
  rfl
 obtain ⟨c,m,rfl,h1,h2,q⟩:=h
 refine ⟨_,pss_cons (ps_set (i:=2) sc_law_steps.nd rfl (Or.inl rfl) (pe_callH C_law_pick hr rfl (pa_cons (pv 0) (pa_cons (pe_int) (pa_cons (pe_int) (pa_nil))))))
  (pss_cons (ps_set (i:=3) sc_law_steps.nd rfl (Or.inl rfl) (pe_callH C_law_great hr rfl (pa_cons (pv 0) (pa_cons (pe_int) (pa_cons (pv 1) (pa_nil))))))
  (pss_cons (ps_if (pt_cmpR op_eq (pv 2) (pe_int) (nomark _)) (pss_one (ps_set (i:=3) sc_law_steps.nd rfl (Or.inl rfl) (pe_ix ix_list (pe_lst (pa_cons (pe_int) (pa_cons (pe_int) (pa_cons (pe_op op_sub (pv 1) (pe_int)) (pa_cons (pe_op op_fdivB (pv 1) (pe_int)) (pa_nil)))))) (pe_callH C_law_pick hr rfl (pa_cons (pv 0) (pa_cons (pe_int) (pa_cons (pe_int) (pa_nil))))) (fun _ _=>rfl)))) (pss_nil))
  (pss_cons (ps_if (pt_cmpR op_eq (pv 2) (pe_int) (nomark _)) (pss_one (ps_set (i:=3) sc_law_steps.nd rfl (Or.inl rfl) (pe_op op_modP (pe_callH C_law_pick hr rfl (pa_cons (pv 0) (pa_cons (pe_int) (pa_cons (pe_int) (pa_nil))))) (pv 1)))) (pss_nil))
  (pss_cons (ps_if (pt_cmpR op_eq (pv 2) (pe_int) (nomark _)) (pss_one (ps_set (i:=3) sc_law_steps.nd rfl (Or.inl rfl) (pe_op op_modP (pe_op op_modP (pv 3) (pe_int)) (pv 1)))) (pss_nil))
  (pss_one (ps_ret (pe_op op_mulA (pv 3) (pe_ix ix_list (pe_lst (pa_cons (pe_int) (pa_cons (pe_un un_neg (pe_int)) (pa_nil)))) (pe_callH C_law_pick hr rfl (pa_cons (pv 0) (pa_cons (pe_int) (pa_cons (pe_int) (pa_nil))))) (fun _ _=>rfl))))))))),?_⟩
 walk_at "st"
 have em : ∀ a:Int,0≤a % m∧a % m < m:=fun a=>⟨Int.emod_nonneg a (by omega),Int.emod_lt_of_pos a (by omega)⟩
 walk_at "rd"
 ·rename_i v2 a0 a1 v1 b0 b1 hc p1 H1 g1 n1 e1 v0 c0 c1
  refine r_ixInt (fun k=>0≤k∧k < m) e1 (by omega) (by show _ < (4:Int);omega) (by simp only [List.mem_cons,List.not_mem_nil,or_false];rintro v (rfl | rfl | rfl | rfl) <;> exact ⟨_,rfl,by omega,by omega⟩) fun k hk=>?_
  clear e1
  walk_at "rd"
  all_goals exact q _ _ (by walk_at "sm") (by omega) (by omega)
 ·rename_i v3 a0 a1 v2 b0 b1 hc1 hc v1 c0 c1 p1 H1 g1 n1 e1 v0 d0 d1 hi
  have:=em v1
  exact q _ _ g1 (by omega) (by omega)
 ·rename_i v3 a0 a1 v2 b0 b1 hc1 hc v1 c0 c1 p1 H1 g1 n1 e1 v0 d0 d1 hi
  have:=em v1
  exact q _ _ g1 (by omega) (by omega)
 ·rename_i v2 a0 a1 v1 b0 b1 hc2 hc1 hc p1 H1 g1 n1 e1 v0 d0 d1 hi
  have:=em (v1 % 100000)
  exact q _ _ g1 (by omega) (by omega)
 ·rename_i v2 a0 a1 v1 b0 b1 hc2 hc1 hc p1 H1 g1 n1 e1 v0 d0 d1 hi
  have:=em (v1 % 100000)
  exact q _ _ g1 (by omega) (by omega)
 ·exact q _ _ (by assumption) (by omega) (by omega)
 ·exact q _ _ (by assumption) (by omega) (by omega)
def sp_law_word (K:W.Frag):Sp:=fun vs H Q _=>∃ (c:Int) (sg:List Nat) (z:Int),vs=[.int c,.str (T sg),.int z]∧0 < sg.length∧sg.length≤200∧0≤z∧z≤100 ∧ ∀ (l:List Nat) (H':Hp),Same H H'→(l.length:Int)=z→(∀ c ∈ l,c ∈ sg)→Q (.str (T l)) H'
theorem c_word {K:W.Frag} {c z:Int} {sg:List Nat} {H:Hp} {Q:VK} {E:XK} (h1:0 < sg.length) (h2:sg.length≤200) (h3:0≤z) (h4:z≤100) (q : ∀ (l:List Nat) (H':Hp),Same H H'→(l.length:Int)=z→(∀ c ∈ l,c ∈ sg)→Q (.str (T l)) H'):sp_law_word K ([.int c,.str (T sg),.int z]++[]) H Q E:=⟨c,sg,z,rfl,h1,h2,h3,h4,q⟩
theorem ok_law_word {f:Addr} {fd:FuncData} (F:Fun K "_law_word" "_law_word" s_law_word f fd) (B:Blt mg) (C_law_pick:Has P w K mg base "_law_pick" 1 ["_law_cell", "_law_salt", "_law_many"] (sp_law_pick K)):FnOk P w K mg base CX0 2 f fd ["_law_cell", "_law_signs_here", "_law_size"] (sp_law_word K):=by
 refine F.ok sc_law_word (fun vs H Q E h=>?_) (fun cdv A outer s H vs Q E hr h=>?_)
 ·obtain ⟨c,sg,z,rfl,h1,h2,h3,h4,q⟩:=h
  rfl
 obtain ⟨c,sg,z,rfl,h1,h2,h3,h4,q⟩:=h
 refine ⟨_,pss_one (ps_ret (pe_bm PySem.F.plainAttrs_str PySem.F.slot_str_join PySem.F.type_str_join mt_joinT (pe_strT (l:=[]) (by decide +kernel)) (pa_cons (pe_comp (cl:=[("_law_signs_here", s.heap.objs.size+1+1),("_law_cell", s.heap.objs.size+1+0)]) (fr:=["_law_cell", "_law_signs_here"]) (is:=[0,1]) rfl rfl ⟨rfl,⟨rfl,trivial⟩⟩ rfl ⟨⟨rfl,rfl,Or.inl rfl⟩,⟨⟨rfl,rfl,Or.inl rfl⟩,trivial⟩⟩ (by decide) (by decide +kernel) rfl (by decide +kernel) rfl (pi_range1 rfl B.z_range (pa_cons (pv 2) (pa_nil))) (fun _ _ _ _=>pifs_nil) (fun _ _ _ _=>pe_ix ix_str (pv 2) (pe_callH C_law_pick hr rfl (pa_cons (pv 1) (pa_cons (pe_op op_add (pe_int) (pv 0)) (pa_cons (pe_callBH call_lenT B.z_len rfl bo_len (pa_cons (pv 2) (pa_nil))) (pa_nil))))) (fun _ _=>rfl))) (pa_nil)))),?_⟩
 walk_at "st"
 walk_at "rd"
 refine r_kCompRN (by omega) (by omega) (Nat.le_of_lt (small1000 (by omega))) (fun i ys H'=>H'=H ∧ ∃ cs:List Nat,cs.length=i∧(∀ c ∈ cs,c ∈ sg)∧ys=tsV (cs.map fun c=>[c])) ⟨rfl,[],rfl,(by intro c h;cases h),rfl⟩ (fun i ys H' _ zz=>by obtain ⟨_,cs,h,_,e⟩:=zz;rw [e,tsV_len,List.length_map];omega) ?_ ?_
 ·rintro i ys H' hi ⟨rfl,cs,l1,l2,rfl⟩
  walk_at "rd"
  rename_i v' h0' h1'
  refine nxC hi ⟨rfl,cs++[sg.getD v'.toNat 0],by rw [List.length_append,l1];rfl,fun c hc=>?_,?_⟩
  ·rcases List.mem_append.mp hc with hc | hc
   ·exact l2 c hc
   ·rw [List.mem_singleton.mp hc,List.getD_eq_getElem?_getD,List.getElem?_eq_getElem (by omega)];exact List.getElem_mem _
  ·rw [List.map_append,← tsV_app];rfl
 ·rintro ys H' ⟨rfl,cs,l1,l2,rfl⟩ p H2 g2 n2 e2
  walk_at "rd"
  refine r_joinT e2 (by rw [fl1,List.length_map];show cs.length+cs.length*0≤_;omega) ?_
  rw [show Lt (T [])=[] from rfl,jn_nil,fl1]
  exact q _ _ g2 (by omega) l2
def sp_law_spec (K:W.Frag):Sp:=fun vs H Q _=>∃ (a:Addr) (ns:List Int),vs=[.ref a,.int 0]∧SqL K H a (ns.map V.int)∧ns.length≤63 ∧ ∀ p H' wd f x st d,Same H H'→SpAt H' p wd f x st d→Q (.ref p) H'
theorem c_spec {K:W.Frag} {a:Addr} {ns:List Int} {H:Hp} {Q:VK} {E:XK} (h1:SqL K H a (ns.map V.int)) (h2:ns.length≤63) (q : ∀ p H' wd f x st d,Same H H'→SpAt H' p wd f x st d→Q (.ref p) H'):sp_law_spec K ([.ref a,.int 0]++[]) H Q E:=⟨a,ns,rfl,h1,h2,q⟩
theorem ok_law_spec {f:Addr} {fd:FuncData} (F:Fun K "_law_spec" "_law_spec" s_law_spec f fd) (B:Blt mg) (C_law_pick:Has P w K mg base "_law_pick" 1 ["_law_cell", "_law_salt", "_law_many"] (sp_law_pick K)) (C_law_choice_spec:Has P w K mg base "_law_choice_spec" 3 ["_law_cell", "_law_other", "_law_small"] (sp_law_choice_spec K)) (C_law_cell_at:Has P w K mg base "_law_cell_at" 1 ["_law_script", "_law_k"] (sp_law_cell_at K)) (C_law_number_spec:Has P w K mg base "_law_number_spec" 3 ["_law_cell", "_law_other", "_law_small"] (sp_law_number_spec K)) (C_law_word_spec:Has P w K mg base "_law_word_spec" 3 ["_law_cell", "_law_other", "_law_small"] (sp_law_word_spec K)):FnOk P w K mg base CX0 4 f fd ["_law_script", "_law_small"] (sp_law_spec K):=by
 refine F.ok sc_law_spec (fun vs H Q E h=>?_) (fun cdv A outer s H vs Q E hr h=>?_)
 ·obtain ⟨a,ns,rfl,hS,h63,q⟩:=h
  rfl
 obtain ⟨a,ns,rfl,hS,h63,q⟩:=h
 refine ⟨_,pss_cons (ps_set (i:=2) sc_law_spec.nd rfl (Or.inl rfl) (pe_callH C_law_pick hr rfl (pa_cons (pe_callH C_law_cell_at hr rfl (pa_cons (pv 0) (pa_cons (pe_int) (pa_nil)))) (pa_cons (pe_int) (pa_cons (pe_int) (pa_nil))))))
  (pss_cons (ps_par (i:=3) (j:=4) rfl sc_law_spec.nd rfl rfl (by decide) rfl rfl (pa_cons (pe_callH C_law_cell_at hr rfl (pa_cons (pv 0) (pa_cons (pe_int) (pa_nil)))) (pa_cons (pe_callH C_law_cell_at hr rfl (pa_cons (pv 0) (pa_cons (pe_int) (pa_nil)))) (pa_nil))) rfl)
  (pss_cons (ps_if (pt_cmpR op_lt (pv 2) (pe_int) (nomark _)) (pss_one (ps_ret (pe_callH C_law_number_spec hr rfl (pa_cons (pv 3) (pa_cons (pv 4) (pa_cons (pv 1) (pa_nil))))))) (pss_nil))
  (pss_cons (ps_if (pt_cmpR op_eq (pv 2) (pe_int) (nomark _)) (pss_one (ps_ret (pe_callH C_law_word_spec hr rfl (pa_cons (pv 3) (pa_cons (pv 4) (pa_cons (pv 1) (pa_nil))))))) (pss_nil))
  (pss_one (ps_ret (pe_callH C_law_choice_spec hr rfl (pa_cons (pv 3) (pa_cons (pv 4) (pa_cons (pv 1) (pa_nil)))))))))),?_⟩
 walk_at "st"
 walk_at "rd"
 ·exact c_number_spec rfl q
 ·exact c_word_spec rfl q
 ·exact c_choice_spec rfl q
def sp_law_form (K:W.Frag) (cN cW cC:Addr):Sp:=fun vs H Q _=>∃ (p:Addr) (wd:Int) (f:Nat) (x:Str) (st:Bool) (d:Fd),vs=[.ref p]∧SpAt H p wd f x st d ∧ ∀ o H',Same H H'→FdAt K H' o cN cW cC wd f x st d→Q (.ref o) H'
theorem c_form {K:W.Frag} {cN cW cC p:Addr} {wd:Int} {f:Nat} {x:Str} {st:Bool} {d:Fd} {H:Hp} {Q:VK} {E:XK} (h:SpAt H p wd f x st d) (q : ∀ o H',Same H H'→FdAt K H' o cN cW cC wd f x st d→Q (.ref o) H'):sp_law_form K cN cW cC ([.ref p]++[]) H Q E:=⟨p,wd,f,x,st,d,rfl,h,q⟩
theorem ok_law_form {f : Addr} {fd : FuncData} (F : Fun K "_law_form" "_law_form" s_law_form f fd) (B : Blt mg) {c_ChoiceForm : Addr} {c_WordForm : Addr} {c_NumberForm : Addr} (m_ChoiceForm : mg "ChoiceForm" = some (.ref c_ChoiceForm)) (m_WordForm : mg "WordForm" = some (.ref c_WordForm)) (C_law_number_form : Has P w K mg base "_law_number_form" 4 ["_law_spec_here"] (sp_law_number_form K c_NumberForm)) (I_ChoiceForm_init : HasI P w K mg base CX0 c_ChoiceForm 2 ["self", "names", "width", "fill", "side", "strict"] (sp_ChoiceForm___init__ K c_ChoiceForm)) (I_WordForm_init : HasI P w K mg base CX0 c_WordForm 2 ["self", "signs", "least", "most", "width", "fill", "side", "strict"] (sp_WordForm___init__ K c_WordForm))(clW : Cls K c_WordForm) (naW : NoAttrs K c_WordForm (bns ++ wns)) (clC : Cls K c_ChoiceForm) (naC : NoAttrs K c_ChoiceForm (bns ++ cns)) : FnOk P w K mg base CX0 5 f fd ["_law_spec_here"] (sp_law_form K c_NumberForm c_WordForm c_ChoiceForm) := by
  refine F.ok sc_law_form (fun vs H Q E h => ?_) (fun cdv A outer s H vs Q E hr h => ?_)
  · obtain ⟨p, wd, f, x, st, d, rfl, D0, q⟩ := h
    rfl
  obtain ⟨p, wd, f, x, st, d, rfl, D0, q⟩ := h
  refine ⟨_, pss_cons (ps_if (pt_cmpR op_eq (pe_ix ix_tup (pv 0) (pe_int) (fun _ _ => rfl)) (pe_str) (nomark _)) (pss_one (ps_ret (pe_callH C_law_number_form hr rfl (pa_cons (pv 0) (pa_nil))))) (pss_nil))
    (pss_cons (ps_if (pt_cmpR op_eq (pe_ix ix_tup (pv 0) (pe_int) (fun _ _ => rfl)) (pe_str) (nomark _)) (pss_one (ps_ret (pe_makeH I_WordForm_init pass0 hr rfl m_WordForm (pa_cons (pe_ix ix_tup (pv 0) (pe_int) (fun _ _ => rfl)) (pa_cons (pe_ix ix_tup (pv 0) (pe_int) (fun _ _ => rfl)) (pa_cons (pe_ix ix_tup (pv 0) (pe_int) (fun _ _ => rfl)) (pa_cons (pe_ix ix_tup (pv 0) (pe_int) (fun _ _ => rfl)) (pa_cons (pe_ix ix_tup (pv 0) (pe_int) (fun _ _ => rfl)) (pa_cons (pe_ix ix_tup (pv 0) (pe_int) (fun _ _ => rfl)) (pa_cons (pe_ix ix_tup (pv 0) (pe_int) (fun _ _ => rfl)) (pa_nil) se_Subscript) se_Subscript) se_Subscript) se_Subscript) se_Subscript) se_Subscript) se_Subscript)))) (pss_nil))
    (pss_one (ps_ret (pe_makeH I_ChoiceForm_init pass0 hr rfl m_ChoiceForm (pa_cons (pe_callTy call_listOf rfl B.z_list bo_list (pa_cons (pe_ix ix_tup (pv 0) (pe_int) (fun _ _ => rfl)) (pa_nil))) (pa_cons (pe_ix ix_tup (pv 0) (pe_int) (fun _ _ => rfl)) (pa_cons (pe_ix ix_tup (pv 0) (pe_int) (fun _ _ => rfl)) (pa_cons (pe_ix ix_tup (pv 0) (pe_int) (fun _ _ => rfl)) (pa_cons (pe_ix ix_tup (pv 0) (pe_int) (fun _ _ => rfl)) (pa_nil)))))))))), ?_⟩
  walk_at "st"
  cases D0 with
  | num e ok =>
    walk_at "rd"
    exact ⟨p, _, _, _, _, _, _, _, _, _, _, _, _, rfl, e, fun o H1 g1 F1 => q _ _ g1 (.num F1 ok)⟩
  | @word sg lo hi e ok =>
    walk_at "rd"
    intro o dx no nd ne
    refine ⟨o, dx, sg, lo, hi, wd, f, x, st, rfl, upd_same, ?_⟩
    have F1 : FormAt K (upd (upd (upd H dx (.own o)) o (.ins c_WordForm dx [])) o (.ins c_WordForm dx (bfs wd f x st (wmore sg lo hi)))) o c_WordForm wd f x st (wmore sg lo hi) := ⟨⟨dx, upd_same⟩, clW, naW⟩
    have g3 : Same H (upd (upd (upd H dx (.own o)) o (.ins c_WordForm dx [])) o (.ins c_WordForm dx (bfs wd f x st (wmore sg lo hi)))) := same_upd (same_upd (same_upd (Same.refl _) nd) no) no
    generalize upd (upd (upd H dx (.own o)) o (.ins c_WordForm dx [])) o (.ins c_WordForm dx (bfs wd f x st (wmore sg lo hi))) = H3 at F1 g3 ⊢
    exact ⟨rfl, q _ _ g3 (.word F1 ok)⟩
  | @cho L ns e eL ok =>
    walk_at "rd"
    rename_i l2 H2 g2 n2 e2
    intro o dx no nd ne
    have g3 : Same H2 (upd (upd H2 dx (.own o)) o (.ins c_ChoiceForm dx [])) := same_upd (same_upd (Same.refl _) nd) no
    refine ⟨o, dx, l2, ns, wd, f, x, st, rfl, upd_same, g3.at e2, fun L2 H3 sb n3 e3 eo => ⟨rfl, q _ _ (fun b u eb => ?_) (.cho ⟨⟨dx, eo⟩, clC, naC⟩ e3 ok)⟩⟩
    have eb2 := g2.at eb
    exact sb b u (fun z => by rw [z, no] at eb2; cases eb2) (g3.at eb2)
inductive VlA (H:Hp) (v:V):Fd→List Nat→List Nat→Prop
 | num {p:Addr} {fg pl b:Int} {sn:Str} {z:Int} {m pt:Nat} {wy:Str} {k:Int} (hv:v = .ref p) (hp:H p=some (.tup [.int (low1 k (b ^ pl.toNat)),.int (low2 k (b ^ pl.toNat))])) (lim:LimN fg pl b k):VlA H v (.num fg pl b sn z m pt wy) (stL sn (decide (k < 0))) (nrest pl b sn z m pt k)
 | word {sg:List Nat} {lo hi:Int} {t:List Nat} (hv:v = .str (T t)) (iw:Isw sg lo hi t):VlA H v (.word sg lo hi) [] t
 | cho {ns:Ce} {t:List Nat} (hv:v = .str (T t)) (hm:t ∈ ns):VlA H v (.cho ns) [] t
theorem VlA.same {H H':Hp} {v:V} {d:Fd} {ld rs:List Nat} (g:Same H H') (h:VlA H v d ld rs):VlA H' v d ld rs:=by
 cases h with
 | num hv hp lim=>exact .num hv (g.at hp) lim
 | word hv iw=>exact .word hv iw
 | cho hv hm=>exact .cho hv hm
def okS (wd:Int) (f:Nat) (x:Str):Fd→Prop
 | .num fg pl b sn z m pt wy=>NumS fg pl b sn z m pt wy wd f x
 | .word sg lo hi=>WdS sg lo hi wd f x
 | .cho ns=>ChS ns wd f x
theorem SpAt.okS {H:Hp} {p:Addr} {wd:Int} {f:Nat} {x:Str} {st:Bool} {d:Fd} (h:SpAt H p wd f x st d):okS wd f x d:=by
 cases h <;> assumption
theorem FdAt.okS {K:W.Frag} {H:Hp} {o cN cW cC:Addr} {wd:Int} {f:Nat} {x:Str} {st:Bool} {d:Fd} (h:FdAt K H o cN cW cC wd f x st d):okS wd f x d:=by
 cases h <;> assumption
theorem VlA.ok {H : Hp} {wd : Int} {f : Nat} {x : Str} {v : V} {d : Fd} {ld rs : List Nat} (D : okS wd f x d) (h : VlA H v d ld rs) : ld.length ≤ 2 ∧ rs.length ≤ 200 ∧ Asc ld ∧ Asc rs := by
  cases h with
  | @num q fg pl b sn z m pt wy k hv hp lim =>
    have ok : NumS fg pl b sn z m pt wy wd f x := D
    obtain ⟨nb, n2, n3, n4⟩ := ncore_ok ok lim
    have sl := st_len ok.sn (decide (k < 0))
    have sa := st_asc ok.sn (decide (k < 0))
    have bs := bdy_spec (z := z.toNat) (b := b.toNat) (p := pl.toNat) (n := (k.natAbs : Int).toNat) (by have := ok.b1; omega) (by have := ok.b2; omega) (by have := ok.pl2; omega) nb.2.2.2.2.2 ok.pt ok.m
    refine ⟨by omega, ?_, sa.1, ?_⟩
    · unfold nrest bdI; rw [List.length_append]; have := bs.2.2; omega
    · unfold nrest bdI; exact bs.2.1.app sa.2
  | @word sg lo hi t hv iw =>
    have ok : WdS sg lo hi wd f x := D
    have h1 := iw.1.2; have h2 := ok.hi2
    exact ⟨by decide, by omega, Asc.nil, fun c hc => ok.sa c (iw.2 c hc)⟩
  | @cho ns t hv hm =>
    have ok : ChS ns wd f x := D
    exact ⟨by decide, Nat.le_trans (ok.len _ hm) (by decide), Asc.nil, ok.ta _ hm⟩
def sp_law_value (K:W.Frag):Sp:=fun vs H Q _=>∃ (c:Int) (p:Addr) (wd:Int) (f:Nat) (x:Str) (st:Bool) (d:Fd),vs=[.int c,.ref p]∧SpAt H p wd f x st d ∧ ∀ v H' ld rs,Same H H'→VlA H' v d ld rs→Q v H'
theorem c_value {K:W.Frag} {c:Int} {p:Addr} {wd:Int} {f:Nat} {x:Str} {st:Bool} {d:Fd} {H:Hp} {Q:VK} {E:XK} (h1:SpAt H p wd f x st d) (q : ∀ v H' ld rs,Same H H'→VlA H' v d ld rs→Q v H'):sp_law_value K ([.int c,.ref p]++[]) H Q E:=⟨c,p,wd,f,x,st,d,rfl,h1,q⟩
theorem ok_law_value {f : Addr} {fd : FuncData} (F : Fun K "_law_value" "_law_value" s_law_value f fd) (B : Blt mg) (C_law_power : Has P w K mg base "_law_power" 1 ["_law_base", "_law_times"] (sp_law_power K)) (C_law_lowest : Has P w K mg base "_law_lowest" 2 ["_law_top", "_law_bottom"] (sp_law_lowest K)) (C_law_word : Has P w K mg base "_law_word" 2 ["_law_cell", "_law_signs_here", "_law_size"] (sp_law_word K)) (C_law_pick : Has P w K mg base "_law_pick" 1 ["_law_cell", "_law_salt", "_law_many"] (sp_law_pick K)) (C_law_steps : Has P w K mg base "_law_steps" 2 ["_law_cell", "_law_limit"] (sp_law_steps K)) : FnOk P w K mg base CX0 3 f fd ["_law_cell", "_law_spec_here"] (sp_law_value K) := by
  refine F.ok sc_law_value (fun vs H Q E h => ?_) (fun cdv A outer s H vs Q E hr h => ?_)
  · obtain ⟨c, p, wd, f, x, st, d, rfl, D0, q⟩ := h
    rfl
  obtain ⟨c, p, wd, f, x, st, d, rfl, D0, q⟩ := h
  refine ⟨_, pss_cons (ps_if (pt_cmpR op_eq (pe_ix ix_tup (pv 1) (pe_int) (fun _ _ => rfl)) (pe_str) (nomark _)) (pss_cons (ps_set (i := 2) sc_law_value.nd rfl (Or.inl rfl) (pe_callH C_law_power hr rfl (pa_cons (pe_ix ix_tup (pv 1) (pe_int) (fun _ _ => rfl)) (pa_cons (pe_ix ix_tup (pv 1) (pe_int) (fun _ _ => rfl)) (pa_nil)))))
    (pss_one (ps_ret (pe_callH C_law_lowest hr rfl (pa_cons (pe_callH C_law_steps hr rfl (pa_cons (pv 0) (pa_cons (pe_op op_mulA (pe_callH C_law_power hr rfl (pa_cons (pe_ix ix_tup (pv 1) (pe_int) (fun _ _ => rfl)) (pa_cons (pe_ix ix_tup (pv 1) (pe_int) (fun _ _ => rfl)) (pa_nil)))) (pv 2)) (pa_nil)))) (pa_cons (pv 2) (pa_nil))))))) (pss_nil))
    (pss_cons (ps_if (pt_cmpR op_eq (pe_ix ix_tup (pv 1) (pe_int) (fun _ _ => rfl)) (pe_str) (nomark _)) (pss_one (ps_ret (pe_callH C_law_word hr rfl (pa_cons (pv 0) (pa_cons (pe_ix ix_tup (pv 1) (pe_int) (fun _ _ => rfl)) (pa_cons (pe_op op_add (pe_ix ix_tup (pv 1) (pe_int) (fun _ _ => rfl)) (pe_callH C_law_pick hr rfl (pa_cons (pv 0) (pa_cons (pe_int) (pa_cons (pe_op op_add (pe_op op_sub (pe_ix ix_tup (pv 1) (pe_int) (fun _ _ => rfl)) (pe_ix ix_tup (pv 1) (pe_int) (fun _ _ => rfl))) (pe_int)) (pa_nil)))))) (pa_nil))))))) (pss_nil))
    (pss_one (ps_ret (pe_ix ix_list (pe_ix ix_tup (pv 1) (pe_int) (fun _ _ => rfl)) (pe_callH C_law_pick hr rfl (pa_cons (pv 0) (pa_cons (pe_int) (pa_cons (pe_callBH call_lenN B.z_len rfl bo_len (pa_cons (pe_ix ix_tup (pv 1) (pe_int) (fun _ _ => rfl)) (pa_nil))) (pa_nil))))) (fun _ _ => rfl))))), ?_⟩
  walk_at "st"
  cases D0 with
  | @num fg pl b sn z m pt wy e ok =>
    have o1 := ok.fg1; have o2 := ok.fg2; have o3 := ok.pl1; have o4 := ok.pl2; have o5 := ok.b1; have o6 := ok.b2
    have pw := pw6 (b := b) (t := pl) o5 o6 o4
    have pf := pw60 (b := b) (n := fg.toNat) o5 o6 (by omega)
    have pe : b ^ fg.toNat * b ^ pl.toNat = b ^ (fg + pl).toNat := by rw [← Int.pow_add, Int.toNat_add (by omega) o3]
    have pL := pw_bd o5 o6 (fg + pl).toNat
    have pM := pw_mono (n := (fg + pl).toNat) (m := 18) (by omega)
    have p18 : (16 : Int) ^ 18 = 4722366482869645213696 := by decide
    have pn : ((b.toNat ^ (fg + pl).toNat : Nat) : Int) = b ^ (fg + pl).toNat := by rw [Int.natCast_pow, Int.toNat_of_nonneg (by omega)]
    have p2 : 2 ≤ b ^ (fg + pl).toNat := by
      have e1 : b ^ (fg + pl).toNat = b ^ ((fg + pl).toNat - 1) * b := by rw [← Int.pow_succ]; congr 1; omega
      have e2 := (pw_bd o5 o6 ((fg + pl).toNat - 1)).1
      rw [e1]
      have := Int.mul_le_mul e2 o5 (by omega) (by omega)
      omega
    walk_at "rd"
    rw [pe]
    refine c_steps (by omega) (by omega) fun v H1 g1 v1 v2 => ?_
    walk_at "rd"
    refine c_lowest (by omega) (by omega) fun p2 H2 g2 e2 => ?_
    exact q _ _ _ _ (g1.trans g2) (.num rfl e2 (by unfold LimN; omega))
  | @word sg lo hi e ok =>
    have o1 := ok.s1; have o2 := ok.s2; have o3 := ok.lo1; have o4 := ok.lo2; have o5 := ok.hi2
    walk_at "rd"
    rename_i v' h0' h1'
    refine c_word (by omega) o2 (by omega) (by omega) fun l H1 g1 l1 l2 => ?_
    exact q _ _ _ _ g1 (.word rfl ⟨⟨by omega, by omega⟩, l2⟩)
  | @cho L ns e eL ok =>
    have o1 := ok.n1; have o2 := ok.n2
    walk_at "rd"
    rename_i v' h0' h1'
    refine q _ _ _ _ (Same.refl _) (.cho rfl ?_)
    rw [List.getD_eq_getElem?_getD, List.getElem?_eq_getElem (by omega)]
    exact List.getElem_mem _
def sp_law_parts_of (K:W.Frag):Sp:=fun vs H Q _=>∃ (v:V) (p:Addr) (wd:Int) (f:Nat) (x:Str) (st:Bool) (d:Fd) (ld rs:List Nat),vs=[v,.ref p]∧SpAt H p wd f x st d∧VlA H v d ld rs ∧ ∀ q H',Same H H'→H' q=some (.tup [.str (T ld),.str (T rs)])→Q (.ref q) H'
theorem c_parts_of' {K:W.Frag} {v:V} {p:Addr} {wd:Int} {f:Nat} {x:Str} {st:Bool} {d:Fd} {ld rs:List Nat} {H:Hp} {Q:VK} {E:XK} (h1:SpAt H p wd f x st d) (h2:VlA H v d ld rs) (q : ∀ q H',Same H H'→H' q=some (.tup [.str (T ld),.str (T rs)])→Q (.ref q) H'):sp_law_parts_of K ([v,.ref p]++[]) H Q E:=⟨v,p,wd,f,x,st,d,ld,rs,rfl,h1,h2,q⟩
theorem ok_law_parts_of {f : Addr} {fd : FuncData} (F : Fun K "_law_parts_of" "_law_parts_of" s_law_parts_of f fd) (B : Blt mg) (C_law_parts : Has P w K mg base "_law_parts" 3 ["_law_steps_here", "_law_spec_here"] (sp_law_parts K)) (C_law_power : Has P w K mg base "_law_power" 1 ["_law_base", "_law_times"] (sp_law_power K)) : FnOk P w K mg base CX0 4 f fd ["_law_value_here", "_law_spec_here"] (sp_law_parts_of K) := by
  refine F.ok sc_law_parts_of (fun vs H Q E h => ?_) (fun cdv A outer s H vs Q E hr h => ?_)
  · obtain ⟨v, p, wd, f, x, st, d, ld, rs, rfl, D0, V0, q⟩ := h
    rfl
  obtain ⟨v, p, wd, f, x, st, d, ld, rs, rfl, D0, V0, q⟩ := h
  refine ⟨_, pss_cons (ps_if (pt_cmpR op_eq (pe_ix ix_tup (pv 1) (pe_int) (fun _ _ => rfl)) (pe_str) (nomark _)) (pss_one (ps_ret (pe_callH C_law_parts hr rfl (pa_cons (pe_op op_fdivB (pe_op op_mulA (pe_ix ix_tup (pv 0) (pe_int) (fun _ _ => rfl)) (pe_callH C_law_power hr rfl (pa_cons (pe_ix ix_tup (pv 1) (pe_int) (fun _ _ => rfl)) (pa_cons (pe_ix ix_tup (pv 1) (pe_int) (fun _ _ => rfl)) (pa_nil))))) (pe_ix ix_tup (pv 0) (pe_int) (fun _ _ => rfl))) (pa_cons (pv 1) (pa_nil)))))) (pss_nil))
    (pss_one (ps_ret (pe_tup (pa_cons (pe_strT (l := []) (by decide +kernel)) (pa_cons (pv 0) (pa_nil)))))), ?_⟩
  walk_at "st"
  cases V0 with
  | @num p0 fg pl b sn z m pt wy k hv hp lim =>
    subst hv
    cases D0 with
    | num e ok =>
      have o3 := ok.pl1; have o4 := ok.pl2; have o5 := ok.b1; have o6 := ok.b2
      have pw := pw6 (b := b) (t := pl) o5 o6 o4
      have l2 := low2_pos (t := k) (b := b ^ pl.toNat) (by omega)
      have l3 := low2_le (t := k) (b := b ^ pl.toNat) (by omega)
      have ek : low1 k (b ^ pl.toNat) * b ^ pl.toNat / low2 k (b ^ pl.toNat) = k := by
        have e1 := low_mul1 k (b ^ pl.toNat)
        have e2 := low_mul2 k (b ^ pl.toNat)
        generalize lowS k (b ^ pl.toNat) = g at *
        have e3 : low1 k (b ^ pl.toNat) * b ^ pl.toNat = low2 k (b ^ pl.toNat) * k :=
          calc low1 k (b ^ pl.toNat) * b ^ pl.toNat = low1 k (b ^ pl.toNat) * (low2 k (b ^ pl.toNat) * g) := by rw [e2]
            _ = low2 k (b ^ pl.toNat) * (low1 k (b ^ pl.toNat) * g) := by ac_rfl
            _ = low2 k (b ^ pl.toNat) * k := by rw [e1]
        rw [e3, Int.mul_ediv_cancel_left _ (by omega)]
      walk_at "rd"
      rw [ek]
      exact c_parts e ok lim q
  | @word sg lo hi t hv iw =>
    subst hv
    cases D0 with
    | word e ok =>
      walk_at "rd"
      exact q _ _ (by assumption) (by assumption)
  | @cho ns t hv hm =>
    subst hv
    cases D0 with
    | cho e eL ok =>
      walk_at "rd"
      exact q _ _ (by assumption) (by assumption)
def txV (wd:Int) (f:Nat) (x:Str) (st:Bool) (ld rs:List Nat):V:=if (st && decide (wd < ((ld++rs).length:Int)))=true then .non else .str (T (nfil ld (ld++rs) wd f x))
def sp_law_text (K:W.Frag):Sp:=fun vs H Q _=>∃ (v:V) (p:Addr) (wd:Int) (f:Nat) (x:Str) (st:Bool) (d:Fd) (ld rs:List Nat),vs=[v,.ref p]∧SpAt H p wd f x st d∧VlA H v d ld rs ∧ ∀ H',Same H H'→Q (txV wd f x st ld rs) H'
theorem c_text {K:W.Frag} {v:V} {p:Addr} {wd:Int} {f:Nat} {x:Str} {st:Bool} {d:Fd} {ld rs:List Nat} {H:Hp} {Q:VK} {E:XK} (h1:SpAt H p wd f x st d) (h2:VlA H v d ld rs) (q : ∀ H',Same H H'→Q (txV wd f x st ld rs) H'):sp_law_text K ([v,.ref p]++[]) H Q E:=⟨v,p,wd,f,x,st,d,ld,rs,rfl,h1,h2,q⟩
theorem ok_law_text {f:Addr} {fd:FuncData} (F:Fun K "_law_text" "_law_text" s_law_text f fd) (B:Blt mg) (C_law_parts_of:Has P w K mg base "_law_parts_of" 4 ["_law_value_here", "_law_spec_here"] (sp_law_parts_of K)) (C_law_filled:Has P w K mg base "_law_filled" 1 ["_law_lead", "_law_rest", "_law_spec_here"] (sp_law_filled K)):FnOk P w K mg base CX0 5 f fd ["_law_value_here", "_law_spec_here"] (sp_law_text K):=by
 refine F.ok sc_law_text (fun vs H Q E h=>?_) (fun cdv A outer s H vs Q E hr h=>?_)
 ·obtain ⟨v,p,wd,f,x,st,d,ld,rs,rfl,D0,V0,q⟩:=h
  rfl
 obtain ⟨v,p,wd,f,x,st,d,ld,rs,rfl,D0,V0,q⟩:=h
 refine ⟨_,pss_cons (ps_asg (pe_callH C_law_parts_of hr rfl (pa_cons (pv 0) (pa_cons (pv 1) (pa_nil)))) (pg_tup rfl (pgs_cons (pg_name (i:=2) sc_law_text.nd rfl (Or.inl rfl)) (pgs_cons (pg_name (i:=3) sc_law_text.nd rfl (Or.inl rfl)) (pgs_nil)))))
  (pss_cons (ps_if (PW.pt (pw_and (pt_val (pe_ix ix_tup (pv 1) (pe_un un_neg (pe_int)) (fun _ _=>rfl))) (pw_and1 (pt_cmpR op_gt (pe_op op_add (pe_callBH call_lenT B.z_len rfl bo_len (pa_cons (pv 2) (pa_nil))) (pe_callBH call_lenT B.z_len rfl bo_len (pa_cons (pv 3) (pa_nil)))) (pe_ix ix_tup (pv 1) (pe_un un_neg (pe_int)) (fun _ _=>rfl)) (nomark _))))) (pss_one (ps_ret (pe_non))) (pss_nil))
  (pss_one (ps_ret (pe_callH C_law_filled hr rfl (pa_cons (pv 2) (pa_cons (pv 3) (pa_cons (pv 1) (pa_nil)))))))),?_⟩
 walk_at "st"
 obtain ⟨l1,l2,a1,a2⟩:=V0.ok D0.okS
 have la:((ld++rs).length:Int)=ld.length+rs.length:=by rw [List.length_append];omega
 walk_at "rd"
 refine c_parts_of' D0 V0 fun q1 H1 g1 e1=>?_
 have D1:=D0.same g1
 unfold txV at q
 walk_at "rd"
 refine sp_m1 D1 ?_
 walk_at "rd"
 ·rename_i hc1
  refine sp_m4 D1 ?_
  walk_at "rd"
  ·rename_i hc2
   have q':=q _ g1
   rw [if_pos (by rw [hc1,decide_eq_true (by omega)];rfl)] at q'
   exact q'
  ·rename_i hc2
   refine c_lfilled D1 l1 l2 fun H2 g2=>?_
   have q':=q _ (g1.trans g2)
   rw [if_neg (by rw [hc1,decide_eq_false (by omega)];decide)] at q'
   exact q'
 ·rename_i hc1
  refine c_lfilled D1 l1 l2 fun H2 g2=>?_
  have q':=q _ (g1.trans g2)
  rw [if_neg (by rw [hc1];simp)] at q'
  exact q'
section
open PySem.Spec PyProof.Rows
variable {X : Cx} {H : Hp} {Q : VK} {K : W.Frag}
def rIndexB:V→List V→Hp→VK→Prop:=fun x vs H Q=>∃ (l:Addr) (bs:List Bool) (j:Nat),x = .ref l∧vs=[.bl true]∧H l=some (.lst (bs.map V.bl))∧bs[j]? = some true∧(∀ m,m < j→bs[m]? ≠ some true)∧j < 1000∧Q (.int j) H
theorem mt_indexB:MtM X "list.index" rIndexB:=by
 intro pins s σ H x vs v us Q I rx rv h
 obtain ⟨l,zs,j,rfl,rfl,hH,hj,hno,hj1,q⟩:=h
 cases rx
 obtain ⟨u,rfl,ru⟩:=rv.one
 obtain ⟨_,its,n,r,hl,e⟩:=I.lstM hH
 have fl:(zs.map V.bl).all flatV=true:=by
  rw [List.all_eq_true];intro x hx
  obtain ⟨l,_,rfl⟩:=List.mem_map.mp hx
  rfl
 have it : ∀ (m:Nat) (hm:m < its.toArray.size),∃ y:Bool,zs[m]? = some y∧its.toArray[m] = .bool y:=fun m hm=>by
  have hm':m < its.length:=by simpa using hm
  have hz:m < zs.length:=by have:=r.length;rw [List.length_map] at this;omega
  obtain ⟨w,hw,rw'⟩:=r.get (i:=m) (x:=.bl zs[m]) (by rw [List.getElem?_map,List.getElem?_eq_getElem hz];rfl)
  have rw2:w = .bool zs[m]:=rw'
  subst rw2
  refine ⟨zs[m],List.getElem?_eq_getElem hz,?_⟩
  rw [List.getElem?_eq_getElem hm'] at hw
  simpa using Option.some.inj hw
 have hjz:j < its.toArray.size:=by
  have:=r.length;rw [List.length_map] at this
  rcases Nat.lt_or_ge j zs.length with z1 | z1
  ·simp;omega
  ·rw [List.getElem?_eq_none z1] at hj;cases hj
 refine call_meets F.slot_list_index ⟨_,e,rfl⟩ F.entry_list_index (F.args_list_index_2 _ _) (SeqAt.list_indexAt l its.toArray n none #[] u (eqU (.bl true)) j hjz (by omega) ?_ fun m hm hmj=>?_) ⟨e,fun y hy=>mem_eqAt ru rfl r fl y (by simpa using hy),⟨.int j,H,I.tok _,⟨_,rfl⟩,q⟩⟩
 ·obtain ⟨y,h1,h2⟩:=it j hjz
  rw [hj] at h1;cases h1
  rw [h2];rfl
 ·obtain ⟨y,h1,h2⟩:=it m hm
  rw [h2]
  cases y with
  | true=>exact absurd h1 (hno m hmj)
  | false=>rfl
end
structure WdF (K:W.Frag) (C:Addr) (l9 l4:List Value) (cV cG cT:Addr) (b1 b2 b3:Bool):Prop where
 a9:W.kitAny K (.ref C) l9=some false
 a4:W.kitAny K (.ref C) l4=some false
 ve:W.kitOne K (.ref C) (.type "ValueError")=some true
 k1:W.kitOne K (.ref C) (.ref cV)=some b1
 k2:W.kitOne K (.ref C) (.ref cG)=some b2
 k3:W.kitOne K (.ref C) (.ref cT)=some b3
def sp_law_word_of (K:W.Frag) (cV cG cT:Addr):SpY:=fun y vs H Q=>vs=[.ref y] ∧ ∃ (C:Addr) (s:Str),H y=some (.ext (ExC y C))∧Exc K C∧((C=cV∧s = "none")∨(C=cG∧s = "great")∨(C=cT∧s = "wide")) ∧ ∀ H',Same H H'→Q (.str s) H'
local macro_rules | `(tactic| walk_at "rd1")=>`(tactic| first | (with_reducible refine r_compLY ?_) | fail "none")
theorem ok_law_word_of {f:Addr} {fd:FuncData} (F:Fun K "_law_word_of" "_law_word_of" s_law_word_of f fd) (B:Blt mg) {c_NoValue:Addr} {c_TooGreat:Addr} {c_TooWide:Addr}{c_NoBody c_NoCore c_NoFigures c_NoForm c_NoGroups c_NoLine c_NoNumber c_NoRow c_NoSheet c_NoText c_TooMany c_TwoRows c_TwoValues:Addr} (m_NoBody:mg "NoBody" = some (.ref c_NoBody)) (m_NoCore:mg "NoCore" = some (.ref c_NoCore)) (m_NoFigures:mg "NoFigures" = some (.ref c_NoFigures)) (m_NoForm:mg "NoForm" = some (.ref c_NoForm)) (m_NoGroups:mg "NoGroups" = some (.ref c_NoGroups)) (m_NoLine:mg "NoLine" = some (.ref c_NoLine)) (m_NoNumber:mg "NoNumber" = some (.ref c_NoNumber)) (m_NoRow:mg "NoRow" = some (.ref c_NoRow)) (m_NoSheet:mg "NoSheet" = some (.ref c_NoSheet)) (m_NoText:mg "NoText" = some (.ref c_NoText)) (m_TooMany:mg "TooMany" = some (.ref c_TooMany)) (m_TwoRows:mg "TwoRows" = some (.ref c_TwoRows)) (m_TwoValues:mg "TwoValues" = some (.ref c_TwoValues)) (m_NoValue:mg "NoValue" = some (.ref c_NoValue)) (m_TooGreat:mg "TooGreat" = some (.ref c_TooGreat)) (m_TooWide:mg "TooWide" = some (.ref c_TooWide)) (fV:WdF K c_NoValue [.ref c_NoBody,.ref c_NoCore,.ref c_NoFigures,.ref c_NoForm,.ref c_NoGroups,.ref c_NoLine,.ref c_NoNumber,.ref c_NoRow,.ref c_NoSheet] [.ref c_NoText,.ref c_TooMany,.ref c_TwoRows,.ref c_TwoValues] c_NoValue c_TooGreat c_TooWide true false false) (fG:WdF K c_TooGreat [.ref c_NoBody,.ref c_NoCore,.ref c_NoFigures,.ref c_NoForm,.ref c_NoGroups,.ref c_NoLine,.ref c_NoNumber,.ref c_NoRow,.ref c_NoSheet] [.ref c_NoText,.ref c_TooMany,.ref c_TwoRows,.ref c_TwoValues] c_NoValue c_TooGreat c_TooWide false true false) (fT:WdF K c_TooWide [.ref c_NoBody,.ref c_NoCore,.ref c_NoFigures,.ref c_NoForm,.ref c_NoGroups,.ref c_NoLine,.ref c_NoNumber,.ref c_NoRow,.ref c_NoSheet] [.ref c_NoText,.ref c_TooMany,.ref c_TwoRows,.ref c_TwoValues] c_NoValue c_TooGreat c_TooWide false false true):FnOkY P w K mg base 1 f fd ["_law_e"] (sp_law_word_of K c_NoValue c_TooGreat c_TooWide):=by
 refine F.okY sc_law_word_of (fun y vs H Q h=>?_) (fun cdv A outer s H vs Q y hr h=>?_)
 ·obtain ⟨rfl,C,sw,ex0,exc,hw,q⟩:=h
  rfl
 obtain ⟨rfl,C,sw,ex0,exc,hw,q⟩:=h
 refine ⟨_,pss_cons (ps_if (pt_val (pe_callBH (call_isiCT (K:=K) rfl) B.z_isinstance rfl bo_isinstance (pa_cons (pv 0) (pa_cons (pe_tup (pa_cons (pe_glob rfl m_NoBody (v:=.ref c_NoBody) rfl) (pa_cons (pe_glob rfl m_NoCore (v:=.ref c_NoCore) rfl) (pa_cons (pe_glob rfl m_NoFigures (v:=.ref c_NoFigures) rfl) (pa_cons (pe_glob rfl m_NoForm (v:=.ref c_NoForm) rfl) (pa_cons (pe_glob rfl m_NoGroups (v:=.ref c_NoGroups) rfl) (pa_cons (pe_glob rfl m_NoLine (v:=.ref c_NoLine) rfl) (pa_cons (pe_glob rfl m_NoNumber (v:=.ref c_NoNumber) rfl) (pa_cons (pe_glob rfl m_NoRow (v:=.ref c_NoRow) rfl) (pa_cons (pe_glob rfl m_NoSheet (v:=.ref c_NoSheet) rfl) (pa_nil) se_Name) se_Name) se_Name) se_Name) se_Name) se_Name) se_Name) se_Name) se_Name)) (pa_nil))))) (pss_one (ps_ret (pe_str))) (pss_nil))
  (pss_cons (ps_if (PW.pt (pw_or (pt_val (pe_callBH (call_isiCT (K:=K) rfl) B.z_isinstance rfl bo_isinstance (pa_cons (pv 0) (pa_cons (pe_tup (pa_cons (pe_glob rfl m_NoText (v:=.ref c_NoText) rfl) (pa_cons (pe_glob rfl m_TooMany (v:=.ref c_TooMany) rfl) (pa_cons (pe_glob rfl m_TwoRows (v:=.ref c_TwoRows) rfl) (pa_cons (pe_glob rfl m_TwoValues (v:=.ref c_TwoValues) rfl) (pa_nil)))))) (pa_nil))))) (pw_or1 (pt_not (pt_val (pe_callBH (call_isiC (K:=K) rfl) B.z_isinstance rfl bo_isinstance (pa_cons (pv 0) (pa_cons (pe_bltn rfl B.z_ValueError bo_ValueError (v:=.ty "ValueError") rfl) (pa_nil))))))))) (pss_one (ps_ret (pe_str))) (pss_nil))
  (pss_cons (ps_set (i:=1) sc_law_word_of.nd rfl (Or.inl rfl) (pe_lst (pa_cons (pe_callBH (call_isiC (K:=K) rfl) B.z_isinstance rfl bo_isinstance (pa_cons (pv 0) (pa_cons (pe_glob rfl m_NoValue (v:=.ref c_NoValue) rfl) (pa_nil)))) (pa_cons (pe_callBH (call_isiC (K:=K) rfl) B.z_isinstance rfl bo_isinstance (pa_cons (pv 0) (pa_cons (pe_glob rfl m_TooGreat (v:=.ref c_TooGreat) rfl) (pa_nil)))) (pa_cons (pe_callBH (call_isiC (K:=K) rfl) B.z_isinstance rfl bo_isinstance (pa_cons (pv 0) (pa_cons (pe_glob rfl m_TooWide (v:=.ref c_TooWide) rfl) (pa_nil)))) (pa_nil))))))
  (pss_cons (ps_if (pt_cmpR op_ne (pe_callBH (call_sumY hr.hd) B.z_sum rfl bo_sum (pa_cons (pe_compY (cl:=[]) (fr:=[]) (is:=[]) hr.hd rfl trivial rfl trivial (by decide) (by decide +kernel) rfl (by decide +kernel) rfl (pi_listY (pv 1)) (fun _ _ _ _=>pifs_nil) (fun _ _ _ _=>pe_callTy call_int1N rfl B.z_int bo_int (pa_cons (pv 0) (pa_nil)))) (pa_nil))) (pe_int) (nomark _)) (pss_one (ps_ret (pe_str))) (pss_nil))
  (pss_one (ps_ret (pe_ix ix_list (pe_lst (pa_cons (pe_str) (pa_cons (pe_str) (pa_cons (pe_str) (pa_nil))))) (pe_bm PySem.F.plainAttrs_list PySem.F.slot_list_index PySem.F.type_list_index mt_indexB (pv 1) (pa_cons (pe_bl) (pa_nil))) (fun _ _=>rfl))))))),?_⟩
 walk_at "st"
 have hb : ∃ b1 b2 b3:Bool,WdF K C [.ref c_NoBody,.ref c_NoCore,.ref c_NoFigures,.ref c_NoForm,.ref c_NoGroups,.ref c_NoLine,.ref c_NoNumber,.ref c_NoRow,.ref c_NoSheet] [.ref c_NoText,.ref c_TooMany,.ref c_TwoRows,.ref c_TwoValues] c_NoValue c_TooGreat c_TooWide b1 b2 b3∧((b1=true∧b2=false∧b3=false∧sw = "none")∨(b1=false∧b2=true∧b3=false∧sw = "great")∨(b1=false∧b2=false∧b3=true∧sw = "wide")):=by
  rcases hw with ⟨rfl,rfl⟩ | ⟨rfl,rfl⟩ | ⟨rfl,rfl⟩
  ·exact ⟨_,_,_,fV,.inl ⟨rfl,rfl,rfl,rfl⟩⟩
  ·exact ⟨_,_,_,fG,.inr (.inl ⟨rfl,rfl,rfl,rfl⟩)⟩
  ·exact ⟨_,_,_,fT,.inr (.inr ⟨rfl,rfl,rfl,rfl⟩)⟩
 clear fV fG fT hw
 obtain ⟨b1,b2,b3,ff,hb⟩:=hb
 walk_at "rd"
 rename_i p1 H1 g1 e1
 have ex1:=g1.at ex0
 refine r_isiCT (Ds:=[c_NoBody,c_NoCore,c_NoFigures,c_NoForm,c_NoGroups,c_NoLine,c_NoNumber,c_NoRow,c_NoSheet]) ex1 exc e1 ff.a9 ?_
 walk_at "rd"
 rename_i p2 H2 g2 e2
 have ex2:=g2.at ex1
 refine r_isiCT (Ds:=[c_NoText,c_TooMany,c_TwoRows,c_TwoValues]) ex2 exc e2 ff.a4 ?_
 walk_at "rd"
 refine r_isiC ex2 exc (.inl ⟨_,rfl⟩) ff.ve ?_
 walk_at "rd"
 refine r_isiC ex2 exc (.inr ⟨_,rfl⟩) ff.k1 ?_
 walk_at "rd"
 refine r_isiC ex2 exc (.inr ⟨_,rfl⟩) ff.k2 ?_
 walk_at "rd"
 refine r_isiC ex2 exc (.inr ⟨_,rfl⟩) ff.k3 ?_
 walk_at "rd"
 rename_i p3 H3 g3 n3 e3
 have ex3:=g3.at ex2
 have hs1:([b1,b2,b3].map fun b=>if b=true then (1:Int) else 0).sum=1:=by
  rcases hb with ⟨rfl,rfl,rfl,_⟩ | ⟨rfl,rfl,rfl,_⟩ | ⟨rfl,rfl,rfl,_⟩ <;> rfl
 have hj : ∃ j:Nat,[b1,b2,b3][j]? = some true∧(∀ m,m < j→[b1,b2,b3][m]? ≠ some true)∧j < 1000∧atI [V.str "none", V.str "great", V.str "wide"] j=some (.str sw):=by
  rcases hb with ⟨rfl,rfl,rfl,rfl⟩ | ⟨rfl,rfl,rfl,rfl⟩ | ⟨rfl,rfl,rfl,rfl⟩
  ·exact ⟨0,rfl,fun m hm=>absurd hm (Nat.not_lt_zero m),by decide,rfl⟩
  ·exact ⟨1,rfl,fun m hm=>by rw [show m=0 by omega];decide,by decide,rfl⟩
  ·exact ⟨2,rfl,fun m hm=>by rcases (show m=0∨m=1 by omega) with rfl | rfl <;> decide,by decide,rfl⟩
 have e3':H3 p3=some (.lst ([b1,b2,b3].map V.bl)):=e3
 clear hb
 have lb:([b1,b2,b3]:List Bool).length=3:=rfl
 refine r_kCompLY (SqL.of e3') (small (by rw [List.length_map,lb];decide)) (fun i ys H'=>H'=H3∧ys=(([b1,b2,b3].take i).map fun b=>if b=true then (1:Int) else 0).map V.int) ⟨rfl,rfl⟩ (fun i ys H' hi z=>⟨by rw [z.1];exact SqL.of e3',by rw [z.2,List.length_map,List.length_map,List.length_take];exact Nat.min_le_left _ _,by rw [z.1];exact ex3⟩) ?_ ?_
 ·rintro i x ys H' hx hi ⟨rfl,rfl⟩
  rw [List.getElem?_map] at hx
  obtain ⟨b,hb,rfl⟩:=Option.map_eq_some_iff.mp hx
  walk_at "rd"
  refine nxC hi ⟨rfl,?_⟩
  rw [List.take_succ,hb,List.map_append,List.map_append];rfl
 ·rintro ys H' ⟨rfl,rfl⟩ p4 H4 g4 n4 e4
  have e4':H4 p4=some (.lst (([b1,b2,b3].map fun b=>if b=true then (1:Int) else 0).map V.int)):=e4
  walk_at "rd"
  refine r_sumY (SqL.of e4') (by rw [List.length_map,lb];decide) (g4.at ex3) ?_
  rw [hs1]
  walk_at "rd"
  rename_i p5 H5 g5 n5 e5
  obtain ⟨j,j1,j2,j3,j4⟩:=hj
  refine ⟨p3,[b1,b2,b3],j,rfl,rfl,g5.at (g4.at e3'),j1,j2,j3,?_⟩
  refine r_ixL (SqL.of e5) j4 ?_
  exact q _ (g1.trans (g2.trans (g3.trans (g4.trans g5))))
def ansV (way:Int) (wd:Int) (f:Nat) (x:Str) (st:Bool):List Nat × List Nat ⊕ Bool→List V
 | .inl (t,ld)=>if way=0 then [.str "told", .str (T t)] else if (st && decide (wd < (t.length:Int)))=true then [.str "refused", .str "wide"] else [.str "told", .str (T (nfil ld t wd f x))]
 | .inr g=>[.str "refused", .str (bif g then "great" else "none")]
theorem ans0 {way wd:Int} {f:Nat} {x:Str} {st:Bool} {t ld:List Nat} (h:way=0):ansV way wd f x st (.inl (t,ld))=[.str "told", .str (T t)]:=if_pos h
theorem ansW {way wd:Int} {f:Nat} {x:Str} {st:Bool} {t ld:List Nat} (h : ¬ way=0) (k:(st && decide (wd < (t.length:Int)))=true):ansV way wd f x st (.inl (t,ld))=[.str "refused", .str "wide"]:=(if_neg h).trans (if_pos k)
theorem ansT {way wd:Int} {f:Nat} {x:Str} {st:Bool} {t ld:List Nat} (h : ¬ way=0) (k : ¬ (st && decide (wd < (t.length:Int)))=true):ansV way wd f x st (.inl (t,ld))=[.str "told", .str (T (nfil ld t wd f x))]:=(if_neg h).trans (if_neg k)
def sp_law_answer (K:W.Frag) (cN cW cC cT cV cG:Addr):Sp:=fun vs H Q _=>∃ (o:Addr) (way:Int) (v:V) (wd:Int) (f:Nat) (x:Str) (st:Bool) (d:Fd1) (r:List Nat × List Nat ⊕ Bool),vs=[.ref o,.int way,v]∧F1At K H o cN cW cC wd f x st d∧Co1 H d v r∧wd≤40 ∧ ∀ p H',Same H H'→H' p=some (.tup (ansV way wd f x st r))→Q (.ref p) H'
theorem ok_law_answer {f : Addr} {fd : FuncData} (F : Fun K "_law_answer" "_law_answer" s_law_answer f fd) (B : Blt mg) {c_NumberForm : Addr} {c_WordForm : Addr} {c_ChoiceForm : Addr} {c_TooWide : Addr} {c_NoValue : Addr} {c_TooGreat : Addr} {c_PadError : Addr} (cl_NumberForm : Cls K c_NumberForm) (cl_WordForm : Cls K c_WordForm) (cl_ChoiceForm : Cls K c_ChoiceForm) (m_PadError : mg "PadError" = some (.ref c_PadError)) (C_law_word_of : HasY P w K mg base "_law_word_of" 1 ["_law_e"] (sp_law_word_of K c_NoValue c_TooGreat c_TooWide)) (M_NumberForm_core : HasM P w K mg base (CXE2 P w) c_NumberForm "core" 4 ["self", "value"] (sp_NumberForm_core K c_NumberForm c_NoValue c_TooGreat)) (M_WordForm_core : HasM P w K mg base (CXE2 P w) c_WordForm "core" 2 ["self", "value"] (sp_WordForm_core K c_WordForm c_NoValue)) (M_ChoiceForm_core : HasM P w K mg base (CXE2 P w) c_ChoiceForm "core" 1 ["self", "value"] (sp_ChoiceForm_core K c_ChoiceForm c_NoValue)) (M_NumberForm_put : HasM P w K mg base (CXE2 P w) c_NumberForm "put" 6 ["self", "value"] (sp_Form_put K c_NumberForm c_WordForm c_ChoiceForm c_TooWide c_NoValue c_TooGreat)) (M_WordForm_put : HasM P w K mg base (CXE2 P w) c_WordForm "put" 6 ["self", "value"] (sp_Form_put K c_NumberForm c_WordForm c_ChoiceForm c_TooWide c_NoValue c_TooGreat)) (M_ChoiceForm_put : HasM P w K mg base (CXE2 P w) c_ChoiceForm "put" 6 ["self", "value"] (sp_Form_put K c_NumberForm c_WordForm c_ChoiceForm c_TooWide c_NoValue c_TooGreat))(eV : Exc K c_NoValue) (eG : Exc K c_TooGreat) (eT : Exc K c_TooWide) (xV : W.exmOne K (.ref c_NoValue) (.ref c_PadError) = some true) (xG : W.exmOne K (.ref c_TooGreat) (.ref c_PadError) = some true) (xT : W.exmOne K (.ref c_TooWide) (.ref c_PadError) = some true) : FnOk P w K mg base CX0 7 f fd ["_law_form_here", "_law_way", "_law_value_here"] (sp_law_answer K c_NumberForm c_WordForm c_ChoiceForm c_TooWide c_NoValue c_TooGreat) := by
  refine F.ok sc_law_answer (fun vs H Q E h => ?_) (fun cdv A outer s H vs Q E hr h => ?_)
  · obtain ⟨o, way, v, wd, f, x, st, d, r, rfl, D0, V0, hw, q⟩ := h
    rfl
  obtain ⟨o, way, v, wd, f, x, st, d, r, rfl, D0, V0, hw, q⟩ := h
  refine ⟨_, pss_cons (ps_set (i := 3) sc_law_answer.nd rfl (Or.inl rfl) (pe_non))
    (pss_cons (ps_tryA2 (i := 4) rfl rfl rfl (fun _ _ _ => pss_one (ps_if (pt_cmpR op_eq (pv 1) (pe_int) (nomark _)) (pss_one (ps_set (i := 3) sc_law_answer.nd rfl (Or.inl rfl) (pe_orE (pe_methT2 M_NumberForm_core cl_NumberForm hr (pv 0) (pa_cons (pv 2) (pa_nil))) (pe_orE (pe_methT2 M_WordForm_core cl_WordForm hr (pv 0) (pa_cons (pv 2) (pa_nil))) (pe_methT2 M_ChoiceForm_core cl_ChoiceForm hr (pv 0) (pa_cons (pv 2) (pa_nil))))))) (pss_one (ps_set (i := 3) sc_law_answer.nd rfl (Or.inl rfl) (pe_orE (pe_methT2 M_NumberForm_put cl_NumberForm hr (pv 0) (pa_cons (pv 2) (pa_nil))) (pe_orE (pe_methT2 M_WordForm_put cl_WordForm hr (pv 0) (pa_cons (pv 2) (pa_nil))) (pe_methT2 M_ChoiceForm_put cl_ChoiceForm hr (pv 0) (pa_cons (pv 2) (pa_nil))))))))) rfl m_PadError sc_law_answer.nd rfl rfl (fun _ => pss_one (ps_ret (pe_tup (pa_cons (pe_str) (pa_cons (pe_callY C_law_word_of hr rfl (pa_cons (pv 4) (pa_nil))) (pa_nil)))))))
    (pss_one (ps_ret (pe_tup (pa_cons (pe_str) (pa_cons (pv 3) (pa_nil))))))), ?_⟩
  walk_at "st"
  walk_at "rd"
  have fin : ∀ (C : Addr) (sw : Str) (H2 : Hp), Same H H2 → Exc K C → W.exmOne K (.ref C) (.ref c_PadError) = some true → ((C = c_NoValue ∧ sw = "none") ∨ (C = c_TooGreat ∧ sw = "great") ∨ (C = c_TooWide ∧ sw = "wide")) → ansV way wd f x st r = [.str "refused", .str sw] → ∃ C', Value.ref C = .ref C' ∧ Exc K C' ∧ W.exmOne K (.ref C') (.ref c_PadError) = some true ∧ ∀ y, H2 y = none → tRet (tTup (tCons (tC (V.str "refused")) (tCons (tCallY (sp_law_word_of K c_NoValue c_TooGreat c_TooWide) y (tCons (tVar 4) tNil)) tNil))) { nx := fun _ _ => False, rt := Q } (([some (V.ref o), some (V.int way), some v, some V.non, none] : St).set 4 (some (.ref y))) (upd H2 y (.ext (ExC y C'))) := by
    intro C sw H2 g2 he hx hs ha
    refine ⟨C, rfl, he, hx, fun y hy => ?_⟩
    have g3 : Same H2 (upd H2 y (.ext (ExC y C))) := same_new hy _
    have ey : upd H2 y (.ext (ExC y C)) y = some (.ext (ExC y C)) := upd_same
    generalize upd H2 y (.ext (ExC y C)) = H3 at g3 ey ⊢
    walk_at "rd"
    refine r_callY ?_
    walk_at "rd"
    refine ⟨rfl, C, sw, ey, he, hs, fun H4 g4 => ?_⟩
    walk_at "rd"
    rename_i p5 H5 g5 e5
    exact q _ _ (g2.trans (g3.trans (g4.trans g5))) (by rw [ha]; exact e5)
  refine r_tryA2 [some (V.ref o), some (V.int way), some v, some V.non, none] ?_
  cases V0 with
  | @num p fg pl b sn z m pt wy u d k hp gb gc gk lim =>
    cases D0 with
    | num F0 ok =>
      walk_at "rd"
      · rename_i hc
        refine r_orL ?_
        walk_at "rd"
        refine ⟨o, _, fg, pl, b, sn, z, m, pt, wy, wd, f, x, st, rfl, F0, ok, .inl ⟨p, u, d, k, rfl, hp, gb, gc, gk, .inl ⟨lim, fun H1 g1 => ?_⟩⟩⟩
        walk_at "rd"
        rename_i p5 H5 g5 e5
        exact q _ _ (g1.trans g5) (by rw [ans0 hc]; exact e5)
      · rename_i hc
        refine r_orL ?_
        walk_at "rd"
        refine ⟨o, _, wd, f, x, st, _, _, rfl, .num F0 ok, .num hp gb gc gk lim, hw, fun H1 g1 => ?_⟩
        show (if _ then _ else _)
        split
        · rename_i hs
          exact fin _ "wide" _ g1 eT xT (.inr (.inr ⟨rfl, rfl⟩)) (ansW hc hs)
        · rename_i hs
          walk_at "rd"
          rename_i p5 H5 g5 e5
          exact q _ _ (g1.trans g5) (by rw [ansT hc hs]; exact e5)
  | @great p fg pl b sn z m pt wy u d hp gb gc lim =>
    cases D0 with
    | num F0 ok =>
      walk_at "rd"
      · rename_i hc
        refine r_orL ?_
        walk_at "rd"
        exact ⟨o, _, fg, pl, b, sn, z, m, pt, wy, wd, f, x, st, rfl, F0, ok, .inl ⟨p, u, d, _, rfl, hp, gb, gc, rfl, .inr ⟨lim, fun H1 g1 => fin _ "great" _ g1 eG xG (.inr (.inl ⟨rfl, rfl⟩)) rfl⟩⟩⟩
      · rename_i hc
        refine r_orL ?_
        walk_at "rd"
        exact ⟨o, _, wd, f, x, st, _, _, rfl, .num F0 ok, .great hp gb gc lim, hw, fun H1 g1 => fin _ "great" _ g1 eG xG (.inr (.inl ⟨rfl, rfl⟩)) rfl⟩
  | @nonum v fg pl b sn z m pt wy nf =>
    cases D0 with
    | num F0 ok =>
      walk_at "rd"
      · rename_i hc
        refine r_orL ?_
        walk_at "rd"
        exact ⟨o, _, fg, pl, b, sn, z, m, pt, wy, wd, f, x, st, rfl, F0, ok, .inr ⟨nf, fun H1 g1 => fin _ "none" _ g1 eV xV (.inl ⟨rfl, rfl⟩) rfl⟩⟩
      · rename_i hc
        refine r_orL ?_
        walk_at "rd"
        exact ⟨o, _, wd, f, x, st, _, _, rfl, .num F0 ok, .nonum nf, hw, fun H1 g1 => fin _ "none" _ g1 eV xV (.inl ⟨rfl, rfl⟩) rfl⟩
  | @word sg lo hi t h0 iw =>
    cases D0 with
    | word F0 sx =>
      walk_at "rd"
      · rename_i hc
        refine r_orR (r_orL ?_)
        walk_at "rd"
        refine ⟨o, sg, lo, hi, wd, f, x, st, _, rfl, F0, .inl ⟨t, rfl, h0, iw, fun H1 g1 => ?_⟩⟩
        walk_at "rd"
        rename_i p5 H5 g5 e5
        exact q _ _ (g1.trans g5) (by rw [ans0 hc]; exact e5)
      · rename_i hc
        refine r_orR (r_orL ?_)
        walk_at "rd"
        refine ⟨o, _, wd, f, x, st, _, _, rfl, .word F0 sx, .word h0 iw, hw, fun H1 g1 => ?_⟩
        show (if _ then _ else _)
        split
        · rename_i hs
          exact fin _ "wide" _ g1 eT xT (.inr (.inr ⟨rfl, rfl⟩)) (ansW hc hs)
        · rename_i hs
          walk_at "rd"
          rename_i p5 H5 g5 e5
          exact q _ _ (g1.trans g5) (by rw [ansT hc hs]; exact e5)
  | @noword sg lo hi v nt =>
    cases D0 with
    | word F0 sx =>
      walk_at "rd"
      · rename_i hc
        refine r_orR (r_orL ?_)
        walk_at "rd"
        exact ⟨o, sg, lo, hi, wd, f, x, st, _, rfl, F0, .inr ⟨nt, fun H1 g1 => fin _ "none" _ g1 eV xV (.inl ⟨rfl, rfl⟩) rfl⟩⟩
      · rename_i hc
        refine r_orR (r_orL ?_)
        walk_at "rd"
        exact ⟨o, _, wd, f, x, st, _, _, rfl, .word F0 sx, .noword nt, hw, fun H1 g1 => fin _ "none" _ g1 eV xV (.inl ⟨rfl, rfl⟩) rfl⟩
  | @cho L ns t h0 hm =>
    cases D0 with
    | cho F0 e0 sx =>
      walk_at "rd"
      · rename_i hc
        refine r_orR (r_orR ?_)
        walk_at "rd"
        refine ⟨o, L, ns, wd, f, x, st, _, rfl, F0, e0, .inl ⟨t, rfl, hm, fun H1 g1 => ?_⟩⟩
        walk_at "rd"
        rename_i p5 H5 g5 e5
        exact q _ _ (g1.trans g5) (by rw [ans0 hc]; exact e5)
      · rename_i hc
        refine r_orR (r_orR ?_)
        walk_at "rd"
        refine ⟨o, _, wd, f, x, st, _, _, rfl, .cho F0 e0 sx, .cho h0 hm, hw, fun H1 g1 => ?_⟩
        show (if _ then _ else _)
        split
        · rename_i hs
          exact fin _ "wide" _ g1 eT xT (.inr (.inr ⟨rfl, rfl⟩)) (ansW hc hs)
        · rename_i hs
          walk_at "rd"
          rename_i p5 H5 g5 e5
          exact q _ _ (g1.trans g5) (by rw [ansT hc hs]; exact e5)
  | @nocho L ns v nt =>
    cases D0 with
    | cho F0 e0 sx =>
      walk_at "rd"
      · rename_i hc
        refine r_orR (r_orR ?_)
        walk_at "rd"
        exact ⟨o, L, ns, wd, f, x, st, _, rfl, F0, e0, .inr ⟨nt, fun H1 g1 => fin _ "none" _ g1 eV xV (.inl ⟨rfl, rfl⟩) rfl⟩⟩
      · rename_i hc
        refine r_orR (r_orR ?_)
        walk_at "rd"
        exact ⟨o, _, wd, f, x, st, _, _, rfl, .cho F0 e0 sx, .nocho nt, hw, fun H1 g1 => fin _ "none" _ g1 eV xV (.inl ⟨rfl, rfl⟩) rfl⟩
theorem ncore_cut {pl b:Int} {sn:Str} {z:Int} {m pt:Nat} {k:Int}:ncore pl b sn z m pt k=stL sn (decide (k < 0))++nrest pl b sn z m pt k:=by unfold ncore sg nrest;rw [List.append_assoc]
theorem co1_of {K : PySem.W.Frag} {H : Hp} {o cN cW cC : Addr} {wd : Int} {f : Nat} {x : Str} {st : Bool} {d : Fd} {v : V} {ld rs : List Nat} (F : FdAt K H o cN cW cC wd f x st d) (W : VlA H v d ld rs) : ∃ d1, F1At K H o cN cW cC wd f x st d1 ∧ Co1 H d1 v (.inl (ld ++ rs, ld)) := by
  have ok := W.ok F.okS
  cases W with
  | @num p fg pl b sn z m pt wy k hv hp lim =>
    cases F with
    | num F ok =>
      have o1 := ok.fg1; have o2 := ok.fg2; have o3 := ok.pl1; have o4 := ok.pl2; have o5 := ok.b1; have o6 := ok.b2
      have pw := pw6 (b := b) (t := pl) o5 o6 o4
      have lm := lim_60 (n := (k.natAbs : Int)) o1 o2 o3 o4 o5 o6 (by omega) (by unfold LimN at *; rw [Int.natAbs_natCast]; exact lim)
      subst hv
      rw [← ncore_cut]
      exact ⟨_, .num F ok, .num hp (low_grb (by omega) (by omega) (by omega) (by omega)) (low_gcd1 (by omega)) (grid_stays (by omega)) lim⟩
  | @word sg lo hi t hv iw =>
    cases F with
    | word F o => subst hv; exact ⟨_, .word F o.x, .word (by have := ok.2.1; omega) iw⟩
  | @cho ns t hv hm =>
    cases F with
    | cho F e o => subst hv; exact ⟨_, .cho F e o.x, .cho (by have := ok.2.1; omega) hm⟩
def OddA (H:Hp) (v:V):Fd→Prop
 | .num _ _ _ _ _ _ _ _=>NF H v
 | _=>NT H v
theorem co1_odd {K:PySem.W.Frag} {H:Hp} {o cN cW cC:Addr} {wd:Int} {f:Nat} {x:Str} {st:Bool} {d:Fd} {v:V} (F:FdAt K H o cN cW cC wd f x st d) (W:OddA H v d) : ∃ d1,F1At K H o cN cW cC wd f x st d1∧Co1 H d1 v (.inr false):=by
 cases F with
 | num F ok=>exact ⟨_,.num F ok,.nonum W⟩
 | word F o=>exact ⟨_,.word F o.x,.noword W⟩
 | cho F e o=>exact ⟨_,.cho F e o.x,.nocho W⟩
theorem co1_great {K : W.Frag} {H : Hp} {o p cN cW cC : Addr} {wd : Int} {f : Nat} {x : Str} {st : Bool} {fg pl b : Int} {sn : Str} {z : Int} {m pt : Nat} {wy : Str} {k : Int} (F : FdAt K H o cN cW cC wd f x st (.num fg pl b sn z m pt wy)) (hp : H p = some (.tup [.int (low1 k (b ^ pl.toNat)), .int (low2 k (b ^ pl.toNat))])) (h1 : -1000000000000000000000000000000000000000000000000000000000000000000000000000000000000000000 < k) (h2 : k < 1000000000000000000000000000000000000000000000000000000000000000000000000000000000000000000) (lim : ¬ LimN fg pl b k) : ∃ d1, F1At K H o cN cW cC wd f x st d1 ∧ Co1 H d1 (.ref p) (.inr true) := by
  cases F with
  | num F ok =>
    have o3 := ok.pl1; have o4 := ok.pl2; have o5 := ok.b1; have o6 := ok.b2
    have pw := pw6 (b := b) (t := pl) o5 o6 o4
    exact ⟨_, .num F ok, .great hp (low_grb (by omega) (by omega) (by omega) (by omega)) (low_gcd1 (by omega)) (by rw [grid_stays (by omega)]; exact lim)⟩
def sp_law_odd (K:W.Frag):Sp:=fun vs H Q _=>∃ (c:Int) (p:Addr) (wd:Int) (f:Nat) (x:Str) (st:Bool) (d:Fd),vs=[.int c,.ref p]∧SpAt H p wd f x st d ∧ ∀ v H',Same H H'→OddA H' v d→Q v H'
theorem c_odd {K:W.Frag} {c:Int} {p:Addr} {wd:Int} {f:Nat} {x:Str} {st:Bool} {d:Fd} {H:Hp} {Q:VK} {E:XK} (h1:SpAt H p wd f x st d) (q : ∀ v H',Same H H'→OddA H' v d→Q v H'):sp_law_odd K ([.int c,.ref p]++[]) H Q E:=⟨c,p,wd,f,x,st,d,rfl,h1,q⟩
theorem ok_law_odd {f : Addr} {fd : FuncData} (F : Fun K "_law_odd" "_law_odd" s_law_odd f fd) (B : Blt mg) (C_law_pick : Has P w K mg base "_law_pick" 1 ["_law_cell", "_law_salt", "_law_many"] (sp_law_pick K)) : FnOk P w K mg base CX0 2 f fd ["_law_cell", "_law_spec_here"] (sp_law_odd K) := by
  refine F.ok sc_law_odd (fun vs H Q E h => ?_) (fun cdv A outer s H vs Q E hr h => ?_)
  · obtain ⟨c, p, wd, f, x, st, d, rfl, D0, q⟩ := h
    rfl
  obtain ⟨c, p, wd, f, x, st, d, rfl, D0, q⟩ := h
  refine ⟨_, pss_cons (ps_set (i := 2) sc_law_odd.nd rfl (Or.inl rfl) (pe_lst (pa_cons (pe_non) (pa_cons (pe_bl) (pa_cons (pe_bl) (pa_cons (pe_int) (pa_cons (pe_int) (pa_cons (pe_un un_neg (pe_int)) (pa_cons (pe_lst (pa_nil)) (pa_cons (pe_lst (pa_cons (pe_strT (l := [97]) (by decide +kernel)) (pa_nil))) (pa_cons (pe_dct0) (pa_cons (pe_tup (pa_cons (pe_strT (l := [97]) (by decide +kernel)) (pa_nil))) (pa_cons (pe_tup (pa_nil)) (pa_cons (pe_tup (pa_cons (pe_int) (pa_nil))) (pa_cons (pe_tup (pa_cons (pe_int) (pa_cons (pe_int) (pa_nil)))) (pa_cons (pe_tup (pa_cons (pe_int) (pa_cons (pe_int) (pa_nil)))) (pa_cons (pe_tup (pa_cons (pe_int) (pa_cons (pe_un un_neg (pe_int)) (pa_nil)))) (pa_cons (pe_tup (pa_cons (pe_int) (pa_cons (pe_int) (pa_cons (pe_int) (pa_nil))))) (pa_cons (pe_lst (pa_cons (pe_int) (pa_cons (pe_int) (pa_nil)))) (pa_nil) se_List) se_Tuple) se_Tuple) se_Tuple) se_Tuple) se_Tuple) se_Tuple) se_Tuple) se_Dict) se_List) se_List) se_UnaryOp) se_Constant) se_Constant) se_Constant) se_Constant) se_Constant)))
    (pss_cons (ps_set (i := 2) sc_law_odd.nd rfl (Or.inl rfl) (pe_op op_cat (pv 2) (pe_lst (pa_cons (pe_tup (pa_cons (pe_bl) (pa_cons (pe_int) (pa_nil)))) (pa_cons (pe_tup (pa_cons (pe_int) (pa_cons (pe_bl) (pa_nil)))) (pa_cons (pe_tup (pa_cons (pe_strT (l := [49]) (by decide +kernel)) (pa_cons (pe_strT (l := [50]) (by decide +kernel)) (pa_nil)))) (pa_cons (pe_tup (pa_cons (pe_int) (pa_cons (pe_int) (pa_nil)))) (pa_cons (pe_tup (pa_cons (pe_un un_neg (pe_int)) (pa_cons (pe_int) (pa_nil)))) (pa_nil)))))))))
    (pss_cons (ps_if (pt_cmpR op_eq (pe_ix ix_tup (pv 1) (pe_int) (fun _ _ => rfl)) (pe_str) (nomark _)) (pss_one (ps_ret (pe_ix ix_list (pe_op op_cat (pv 2) (pe_lst (pa_cons (pe_strT (l := []) (by decide +kernel)) (pa_cons (pe_strT (l := [49]) (by decide +kernel)) (pa_cons (pe_str) (pa_cons (pe_str) (pa_nil))))))) (pe_callH C_law_pick hr rfl (pa_cons (pv 0) (pa_cons (pe_int) (pa_cons (pe_int) (pa_nil))))) (fun _ _ => rfl)))) (pss_nil))
    (pss_one (ps_ret (pe_ix ix_list (pe_op op_cat (pv 2) (pe_lst (pa_cons (pe_tup (pa_cons (pe_int) (pa_cons (pe_int) (pa_nil)))) (pa_cons (pe_tup (pa_cons (pe_int) (pa_cons (pe_int) (pa_nil)))) (pa_cons (pe_tup (pa_cons (pe_un un_neg (pe_int)) (pa_cons (pe_int) (pa_nil)))) (pa_cons (pe_tup (pa_cons (pe_powK (k := 100000000000000000000) (by unfold CPow; decide) (by decide +kernel)) (pa_cons (pe_int) (pa_nil)))) (pa_nil))))))) (pe_callH C_law_pick hr rfl (pa_cons (pv 0) (pa_cons (pe_int) (pa_cons (pe_int) (pa_nil))))) (fun _ _ => rfl)))))), ?_⟩
  walk_at "st"
  walk_at "rd"
  rename_i p1 H1 g1 n1 e1 p2 H2 g2 n2 e2 p3 H3 g3 e3 p4 H4 g4 e4 p5 H5 g5 e5 p6 H6 g6 e6 p7 H7 g7 e7 p8 H8 g8 e8 p9 H9 g9 e9 p10 H10 g10 e10 p11 H11 g11 n11 e11 pL HL gL nL eL q1 G1 i1 f1 q2 G2 i2 f2 q3 G3 i3 f3 q4 G4 i4 f4 q5 G5 i5 f5 pM HM gM nM eM
  clear n1 n2 n11 nL nM
  have eL' : HM pL = some (.lst [V.non, V.bl true, V.bl false, V.int 5, V.int 0, V.int (-1), V.ref p1, V.ref p2, V.ref p3, V.ref p4, V.ref p5, V.ref p6, V.ref p7, V.ref p8, V.ref p9, V.ref p10, V.ref p11]) := by walk_at "hp"
  have nf : ∀ y ∈ [V.non, V.bl true, V.bl false, V.int 5, V.int 0, V.int (-1), V.ref p1, V.ref p2, V.ref p3, V.ref p4, V.ref p5, V.ref p6, V.ref p7, V.ref p8, V.ref p9, V.ref p10, V.ref p11] ++ [V.ref q1, V.ref q2, V.ref q3, V.ref q4, V.ref q5], NF HM y ∧ NT HM y := by
    intro y hy
    simp only [List.mem_append, List.mem_cons, List.not_mem_nil, or_false] at hy
    rcases hy with (rfl | rfl | rfl | rfl | rfl | rfl | rfl | rfl | rfl | rfl | rfl | rfl | rfl | rfl | rfl | rfl | rfl) | (rfl | rfl | rfl | rfl | rfl)
    · exact ⟨.non, .non⟩
    · exact ⟨.bl _, .bl _⟩
    · exact ⟨.bl _, .bl _⟩
    · exact ⟨.int _, .int _⟩
    · exact ⟨.int _, .int _⟩
    · exact ⟨.int _, .int _⟩
    · have z : HM p1 = some (.lst (tsV [])) := by walk_at "hp"
      exact ⟨.lst z, .lst z⟩
    · have z : HM p2 = some (.lst (tsV [[97]])) := by walk_at "hp"
      exact ⟨.lst z, .lst z⟩
    · have z : HM p3 = some (dctO p3) := by walk_at "hp"
      exact ⟨.dct z, .dct z⟩
    · have z : HM p4 = some (.tup [V.str (T [97])]) := by walk_at "hp"
      exact ⟨.len z (by simp), .tup z⟩
    · have z : HM p5 = some (.tup []) := by walk_at "hp"
      exact ⟨.len z (by simp), .tup z⟩
    · have z : HM p6 = some (.tup [V.int 1]) := by walk_at "hp"
      exact ⟨.len z (by simp), .tup z⟩
    · have z : HM p7 = some (.tup [V.int 2, V.int 4]) := by walk_at "hp"
      exact ⟨.bad z (.inr (by decide)), .tup z⟩
    · have z : HM p8 = some (.tup [V.int 1, V.int 0]) := by walk_at "hp"
      exact ⟨.bad z (.inl (by decide)), .tup z⟩
    · have z : HM p9 = some (.tup [V.int 1, V.int (-2)]) := by walk_at "hp"
      exact ⟨.bad z (.inl (by decide)), .tup z⟩
    · have z : HM p10 = some (.tup [V.int 1, V.int 2, V.int 3]) := by walk_at "hp"
      exact ⟨.len z (by simp), .tup z⟩
    · have z : HM p11 = some (.lst [V.int 1, V.int 2]) := by walk_at "hp"
      exact ⟨.lst z, .lst z⟩
    · have z : HM q1 = some (.tup [V.bl true, V.int 1]) := by walk_at "hp"
      exact ⟨.top z (.bl _), .tup z⟩
    · have z : HM q2 = some (.tup [V.int 1, V.bl true]) := by walk_at "hp"
      exact ⟨.bot z (.bl _), .tup z⟩
    · have z : HM q3 = some (.tup [V.str (T [49]), V.str (T [50])]) := by walk_at "hp"
      exact ⟨.top z (.str _), .tup z⟩
    · have z : HM q4 = some (.tup [V.int 0, V.int 2]) := by walk_at "hp"
      exact ⟨.bad z (.inr (by decide)), .tup z⟩
    · have z : HM q5 = some (.tup [V.int (-3), V.int 3]) := by walk_at "hp"
      exact ⟨.bad z (.inr (by decide)), .tup z⟩
  have gg : Same H HM := by walk_at "sm"
  refine r_cat eL' eM (small (by simp only [List.length_cons, List.length_nil]; decide)) fun r HR gR eR => ?_
  have l0 : ([V.non, V.bl true, V.bl false, V.int 5, V.int 0, V.int (-1), V.ref p1, V.ref p2, V.ref p3, V.ref p4, V.ref p5, V.ref p6, V.ref p7, V.ref p8, V.ref p9, V.ref p10, V.ref p11] ++ [V.ref q1, V.ref q2, V.ref q3, V.ref q4, V.ref q5]).length = 22 := rfl
  clear g1 e1 g2 e2 g3 e3 g4 e4 g5 e5 g6 e6 g7 e7 g8 e8 g9 e9 g10 e10 g11 e11 gL eL i1 f1 i2 f2 i3 f3 i4 f4 i5 f5 gM eM eL'
  generalize [V.non, V.bl true, V.bl false, V.int 5, V.int 0, V.int (-1), V.ref p1, V.ref p2, V.ref p3, V.ref p4, V.ref p5, V.ref p6, V.ref p7, V.ref p8, V.ref p9, V.ref p10, V.ref p11] ++ [V.ref q1, V.ref q2, V.ref q3, V.ref q4, V.ref q5] = L0 at nf l0 eR
  have gr := gg.trans gR
  have nr : ∀ y ∈ L0, NF HR y ∧ NT HR y := fun y hy => ⟨(nf y hy).1.same gR, (nf y hy).2.same gR⟩
  clear nf gR gg
  cases D0 with
  | num e ok =>
    walk_at "rd"
    rename_i pt Ht gt nt et
    refine r_cat (gt.at eR) et (small (by rw [l0]; simp only [List.length_cons, List.length_nil]; decide)) fun r2 H2 g2 e2 => ?_
    walk_at "rd"
    rename_i v' h0 h1
    refine r_ixAll (SqL.of e2) h0 (by rw [List.length_append, l0]; exact h1) fun y hi => ?_
    refine q _ _ (gr.trans (gt.trans g2)) ?_
    rcases List.mem_append.mp (List.mem_of_getElem? hi) with h | h
    · exact (nr y h).1.same (gt.trans g2)
    · simp only [List.mem_cons, List.not_mem_nil, or_false] at h
      rcases h with rfl | rfl | rfl | rfl <;> exact NF.str _
  | word e ok =>
    walk_at "rd"
    rename_i a1 A1 b1 d1 a2 A2 b2 d2 a3 A3 b3 d3 a4 A4 b4 d4 pt Ht gt nt et
    have gt' : Same HR Ht := b1.trans (b2.trans (b3.trans (b4.trans gt)))
    refine r_cat (gt'.at eR) et (small (by rw [l0]; simp only [List.length_cons, List.length_nil]; decide)) fun r2 H2 g2 e2 => ?_
    walk_at "rd"
    rename_i v' h0 h1
    refine r_ixAll (SqL.of e2) h0 (by rw [List.length_append, l0]; exact h1) fun y hi => ?_
    refine q _ _ (gr.trans (gt'.trans g2)) ?_
    rcases List.mem_append.mp (List.mem_of_getElem? hi) with h | h
    · exact (nr y h).2.same (gt'.trans g2)
    · simp only [List.mem_cons, List.not_mem_nil, or_false] at h
      rcases h with rfl | rfl | rfl | rfl
      · exact NT.tup (g2.at (gt.at (b4.at (b3.at (b2.at d1)))))
      · exact NT.tup (g2.at (gt.at (b4.at (b3.at d2))))
      · exact NT.tup (g2.at (gt.at (b4.at d3)))
      · exact NT.tup (g2.at (gt.at d4))
  | cho e eL ok =>
    walk_at "rd"
    rename_i a1 A1 b1 d1 a2 A2 b2 d2 a3 A3 b3 d3 a4 A4 b4 d4 pt Ht gt nt et
    have gt' : Same HR Ht := b1.trans (b2.trans (b3.trans (b4.trans gt)))
    refine r_cat (gt'.at eR) et (small (by rw [l0]; simp only [List.length_cons, List.length_nil]; decide)) fun r2 H2 g2 e2 => ?_
    walk_at "rd"
    rename_i v' h0 h1
    refine r_ixAll (SqL.of e2) h0 (by rw [List.length_append, l0]; exact h1) fun y hi => ?_
    refine q _ _ (gr.trans (gt'.trans g2)) ?_
    rcases List.mem_append.mp (List.mem_of_getElem? hi) with h | h
    · exact (nr y h).2.same (gt'.trans g2)
    · simp only [List.mem_cons, List.not_mem_nil, or_false] at h
      rcases h with rfl | rfl | rfl | rfl
      · exact NT.tup (g2.at (gt.at (b4.at (b3.at (b2.at d1)))))
      · exact NT.tup (g2.at (gt.at (b4.at (b3.at d2))))
      · exact NT.tup (g2.at (gt.at (b4.at d3)))
      · exact NT.tup (g2.at (gt.at d4))
def sp_law_too_great (K:W.Frag):Sp:=fun vs H Q _=>∃ (c:Int) (p:Addr) (wd:Int) (f:Nat) (x:Str) (st:Bool) (fg pl b:Int) (sn:Str) (z:Int) (m pt:Nat) (wy:Str),vs=[.int c,.ref p]∧SpAt H p wd f x st (.num fg pl b sn z m pt wy) ∧ ∀ p' H' (k:Int),Same H H'→H' p'=some (.tup [.int (low1 k (b ^ pl.toNat)),.int (low2 k (b ^ pl.toNat))]) → -1000000000000000000000000000000000000000000000000000000000000000000000000000000000000000000 < k→k < 1000000000000000000000000000000000000000000000000000000000000000000000000000000000000000000 → ¬ LimN fg pl b k→Q (.ref p') H'
theorem c_tgreat {K:W.Frag} {c:Int} {p:Addr} {wd:Int} {f:Nat} {x:Str} {st:Bool} {fg pl b:Int} {sn:Str} {z:Int} {m pt:Nat} {wy:Str} {H:Hp} {Q:VK} {E:XK} (h1:SpAt H p wd f x st (.num fg pl b sn z m pt wy)) (q : ∀ p' H' (k:Int),Same H H'→H' p'=some (.tup [.int (low1 k (b ^ pl.toNat)),.int (low2 k (b ^ pl.toNat))]) → -1000000000000000000000000000000000000000000000000000000000000000000000000000000000000000000 < k→k < 1000000000000000000000000000000000000000000000000000000000000000000000000000000000000000000 → ¬ LimN fg pl b k→Q (.ref p') H'):sp_law_too_great K ([.int c,.ref p]++[]) H Q E:=⟨c,p,wd,f,x,st,fg,pl,b,sn,z,m,pt,wy,rfl,h1,q⟩
theorem ok_law_too_great {f : Addr} {fd : FuncData} (F : Fun K "_law_too_great" "_law_too_great" s_law_too_great f fd) (B : Blt mg) (C_law_power : Has P w K mg base "_law_power" 1 ["_law_base", "_law_times"] (sp_law_power K)) (C_law_lowest : Has P w K mg base "_law_lowest" 2 ["_law_top", "_law_bottom"] (sp_law_lowest K)) (C_law_pick : Has P w K mg base "_law_pick" 1 ["_law_cell", "_law_salt", "_law_many"] (sp_law_pick K)) (C_law_great : Has P w K mg base "_law_great" 1 ["_law_cell", "_law_at", "_law_limit"] (sp_law_great K)) : FnOk P w K mg base CX0 3 f fd ["_law_cell", "_law_spec_here"] (sp_law_too_great K) := by
  refine F.ok sc_law_too_great (fun vs H Q E h => ?_) (fun cdv A outer s H vs Q E hr h => ?_)
  · obtain ⟨c, p, wd, f, x, st, fg, pl, b, sn, z, m, pt, wy, rfl, D0, q⟩ := h
    rfl
  obtain ⟨c, p, wd, f, x, st, fg, pl, b, sn, z, m, pt, wy, rfl, D0, q⟩ := h
  refine ⟨_, pss_cons (ps_set (i := 2) sc_law_too_great.nd rfl (Or.inl rfl) (pe_callH C_law_power hr rfl (pa_cons (pe_ix ix_tup (pv 1) (pe_int) (fun _ _ => rfl)) (pa_cons (pe_ix ix_tup (pv 1) (pe_int) (fun _ _ => rfl)) (pa_nil)))))
    (pss_cons (ps_set (i := 3) sc_law_too_great.nd rfl (Or.inl rfl) (pe_op op_mulA (pe_callH C_law_power hr rfl (pa_cons (pe_ix ix_tup (pv 1) (pe_int) (fun _ _ => rfl)) (pa_cons (pe_ix ix_tup (pv 1) (pe_int) (fun _ _ => rfl)) (pa_nil)))) (pv 2)))
    (pss_cons (ps_set (i := 4) sc_law_too_great.nd rfl (Or.inl rfl) (pe_ix ix_list (pe_lst (pa_cons (pe_int) (pa_cons (pe_int) (pa_cons (pv 3) (pa_cons (pe_callH C_law_great hr rfl (pa_cons (pv 0) (pa_cons (pe_int) (pa_cons (pe_powK (k := 10000000000000000000000000000000000000000000000000000000000) (by unfold CPow; decide) (by decide +kernel)) (pa_nil))))) (pa_nil)))))) (pe_callH C_law_pick hr rfl (pa_cons (pv 0) (pa_cons (pe_int) (pa_cons (pe_int) (pa_nil))))) (fun _ _ => rfl)))
    (pss_one (ps_ret (pe_callH C_law_lowest hr rfl (pa_cons (pe_op op_mulA (pe_op op_add (pv 3) (pv 4)) (pe_ix ix_list (pe_lst (pa_cons (pe_int) (pa_cons (pe_un un_neg (pe_int)) (pa_nil)))) (pe_callH C_law_pick hr rfl (pa_cons (pv 0) (pa_cons (pe_int) (pa_cons (pe_int) (pa_nil))))) (fun _ _ => rfl))) (pa_cons (pv 2) (pa_nil)))))))), ?_⟩
  walk_at "st"
  cases D0 with
  | num e ok =>
    have o1 := ok.fg1; have o2 := ok.fg2; have o3 := ok.pl1; have o4 := ok.pl2; have o5 := ok.b1; have o6 := ok.b2
    have pw := pw6 (b := b) (t := pl) o5 o6 o4
    have pf := pw60 (b := b) (n := fg.toNat) o5 o6 (by omega)
    have pe : b ^ fg.toNat * b ^ pl.toNat = b ^ (fg + pl).toNat := by rw [← Int.pow_add, Int.toNat_add (by omega) o3]
    have pL := pw_bd o5 o6 (fg + pl).toNat
    have pM := pw_mono (n := (fg + pl).toNat) (m := 18) (by omega)
    have p18 : (16 : Int) ^ 18 = 4722366482869645213696 := by decide
    have pn : ((b.toNat ^ (fg + pl).toNat : Nat) : Int) = b ^ (fg + pl).toNat := by rw [Int.natCast_pow, Int.toNat_of_nonneg (by omega)]
    walk_at "rd"
    rename_i v1 a0 a1 p1 H1 g1 n1 e1 v0 b0 b1
    rw [pe] at e1 ⊢
    refine r_ixInt (fun k => 0 ≤ k ∧ k < 100000000000000000000000000000000000000000000000000000000000) e1 b0 (by show _ < (4 : Int); omega) (by simp only [List.mem_cons, List.not_mem_nil, or_false]; rintro v (rfl | rfl | rfl | rfl) <;> exact ⟨_, rfl, by omega, by omega⟩) fun k hk => ?_
    clear e1 e a1 b1
    have fin : ∀ (E' : XK) (N : Int) (H2 : Hp), Same H H2 → (N = b ^ (fg + pl).toNat + k ∨ N = -(b ^ (fg + pl).toNat + k)) → sp_law_lowest K ([.int N, .int (b ^ pl.toNat)] ++ []) H2 Q E' := by
      intro E' N H2 g2 hN
      refine c_lowest (by omega) (by omega) fun p2 H3 g3 e3 => ?_
      exact q _ _ N (g2.trans g3) e3 (by omega) (by omega) (by unfold LimN; omega)
    walk_at "rd"
    all_goals exact fin _ _ _ (g1.trans (by assumption)) (by omega)
def sp_law (K:W.Frag):Sp:=fun vs H Q _=>∃ (a:Addr) (ns:List Int),vs=[.ref a]∧SqL K H a (ns.map V.int)∧ns.length≤63 ∧ ∀ H',Q (.bl true) H'
theorem len0 {α:Type} {P:List α→Prop} (h:P []) : ∀ us:List α,us.length=0→P us
 | [],_=>h
theorem lenS {α:Type} {P:List α→Prop} {n:Nat} (h : ∀ (a:α) (us:List α),us.length=n→P (a::us)) : ∀ us:List α,us.length=n+1→P us
 | a::us,e=>h a us (Nat.succ.inj e)
theorem c_answer {K:W.Frag} {cN cW cC cT cV cG o:Addr} {way:Int} {v:V} {wd:Int} {f:Nat} {x:Str} {st:Bool} {r:List Nat × List Nat ⊕ Bool} {H:Hp} {Q:VK} {E:XK} (h1 : ∃ d1,F1At K H o cN cW cC wd f x st d1∧Co1 H d1 v r) (hw:wd≤40) (q : ∀ p H',Same H H'→H' p=some (.tup (ansV way wd f x st r))→Q (.ref p) H'):sp_law_answer K cN cW cC cT cV cG ([.ref o,.int way,v]++[]) H Q E:=let ⟨d1,a,b⟩:=h1;⟨o,way,v,wd,f,x,st,d1,r,rfl,a,b,hw,q⟩
theorem OddA.same {H H':Hp} {v:V} {d:Fd} (g:Same H H') (h:OddA H v d):OddA H' v d:=by
 cases d with
 | num=>exact NF.same h g
 | word=>exact NT.same h g
 | cho=>exact NT.same h g
def knd:Fd→Str
 | .num _ _ _ _ _ _ _ _ => "number"
 | .word _ _ _ => "word"
 | .cho _ => "choice"
theorem sp_0 {K:W.Frag} {H:Hp} {p:Addr} {wd:Int} {f:Nat} {x:Str} {st:Bool} {d:Fd} {Q:VK} (S:SpAt H p wd f x st d) (q:Q (.str (knd d)) H):rIxT K (.ref p) (.int 0) H Q:=by
 cases S with
 | num e=>exact r_ixT e rfl q
 | word e=>exact r_ixT e rfl q
 | cho e=>exact r_ixT e rfl q
theorem ok_law {f : Addr} {fd : FuncData} (F : Fun K "law" "law" s_law f fd) (B : Blt mg) {c_NumberForm : Addr} {c_WordForm : Addr} {c_ChoiceForm : Addr} {c_TooWide : Addr} {c_NoValue : Addr} {c_TooGreat : Addr} (C_law_spec : Has P w K mg base "_law_spec" 4 ["_law_script", "_law_small"] (sp_law_spec K)) (C_law_form : Has P w K mg base "_law_form" 5 ["_law_spec_here"] (sp_law_form K c_NumberForm c_WordForm c_ChoiceForm)) (C_law_cell_at : Has P w K mg base "_law_cell_at" 1 ["_law_script", "_law_k"] (sp_law_cell_at K)) (C_law_value : Has P w K mg base "_law_value" 3 ["_law_cell", "_law_spec_here"] (sp_law_value K)) (C_law_text : Has P w K mg base "_law_text" 5 ["_law_value_here", "_law_spec_here"] (sp_law_text K)) (C_law_odd : Has P w K mg base "_law_odd" 2 ["_law_cell", "_law_spec_here"] (sp_law_odd K)) (C_law_answer : Has P w K mg base "_law_answer" 7 ["_law_form_here", "_law_way", "_law_value_here"] (sp_law_answer K c_NumberForm c_WordForm c_ChoiceForm c_TooWide c_NoValue c_TooGreat)) (C_law_too_great : Has P w K mg base "_law_too_great" 3 ["_law_cell", "_law_spec_here"] (sp_law_too_great K)) (C_law_parts_of : Has P w K mg base "_law_parts_of" 4 ["_law_value_here", "_law_spec_here"] (sp_law_parts_of K)) : FnOk P w K mg base CX0 8 f fd ["_law_script"] (sp_law K) := by
  refine F.ok sc_law (fun vs H Q E h => ?_) (fun cdv A outer s H vs Q E hr h => ?_)
  · obtain ⟨a, ns, rfl, hS, h63, k⟩ := h
    rfl
  obtain ⟨a, ns, rfl, hS, h63, k⟩ := h
  refine ⟨_, pss_cons (ps_set (i := 1) sc_law.nd rfl (Or.inl rfl) (pe_callH C_law_spec hr rfl (pa_cons (pv 0) (pa_cons (pe_int) (pa_nil)))))
    (pss_cons (ps_set (i := 2) sc_law.nd rfl (Or.inl rfl) (pe_callH C_law_form hr rfl (pa_cons (pv 1) (pa_nil))))
    (pss_cons (ps_for PassesOwn.never rfl (pi_range2 rfl B.z_range (pa_cons (pe_int) (pa_cons (pe_callBH (call_max2N rfl) B.z_max rfl bo_max (pa_cons (pe_int) (pa_cons (pe_callBH (call_min2N rfl) B.z_min rfl bo_min (pa_cons (pe_callBH call_lenN B.z_len rfl bo_len (pa_cons (pv 0) (pa_nil))) (pa_cons (pe_int) (pa_nil)))) (pa_nil)))) (pa_nil)))) (pg_name (i := 3) sc_law.nd rfl (Or.inl rfl)) (pss_cons (ps_set (i := 4) sc_law.nd rfl (Or.inl rfl) (pe_callH C_law_cell_at hr rfl (pa_cons (pv 0) (pa_cons (pv 3) (pa_nil)))))
    (pss_cons (ps_set (i := 5) sc_law.nd rfl (Or.inl rfl) (pe_callH C_law_value hr rfl (pa_cons (pv 4) (pa_cons (pv 1) (pa_nil)))))
    (pss_cons (ps_set (i := 6) sc_law.nd rfl (Or.inl rfl) (pe_callH C_law_text hr rfl (pa_cons (pv 5) (pa_cons (pv 1) (pa_nil)))))
    (pss_cons (ps_set (i := 7) sc_law.nd rfl (Or.inl rfl) (pe_tup (pa_cons (pe_str) (pa_cons (pv 6) (pa_nil)))))
    (pss_cons (ps_if (pt_cmpR op_isN2 (pv 6) (pe_non) (nomark _)) (pss_one (ps_set (i := 7) sc_law.nd rfl (Or.inl rfl) (pe_tup (pa_cons (pe_str) (pa_cons (pe_str) (pa_nil)))))) (pss_nil))
    (pss_cons (ps_set (i := 8) sc_law.nd rfl (Or.inl rfl) (pe_callH C_law_odd hr rfl (pa_cons (pv 4) (pa_cons (pv 1) (pa_nil)))))
    (pss_cons (ps_for PassesOwn.never rfl (pi_range1 rfl B.z_range (pa_cons (pe_int) (pa_nil))) (pg_name (i := 9) sc_law.nd rfl (Or.inl rfl)) (pss_cons (ps_if (pt_cmpR (op_neT (hu_lt hr)) (pe_callH C_law_answer hr rfl (pa_cons (pv 2) (pa_cons (pv 9) (pa_cons (pv 8) (pa_nil))))) (pe_tup (pa_cons (pe_str) (pa_cons (pe_str) (pa_nil)))) (nomark _)) (pss_one (ps_ret (pe_bl))) (pss_nil))
    (pss_one (ps_if (pt_cmpR op_eq (pe_ix ix_tup (pv 1) (pe_int) (fun _ _ => rfl)) (pe_str) (nomark _)) (pss_cons (ps_set (i := 10) sc_law.nd rfl (Or.inl rfl) (pe_callH C_law_too_great hr rfl (pa_cons (pv 4) (pa_cons (pv 1) (pa_nil)))))
    (pss_one (ps_if (pt_cmpR (op_neT (hu_lt hr)) (pe_callH C_law_answer hr rfl (pa_cons (pv 2) (pa_cons (pv 9) (pa_cons (pv 10) (pa_nil))))) (pe_tup (pa_cons (pe_str) (pa_cons (pe_str) (pa_nil)))) (nomark _)) (pss_one (ps_ret (pe_bl))) (pss_nil)))) (pss_nil)))))
    (pss_cons (ps_if (pt_cmpR (op_neT (hu_lt hr)) (pe_callH C_law_answer hr rfl (pa_cons (pv 2) (pa_cons (pe_int) (pa_cons (pv 5) (pa_nil))))) (pe_tup (pa_cons (pe_str) (pa_cons (pe_bm PySem.F.plainAttrs_str PySem.F.slot_str_join PySem.F.type_str_join mt_joinQ (pe_strT (l := []) (by decide +kernel)) (pa_cons (pe_callH C_law_parts_of hr rfl (pa_cons (pv 5) (pa_cons (pv 1) (pa_nil)))) (pa_nil))) (pa_nil)))) (nomark _)) (pss_one (ps_ret (pe_bl))) (pss_nil))
    (pss_one (ps_if (pt_cmpR (op_neT (hu_lt hr)) (pe_callH C_law_answer hr rfl (pa_cons (pv 2) (pa_cons (pe_int) (pa_cons (pv 5) (pa_nil))))) (pv 7) (nomark _)) (pss_one (ps_ret (pe_bl))) (pss_nil))))))))))))
    (pss_one (ps_ret (pe_bl))))), ?_⟩
  walk_at "st"
  walk_at "rd"
  refine c_spec hS h63 fun p H1 wd f x st d g1 S1 => ?_
  have hS1 := g1.seq hS
  walk_at "rd"
  refine c_form S1 fun o H2 g2 F2 => ?_
  have hS2 := g2.seq hS1
  have S2 := S1.same g2
  clear hS hS1 S1
  walk_at "rd"
  rename_i k1 hk1 k0 hk0
  rw [List.length_map] at hk1
  refine r_kForR2 (by omega) (fun i σ H' => Same H2 H' ∧ ∃ (r1 r2 r3 r4 r5 r6 r7 r8 : Option V), σ = [some (.ref a), some (.ref p), some (.ref o), r1, r2, r3, r4, r5, r6, r7, r8]) ⟨Same.refl _, none, none, none, none, none, none, none, none, rfl⟩ ?_ ?_
  · rintro i σ HA hlt ⟨gA, r1, r2, r3, r4, r5, r6, r7, r8, rfl⟩
    have hSA := gA.seq hS2
    walk_at "rd"
    refine c_value (S2.same gA) fun v HB ld rs gB VB => ?_
    have gAB := gA.trans gB
    obtain ⟨l1, l2, a1, a2⟩ := VB.ok S2.okS
    obtain ⟨sx, w0, w1, hf⟩ := S2.bd
    walk_at "rd"
    refine c_text (S2.same gAB) VB fun HC gC => ?_
    walk_at "rd"
    rename_i v' pd Ht gt et
    by_cases nw : (st && decide (wd < ((ld ++ rs).length : Int))) = true
    · rw [show txV wd f x st ld rs = .non from if_pos nw] at et ⊢
      refine r_isNN ?_
      walk_at "rd"
      rename_i pd HD gd ed0
      have gD : Same HB HD := gC.trans (gt.trans gd)
      have ed : HD pd = some (.tup (ansV 1 wd f x st (.inl (ld ++ rs, ld)))) := by rw [ansW (by decide) nw]; exact ed0
      clear ed0 et
      refine c_odd (S2.same (gAB.trans gD)) fun ov HE gE OE => ?_
      have gAE := gAB.trans (gD.trans gE)
      have eE := gE.at ed
      have SE := S2.same gAE
      have FE := F2.same gAE
      have VE := VB.same (gD.trans gE)
      clear ed
      walk_at "rd"
      refine r_kForR (by decide) (by decide) (fun j σ H' => Same HE H' ∧ ∃ (r7 r8 : Option V), σ = [some (.ref a), some (.ref p), some (.ref o), some (.int (3 + i)), some (.int v'), some v, some .non, some (.ref pd), some ov, r7, r8]) ⟨Same.refl _, _, _, rfl⟩ ?_ ?_
      · rintro j σ HF hj ⟨gF, r7, r8, rfl⟩
        walk_at "rd"
        refine c_answer (co1_odd (FE.same gF) (OE.same gF)) w1 fun p5 H5 g5 e5 => ?_
        walk_at "rd"
        rename_i p6 H6 g6 e6
        have gF6 := gF.trans (g5.trans g6)
        clear e5 e6
        refine sp_0 (SE.same gF6) ?_
        walk_at "rd"
        · rename_i hc
          cases d with
          | num fg pl b sn z m pt wy =>
            refine c_tgreat (SE.same gF6) fun p7 H7 N g7 e7 n1 n2 n3 => ?_
            walk_at "rd"
            refine c_answer (co1_great (FE.same (gF6.trans g7)) e7 n1 n2 n3) w1 fun p8 H8 g8 e8 => ?_
            walk_at "rd"
            exact ⟨by have := gF6.trans (g7.trans g8); walk_at "sm", _, _, rfl⟩
          | word => exact absurd (show ("word" : Str) = "number" from hc) (by decide +kernel)
          | cho => exact absurd (show ("choice" : Str) = "number" from hc) (by decide +kernel)
        · exact ⟨gF6, _, _, rfl⟩
      · rintro σ HF ⟨gF, r7, r8, rfl⟩
        walk_at "rd"
        refine c_answer (co1_of (FE.same gF) (VE.same gF)) w1 fun p5 H5 g5 e5 => ?_
        have e5' : H5 p5 = some (.tup [.str "told", .str (T (ld ++ rs))]) := by rw [← ans0 (wd := wd) (f := f) (x := x) (st := st) (ld := ld) (rfl : (0 : Int) = 0)]; exact e5
        clear e5
        walk_at "rd"
        have gF5 := gF.trans g5
        refine c_parts_of' (SE.same gF5) (VE.same gF5) fun q6 H6 g6 e6 => ?_
        walk_at "rd"
        refine r_joinQ (xs := [ld, rs]) e6 (by show (ld ++ (rs ++ [])).length + 2 * 0 ≤ _; rw [List.append_nil, List.length_append]; omega) ?_
        rw [show jn (Lt (T [])) [ld, rs] = ld ++ rs by rw [show Lt (T []) = [] from rfl, jn_nil]; show ld ++ (rs ++ []) = _; rw [List.append_nil]]
        have e56 := g6.at e5'
        clear e5' e6
        walk_at "rd"
        rename_i p7 H7 g7 e7
        have gF7 := gF5.trans (g6.trans g7)
        clear e56 e7
        refine c_answer (co1_of (FE.same gF7) (VE.same gF7)) w1 fun p8 H8 g8 e8 => ?_
        have e8' := e8
        have eD := (gF7.trans g8).at eE
        rw [ansW (by decide) nw] at e8' eD
        clear e8 eE
        walk_at "rd"
        exact ⟨gAE.trans (gF7.trans g8), _, _, _, _, _, _, _, _, rfl⟩
    · rw [show txV wd f x st ld rs = .str (T (nfil ld (ld ++ rs) wd f x)) from if_neg nw] at et ⊢
      refine r_isNS ?_
      walk_at "rd"
      have gD : Same HB Ht := gC.trans gt
      have ed : Ht pd = some (.tup (ansV 1 wd f x st (.inl (ld ++ rs, ld)))) := by rw [ansT (by decide) nw]; exact et
      clear et
      refine c_odd (S2.same (gAB.trans gD)) fun ov HE gE OE => ?_
      have gAE := gAB.trans (gD.trans gE)
      have eE := gE.at ed
      have SE := S2.same gAE
      have FE := F2.same gAE
      have VE := VB.same (gD.trans gE)
      clear ed
      walk_at "rd"
      refine r_kForR (by decide) (by decide) (fun j σ H' => Same HE H' ∧ ∃ (r7 r8 : Option V), σ = [some (.ref a), some (.ref p), some (.ref o), some (.int (3 + i)), some (.int v'), some v, some (.str (T (nfil ld (ld ++ rs) wd f x))), some (.ref pd), some ov, r7, r8]) ⟨Same.refl _, _, _, rfl⟩ ?_ ?_
      · rintro j σ HF hj ⟨gF, r7, r8, rfl⟩
        walk_at "rd"
        refine c_answer (co1_odd (FE.same gF) (OE.same gF)) w1 fun p5 H5 g5 e5 => ?_
        walk_at "rd"
        rename_i p6 H6 g6 e6
        have gF6 := gF.trans (g5.trans g6)
        clear e5 e6
        refine sp_0 (SE.same gF6) ?_
        walk_at "rd"
        · rename_i hc
          cases d with
          | num fg pl b sn z m pt wy =>
            refine c_tgreat (SE.same gF6) fun p7 H7 N g7 e7 n1 n2 n3 => ?_
            walk_at "rd"
            refine c_answer (co1_great (FE.same (gF6.trans g7)) e7 n1 n2 n3) w1 fun p8 H8 g8 e8 => ?_
            walk_at "rd"
            exact ⟨by have := gF6.trans (g7.trans g8); walk_at "sm", _, _, rfl⟩
          | word => exact absurd (show ("word" : Str) = "number" from hc) (by decide +kernel)
          | cho => exact absurd (show ("choice" : Str) = "number" from hc) (by decide +kernel)
        · exact ⟨gF6, _, _, rfl⟩
      · rintro σ HF ⟨gF, r7, r8, rfl⟩
        walk_at "rd"
        refine c_answer (co1_of (FE.same gF) (VE.same gF)) w1 fun p5 H5 g5 e5 => ?_
        have e5' : H5 p5 = some (.tup [.str "told", .str (T (ld ++ rs))]) := by rw [← ans0 (wd := wd) (f := f) (x := x) (st := st) (ld := ld) (rfl : (0 : Int) = 0)]; exact e5
        clear e5
        walk_at "rd"
        have gF5 := gF.trans g5
        refine c_parts_of' (SE.same gF5) (VE.same gF5) fun q6 H6 g6 e6 => ?_
        walk_at "rd"
        refine r_joinQ (xs := [ld, rs]) e6 (by show (ld ++ (rs ++ [])).length + 2 * 0 ≤ _; rw [List.append_nil, List.length_append]; omega) ?_
        rw [show jn (Lt (T [])) [ld, rs] = ld ++ rs by rw [show Lt (T []) = [] from rfl, jn_nil]; show ld ++ (rs ++ []) = _; rw [List.append_nil]]
        have e56 := g6.at e5'
        clear e5' e6
        walk_at "rd"
        rename_i p7 H7 g7 e7
        have gF7 := gF5.trans (g6.trans g7)
        clear e56 e7
        refine c_answer (co1_of (FE.same gF7) (VE.same gF7)) w1 fun p8 H8 g8 e8 => ?_
        have e8' := e8
        have eD := (gF7.trans g8).at eE
        rw [ansT (by decide) nw] at e8' eD
        clear e8 eE
        walk_at "rd"
        exact ⟨gAE.trans (gF7.trans g8), _, _, _, _, _, _, _, _, rfl⟩
  · rintro σ HA ⟨gA, r1, r2, r3, r4, r5, r6, r7, r8, rfl⟩
    walk_at "rd"
    exact k _
end
theorem all_mk {l:W.OpenLaw} {w:World} {K:W.Frag} {h:Heap} {mg:Str→Option Value} {fa f0 f1 f2 f3 f4 f5 f6 f7 f8 f9 f10 f11 f12 f13 f14 f15 f16 f17 f18 f19 f20 f21 f22 f23 f24 f25 f26 f27 f28 f29 f30 f31 f32 f33 f34 f35 f36 f37 f38 f39 f40 f41 f42 f43 f44 f45 f46 f47 f48 f49 f50 f51 f52 f53 f54 f55 f56 f57 f58:Addr} (X:K.In h) (G:h.Ns mainGlobals mg) (hfa:mg "law" = some (.ref fa))
  {od0 an0 od1 an1 od2 an2 od3 an3 od4 an4 od5 an5 od6 an6 od7 an7 od8 an8 od9 an9 od10 an10 od11 an11 od12 an12 od13 an13 od14 an14 od15 an15 od16 an16 od17 an17 od18 an18 od19 an19 od20 an20 od21 an21 od22 an22 od23 an23 od24 an24 od25 an25 od26 an26 od27 an27 od28 an28 od29 an29 od30 an30 od31 an31 od32 an32 od33 an33 od34 an34 od35 an35 od36 an36 od37 an37 od38 an38 od39 an39 od40 an40 od41 an41 od42 an42 od43 an43 od44 an44 od45 an45 od46 an46 od47 an47 od48 an48 od49 an49 od50 an50 od51 an51 od52 an52 od53 an53 od54 an54 od55 an55 od56 an56 od57 an57 od58 an58:Option Addr} {sl0 sl1 sl2 sl3 sl4 sl5 sl6 sl7 sl8 sl9 sl10 sl11 sl12 sl13 sl14 sl15 sl16 sl17 sl18 sl19 sl20 sl21 sl22 sl23 sl24 sl25 sl26 sl27 sl28 sl29 sl30 sl31 sl32 sl33 sl34 sl35 sl36 sl37 sl38 sl39 sl40 sl41 sl42 sl43 sl44 sl45 sl46 sl47 sl48 sl49 sl50 sl51 sl52 sl53 sl54 sl55 sl56 sl57 sl58:Array (Option Value)} {oc0 kV0 dc0 pm0 cd0 ct0 oc1 kV1 dc1 pm1 cd1 ct1 oc2 kV2 dc2 pm2 cd2 ct2 oc3 kV3 dc3 pm3 cd3 ct3 oc4 kV4 dc4 pm4 cd4 ct4 oc5 kV5 dc5 pm5 cd5 ct5 oc6 kV6 dc6 pm6 cd6 ct6 oc7 kV7 dc7 pm7 cd7 ct7 oc8 kV8 dc8 pm8 cd8 ct8 oc9 kV9 dc9 pm9 cd9 ct9 oc10 kV10 dc10 pm10 cd10 ct10 oc11 kV11 dc11 pm11 cd11 ct11 oc12 kV12 dc12 pm12 cd12 ct12 oc13 kV13 dc13 pm13 cd13 ct13 oc14 kV14 dc14 pm14 cd14 ct14 oc15 kV15 dc15 pm15 cd15 ct15 oc16 kV16 dc16 pm16 cd16 ct16 oc17 kV17 dc17 pm17 cd17 ct17 oc18 kV18 dc18 pm18 cd18 ct18 oc19 kV19 dc19 pm19 cd19 ct19 ocD19 d19v0 d19v1 d19v2 d19v3 oc20 kV20 dc20 pm20 cd20 ct20 ocD20 d20v0 d20v1 d20v2 d20v3 oc21 kV21 dc21 pm21 cd21 ct21 ocD21 d21v0 d21v1 d21v2 d21v3 d21v4 d21v5 d21v6 d21v7 d21v8 d21v9 oc22 kV22 dc22 pm22 cd22 ct22 oc23 kV23 dc23 pm23 cd23 ct23 oc24 kV24 dc24 pm24 cd24 ct24 oc25 kV25 dc25 pm25 cd25 ct25 oc26 kV26 dc26 pm26 cd26 ct26 oc27 kV27 dc27 pm27 cd27 ct27 oc28 kV28 dc28 pm28 cd28 ct28 oc29 kV29 dc29 pm29 cd29 ct29 oc30 kV30 dc30 pm30 cd30 ct30 oc31 kV31 dc31 pm31 cd31 ct31 oc32 kV32 dc32 pm32 cd32 ct32 oc33 kV33 dc33 pm33 cd33 ct33 oc34 kV34 dc34 pm34 cd34 ct34 oc35 kV35 dc35 pm35 cd35 ct35 oc36 kV36 dc36 pm36 cd36 ct36 oc37 kV37 dc37 pm37 cd37 ct37 oc38 kV38 dc38 pm38 cd38 ct38 oc39 kV39 dc39 pm39 cd39 ct39 oc40 kV40 dc40 pm40 cd40 ct40 oc41 kV41 dc41 pm41 cd41 ct41 oc42 kV42 dc42 pm42 cd42 ct42 oc43 kV43 dc43 pm43 cd43 ct43 oc44 kV44 dc44 pm44 cd44 ct44 oc45 kV45 dc45 pm45 cd45 ct45 oc46 kV46 dc46 pm46 cd46 ct46 oc47 kV47 dc47 pm47 cd47 ct47 oc48 kV48 dc48 pm48 cd48 ct48 oc49 kV49 dc49 pm49 cd49 ct49 oc50 kV50 dc50 pm50 cd50 ct50 oc51 kV51 dc51 pm51 cd51 ct51 oc52 kV52 dc52 pm52 cd52 ct52 oc53 kV53 dc53 pm53 cd53 ct53 oc54 kV54 dc54 pm54 cd54 ct54 oc55 kV55 dc55 pm55 cd55 ct55 oc56 kV56 dc56 pm56 cd56 ct56 oc57 kV57 dc57 pm57 cd57 ct57 oc58 kV58 dc58 pm58 cd58 ct58:Value} {tD19:Addr} {odD19:Option Addr} {nD19:Nat} {slD19:Array (Option Value)} {tD20:Addr} {odD20:Option Addr} {nD20:Nat} {slD20:Array (Option Value)} {tD21:Addr} {odD21:Option Addr} {nD21:Nat} {slD21:Array (Option Value)} {c_PadError c_NoNumber c_NoFigures c_NoGroups c_NoBody c_NoCore c_NoValue c_TooGreat c_TooWide c_NoText c_NoSheet c_NoRow c_TwoValues c_NoForm c_NoLine c_TooMany c_TwoRows c_Form c_NumberForm c_WordForm c_ChoiceForm:Addr} {t_FIGURES:Tok} {t_STYLES:Addr}
  (a0:W.nsIn K mainGlobals "_law_cell_at" = some (some (.ref f0))) (l0:K.lookup f0=some ⟨oc0,od0,.func (W.fnOf "_law_cell_at" "_law_cell_at" (defArgs s_law_cell_at) (defBody s_law_cell_at) (defScope s_law_cell_at) .none kV0 dc0 pm0 an0 cd0 ct0),sl0⟩) (c0:W.codeIn K cd0 "_law_cell_at" = true) (k0:W.keepIn K (.ref f0)=true)
  (a1:W.nsIn K mainGlobals "_law_pick" = some (some (.ref f1))) (l1:K.lookup f1=some ⟨oc1,od1,.func (W.fnOf "_law_pick" "_law_pick" (defArgs s_law_pick) (defBody s_law_pick) (defScope s_law_pick) .none kV1 dc1 pm1 an1 cd1 ct1),sl1⟩) (c1:W.codeIn K cd1 "_law_pick" = true) (k1:W.keepIn K (.ref f1)=true)
  (a2:W.nsIn K mainGlobals "pads_of" = some (some (.ref f2))) (l2:K.lookup f2=some ⟨oc2,od2,.func (W.fnOf "pads_of" "pads_of" (defArgs s_pads_of) (defBody s_pads_of) (defScope s_pads_of) .none kV2 dc2 pm2 an2 cd2 ct2),sl2⟩) (c2:W.codeIn K cd2 "pads_of" = true) (k2:W.keepIn K (.ref f2)=true)
  (a3:W.nsIn K mainGlobals "padded" = some (some (.ref f3))) (l3:K.lookup f3=some ⟨oc3,od3,.func (W.fnOf "padded" "padded" (defArgs s_padded) (defBody s_padded) (defScope s_padded) .none kV3 dc3 pm3 an3 cd3 ct3),sl3⟩) (c3:W.codeIn K cd3 "padded" = true) (k3:W.keepIn K (.ref f3)=true)
  (a4:W.nsIn K mainGlobals "power_of" = some (some (.ref f4))) (l4:K.lookup f4=some ⟨oc4,od4,.func (W.fnOf "power_of" "power_of" (defArgs s_power_of) (defBody s_power_of) (defScope s_power_of) .none kV4 dc4 pm4 an4 cd4 ct4),sl4⟩) (c4:W.codeIn K cd4 "power_of" = true) (k4:W.keepIn K (.ref f4)=true)
  (a5:W.nsIn K mainGlobals "goes_up" = some (some (.ref f5))) (l5:K.lookup f5=some ⟨oc5,od5,.func (W.fnOf "goes_up" "goes_up" (defArgs s_goes_up) (defBody s_goes_up) (defScope s_goes_up) .none kV5 dc5 pm5 an5 cd5 ct5),sl5⟩) (c5:W.codeIn K cd5 "goes_up" = true) (k5:W.keepIn K (.ref f5)=true)
  (a6:W.nsIn K mainGlobals "gridded" = some (some (.ref f6))) (l6:K.lookup f6=some ⟨oc6,od6,.func (W.fnOf "gridded" "gridded" (defArgs s_gridded) (defBody s_gridded) (defScope s_gridded) .none kV6 dc6 pm6 an6 cd6 ct6),sl6⟩) (c6:W.codeIn K cd6 "gridded" = true) (k6:W.keepIn K (.ref f6)=true)
  (a7:W.nsIn K mainGlobals "figures_of" = some (some (.ref f7))) (l7:K.lookup f7=some ⟨oc7,od7,.func (W.fnOf "figures_of" "figures_of" (defArgs s_figures_of) (defBody s_figures_of) (defScope s_figures_of) .none kV7 dc7 pm7 an7 cd7 ct7),sl7⟩) (c7:W.codeIn K cd7 "figures_of" = true) (k7:W.keepIn K (.ref f7)=true)
  (a8:W.nsIn K mainGlobals "parts_of" = some (some (.ref f8))) (l8:K.lookup f8=some ⟨oc8,od8,.func (W.fnOf "parts_of" "parts_of" (defArgs s_parts_of) (defBody s_parts_of) (defScope s_parts_of) .none kV8 dc8 pm8 an8 cd8 ct8),sl8⟩) (c8:W.codeIn K cd8 "parts_of" = true) (k8:W.keepIn K (.ref f8)=true)
  (a9:W.nsIn K mainGlobals "grouped" = some (some (.ref f9))) (l9:K.lookup f9=some ⟨oc9,od9,.func (W.fnOf "grouped" "grouped" (defArgs s_grouped) (defBody s_grouped) (defScope s_grouped) .none kV9 dc9 pm9 an9 cd9 ct9),sl9⟩) (c9:W.codeIn K cd9 "grouped" = true) (k9:W.keepIn K (.ref f9)=true)
  (a10:W.nsIn K mainGlobals "body_of" = some (some (.ref f10))) (l10:K.lookup f10=some ⟨oc10,od10,.func (W.fnOf "body_of" "body_of" (defArgs s_body_of) (defBody s_body_of) (defScope s_body_of) .none kV10 dc10 pm10 an10 cd10 ct10),sl10⟩) (c10:W.codeIn K cd10 "body_of" = true) (k10:W.keepIn K (.ref f10)=true)
  (a11:W.nsIn K mainGlobals "ends_of" = some (some (.ref f11))) (l11:K.lookup f11=some ⟨oc11,od11,.func (W.fnOf "ends_of" "ends_of" (defArgs s_ends_of) (defBody s_ends_of) (defScope s_ends_of) .none kV11 dc11 pm11 an11 cd11 ct11),sl11⟩) (c11:W.codeIn K cd11 "ends_of" = true) (k11:W.keepIn K (.ref f11)=true)
  (a12:W.nsIn K mainGlobals "signed" = some (some (.ref f12))) (l12:K.lookup f12=some ⟨oc12,od12,.func (W.fnOf "signed" "signed" (defArgs s_signed) (defBody s_signed) (defScope s_signed) .none kV12 dc12 pm12 an12 cd12 ct12),sl12⟩) (c12:W.codeIn K cd12 "signed" = true) (k12:W.keepIn K (.ref f12)=true)
  (a13:W.nsIn K mainGlobals "stands_between_figures" = some (some (.ref f13))) (l13:K.lookup f13=some ⟨oc13,od13,.func (W.fnOf "stands_between_figures" "stands_between_figures" (defArgs s_stands_between_figures) (defBody s_stands_between_figures) (defScope s_stands_between_figures) .none kV13 dc13 pm13 an13 cd13 ct13),sl13⟩) (c13:W.codeIn K cd13 "stands_between_figures" = true) (k13:W.keepIn K (.ref f13)=true)
  (a14:W.nsIn K mainGlobals "unsigned" = some (some (.ref f14))) (l14:K.lookup f14=some ⟨oc14,od14,.func (W.fnOf "unsigned" "unsigned" (defArgs s_unsigned) (defBody s_unsigned) (defScope s_unsigned) .none kV14 dc14 pm14 an14 cd14 ct14),sl14⟩) (c14:W.codeIn K cd14 "unsigned" = true) (k14:W.keepIn K (.ref f14)=true)
  (a15:W.nsIn K mainGlobals "is_whole" = some (some (.ref f15))) (l15:K.lookup f15=some ⟨oc15,od15,.func (W.fnOf "is_whole" "is_whole" (defArgs s_is_whole) (defBody s_is_whole) (defScope s_is_whole) .none kV15 dc15 pm15 an15 cd15 ct15),sl15⟩) (c15:W.codeIn K cd15 "is_whole" = true) (k15:W.keepIn K (.ref f15)=true)
  (a16:W.nsIn K mainGlobals "common_divisor" = some (some (.ref f16))) (l16:K.lookup f16=some ⟨oc16,od16,.func (W.fnOf "common_divisor" "common_divisor" (defArgs s_common_divisor) (defBody s_common_divisor) (defScope s_common_divisor) .none kV16 dc16 pm16 an16 cd16 ct16),sl16⟩) (c16:W.codeIn K cd16 "common_divisor" = true) (k16:W.keepIn K (.ref f16)=true)
  (a17:W.nsIn K mainGlobals "is_fraction" = some (some (.ref f17))) (l17:K.lookup f17=some ⟨oc17,od17,.func (W.fnOf "is_fraction" "is_fraction" (defArgs s_is_fraction) (defBody s_is_fraction) (defScope s_is_fraction) .none kV17 dc17 pm17 an17 cd17 ct17),sl17⟩) (c17:W.codeIn K cd17 "is_fraction" = true) (k17:W.keepIn K (.ref f17)=true)
  (a18:W.findIn K (.ref c_Form) "__init__" = some (some (.ref f18))) (l18:K.lookup f18=some ⟨oc18,od18,.func (W.fnOf "__init__" "Form.__init__" (defArgs s_Form___init__) (defBody s_Form___init__) (defScope s_Form___init__) .none kV18 dc18 pm18 an18 cd18 ct18),sl18⟩) (c18:W.codeIn K cd18 "Form.__init__" = true) (k18:W.keepIn K (.ref f18)=true)
  (a19:W.findIn K (.ref c_WordForm) "__init__" = some (some (.ref f19))) (l19:K.lookup f19=some ⟨oc19,od19,.func (W.fnOf "__init__" "WordForm.__init__" (defArgs s_WordForm___init__) (defBody s_WordForm___init__) (defScope s_WordForm___init__) (.ref tD19) kV19 dc19 pm19 an19 cd19 ct19),sl19⟩) (c19:W.codeIn K cd19 "WordForm.__init__" = true) (k19:W.keepIn K (.ref f19)=true)
  (a20:W.findIn K (.ref c_ChoiceForm) "__init__" = some (some (.ref f20))) (l20:K.lookup f20=some ⟨oc20,od20,.func (W.fnOf "__init__" "ChoiceForm.__init__" (defArgs s_ChoiceForm___init__) (defBody s_ChoiceForm___init__) (defScope s_ChoiceForm___init__) (.ref tD20) kV20 dc20 pm20 an20 cd20 ct20),sl20⟩) (c20:W.codeIn K cd20 "ChoiceForm.__init__" = true) (k20:W.keepIn K (.ref f20)=true)
  (a21:W.findIn K (.ref c_NumberForm) "__init__" = some (some (.ref f21))) (l21:K.lookup f21=some ⟨oc21,od21,.func (W.fnOf "__init__" "NumberForm.__init__" (defArgs s_NumberForm___init__) (defBody s_NumberForm___init__) (defScope s_NumberForm___init__) (.ref tD21) kV21 dc21 pm21 an21 cd21 ct21),sl21⟩) (c21:W.codeIn K cd21 "NumberForm.__init__" = true) (k21:W.keepIn K (.ref f21)=true)
  (a22:W.findIn K (.ref c_NumberForm) "is_too_great" = some (some (.ref f22))) (l22:K.lookup f22=some ⟨oc22,od22,.func (W.fnOf "is_too_great" "NumberForm.is_too_great" (defArgs s_NumberForm_is_too_great) (defBody s_NumberForm_is_too_great) (defScope s_NumberForm_is_too_great) .none kV22 dc22 pm22 an22 cd22 ct22),sl22⟩) (c22:W.codeIn K cd22 "NumberForm.is_too_great" = true) (k22:W.keepIn K (.ref f22)=true)
  (a23:W.findIn K (.ref c_NumberForm) "core" = some (some (.ref f23))) (l23:K.lookup f23=some ⟨oc23,od23,.func (W.fnOf "core" "NumberForm.core" (defArgs s_NumberForm_core) (defBody s_NumberForm_core) (defScope s_NumberForm_core) .none kV23 dc23 pm23 an23 cd23 ct23),sl23⟩) (c23:W.codeIn K cd23 "NumberForm.core" = true) (k23:W.keepIn K (.ref f23)=true)
  (a24:W.findIn K (.ref c_Form) "is_too_wide" = some (some (.ref f24))) (l24:K.lookup f24=some ⟨oc24,od24,.func (W.fnOf "is_too_wide" "Form.is_too_wide" (defArgs s_Form_is_too_wide) (defBody s_Form_is_too_wide) (defScope s_Form_is_too_wide) .none kV24 dc24 pm24 an24 cd24 ct24),sl24⟩) (c24:W.codeIn K cd24 "Form.is_too_wide" = true) (k24:W.keepIn K (.ref f24)=true)
  (a25:W.nsIn K mainGlobals "padded_inside" = some (some (.ref f25))) (l25:K.lookup f25=some ⟨oc25,od25,.func (W.fnOf "padded_inside" "padded_inside" (defArgs s_padded_inside) (defBody s_padded_inside) (defScope s_padded_inside) .none kV25 dc25 pm25 an25 cd25 ct25),sl25⟩) (c25:W.codeIn K cd25 "padded_inside" = true) (k25:W.keepIn K (.ref f25)=true)
  (a26:W.findIn K (.ref c_NumberForm) "lead_of" = some (some (.ref f26))) (l26:K.lookup f26=some ⟨oc26,od26,.func (W.fnOf "lead_of" "NumberForm.lead_of" (defArgs s_NumberForm_lead_of) (defBody s_NumberForm_lead_of) (defScope s_NumberForm_lead_of) .none kV26 dc26 pm26 an26 cd26 ct26),sl26⟩) (c26:W.codeIn K cd26 "NumberForm.lead_of" = true) (k26:W.keepIn K (.ref f26)=true)
  (a27:W.findIn K (.ref c_Form) "filled" = some (some (.ref f27))) (l27:K.lookup f27=some ⟨oc27,od27,.func (W.fnOf "filled" "Form.filled" (defArgs s_Form_filled) (defBody s_Form_filled) (defScope s_Form_filled) .none kV27 dc27 pm27 an27 cd27 ct27),sl27⟩) (c27:W.codeIn K cd27 "Form.filled" = true) (k27:W.keepIn K (.ref f27)=true)
  (a28:W.findIn K (.ref c_WordForm) "is_word" = some (some (.ref f28))) (l28:K.lookup f28=some ⟨oc28,od28,.func (W.fnOf "is_word" "WordForm.is_word" (defArgs s_WordForm_is_word) (defBody s_WordForm_is_word) (defScope s_WordForm_is_word) .none kV28 dc28 pm28 an28 cd28 ct28),sl28⟩) (c28:W.codeIn K cd28 "WordForm.is_word" = true) (k28:W.keepIn K (.ref f28)=true)
  (a29:W.findIn K (.ref c_WordForm) "core" = some (some (.ref f29))) (l29:K.lookup f29=some ⟨oc29,od29,.func (W.fnOf "core" "WordForm.core" (defArgs s_WordForm_core) (defBody s_WordForm_core) (defScope s_WordForm_core) .none kV29 dc29 pm29 an29 cd29 ct29),sl29⟩) (c29:W.codeIn K cd29 "WordForm.core" = true) (k29:W.keepIn K (.ref f29)=true)
  (a30:W.findIn K (.ref c_ChoiceForm) "core" = some (some (.ref f30))) (l30:K.lookup f30=some ⟨oc30,od30,.func (W.fnOf "core" "ChoiceForm.core" (defArgs s_ChoiceForm_core) (defBody s_ChoiceForm_core) (defScope s_ChoiceForm_core) .none kV30 dc30 pm30 an30 cd30 ct30),sl30⟩) (c30:W.codeIn K cd30 "ChoiceForm.core" = true) (k30:W.keepIn K (.ref f30)=true)
  (a31:W.findIn K (.ref c_Form) "put" = some (some (.ref f31))) (l31:K.lookup f31=some ⟨oc31,od31,.func (W.fnOf "put" "Form.put" (defArgs s_Form_put) (defBody s_Form_put) (defScope s_Form_put) .none kV31 dc31 pm31 an31 cd31 ct31),sl31⟩) (c31:W.codeIn K cd31 "Form.put" = true) (k31:W.keepIn K (.ref f31)=true)
  (a32:W.nsIn K mainGlobals "_law_signs" = some (some (.ref f32))) (l32:K.lookup f32=some ⟨oc32,od32,.func (W.fnOf "_law_signs" "_law_signs" (defArgs s_law_signs) (defBody s_law_signs) (defScope s_law_signs) .none kV32 dc32 pm32 an32 cd32 ct32),sl32⟩) (c32:W.codeIn K cd32 "_law_signs" = true) (k32:W.keepIn K (.ref f32)=true)
  (a33:W.nsIn K mainGlobals "_law_sign" = some (some (.ref f33))) (l33:K.lookup f33=some ⟨oc33,od33,.func (W.fnOf "_law_sign" "_law_sign" (defArgs s_law_sign) (defBody s_law_sign) (defScope s_law_sign) .none kV33 dc33 pm33 an33 cd33 ct33),sl33⟩) (c33:W.codeIn K cd33 "_law_sign" = true) (k33:W.keepIn K (.ref f33)=true)
  (a34:W.nsIn K mainGlobals "_law_number_spec" = some (some (.ref f34))) (l34:K.lookup f34=some ⟨oc34,od34,.func (W.fnOf "_law_number_spec" "_law_number_spec" (defArgs s_law_number_spec) (defBody s_law_number_spec) (defScope s_law_number_spec) .none kV34 dc34 pm34 an34 cd34 ct34),sl34⟩) (c34:W.codeIn K cd34 "_law_number_spec" = true) (k34:W.keepIn K (.ref f34)=true)
  (a35:W.nsIn K mainGlobals "_law_number_form" = some (some (.ref f35))) (l35:K.lookup f35=some ⟨oc35,od35,.func (W.fnOf "_law_number_form" "_law_number_form" (defArgs s_law_number_form) (defBody s_law_number_form) (defScope s_law_number_form) .none kV35 dc35 pm35 an35 cd35 ct35),sl35⟩) (c35:W.codeIn K cd35 "_law_number_form" = true) (k35:W.keepIn K (.ref f35)=true)
  (a36:W.nsIn K mainGlobals "_law_word_spec" = some (some (.ref f36))) (l36:K.lookup f36=some ⟨oc36,od36,.func (W.fnOf "_law_word_spec" "_law_word_spec" (defArgs s_law_word_spec) (defBody s_law_word_spec) (defScope s_law_word_spec) .none kV36 dc36 pm36 an36 cd36 ct36),sl36⟩) (c36:W.codeIn K cd36 "_law_word_spec" = true) (k36:W.keepIn K (.ref f36)=true)
  (a37:W.nsIn K mainGlobals "_law_names" = some (some (.ref f37))) (l37:K.lookup f37=some ⟨oc37,od37,.func (W.fnOf "_law_names" "_law_names" (defArgs s_law_names) (defBody s_law_names) (defScope s_law_names) .none kV37 dc37 pm37 an37 cd37 ct37),sl37⟩) (c37:W.codeIn K cd37 "_law_names" = true) (k37:W.keepIn K (.ref f37)=true)
  (a38:W.nsIn K mainGlobals "_law_choice_spec" = some (some (.ref f38))) (l38:K.lookup f38=some ⟨oc38,od38,.func (W.fnOf "_law_choice_spec" "_law_choice_spec" (defArgs s_law_choice_spec) (defBody s_law_choice_spec) (defScope s_law_choice_spec) .none kV38 dc38 pm38 an38 cd38 ct38),sl38⟩) (c38:W.codeIn K cd38 "_law_choice_spec" = true) (k38:W.keepIn K (.ref f38)=true)
  (a39:W.nsIn K mainGlobals "_law_power" = some (some (.ref f39))) (l39:K.lookup f39=some ⟨oc39,od39,.func (W.fnOf "_law_power" "_law_power" (defArgs s_law_power) (defBody s_law_power) (defScope s_law_power) .none kV39 dc39 pm39 an39 cd39 ct39),sl39⟩) (c39:W.codeIn K cd39 "_law_power" = true) (k39:W.keepIn K (.ref f39)=true)
  (a40:W.nsIn K mainGlobals "_law_divisor" = some (some (.ref f40))) (l40:K.lookup f40=some ⟨oc40,od40,.func (W.fnOf "_law_divisor" "_law_divisor" (defArgs s_law_divisor) (defBody s_law_divisor) (defScope s_law_divisor) .none kV40 dc40 pm40 an40 cd40 ct40),sl40⟩) (c40:W.codeIn K cd40 "_law_divisor" = true) (k40:W.keepIn K (.ref f40)=true)
  (a41:W.nsIn K mainGlobals "_law_lowest" = some (some (.ref f41))) (l41:K.lookup f41=some ⟨oc41,od41,.func (W.fnOf "_law_lowest" "_law_lowest" (defArgs s_law_lowest) (defBody s_law_lowest) (defScope s_law_lowest) .none kV41 dc41 pm41 an41 cd41 ct41),sl41⟩) (c41:W.codeIn K cd41 "_law_lowest" = true) (k41:W.keepIn K (.ref f41)=true)
  (a42:W.nsIn K mainGlobals "_law_figures" = some (some (.ref f42))) (l42:K.lookup f42=some ⟨oc42,od42,.func (W.fnOf "_law_figures" "_law_figures" (defArgs s_law_figures) (defBody s_law_figures) (defScope s_law_figures) .none kV42 dc42 pm42 an42 cd42 ct42),sl42⟩) (c42:W.codeIn K cd42 "_law_figures" = true) (k42:W.keepIn K (.ref f42)=true)
  (a43:W.nsIn K mainGlobals "_law_body" = some (some (.ref f43))) (l43:K.lookup f43=some ⟨oc43,od43,.func (W.fnOf "_law_body" "_law_body" (defArgs s_law_body) (defBody s_law_body) (defScope s_law_body) .none kV43 dc43 pm43 an43 cd43 ct43),sl43⟩) (c43:W.codeIn K cd43 "_law_body" = true) (k43:W.keepIn K (.ref f43)=true)
  (a44:W.nsIn K mainGlobals "_law_parts" = some (some (.ref f44))) (l44:K.lookup f44=some ⟨oc44,od44,.func (W.fnOf "_law_parts" "_law_parts" (defArgs s_law_parts) (defBody s_law_parts) (defScope s_law_parts) .none kV44 dc44 pm44 an44 cd44 ct44),sl44⟩) (c44:W.codeIn K cd44 "_law_parts" = true) (k44:W.keepIn K (.ref f44)=true)
  (a45:W.nsIn K mainGlobals "_law_great" = some (some (.ref f45))) (l45:K.lookup f45=some ⟨oc45,od45,.func (W.fnOf "_law_great" "_law_great" (defArgs s_law_great) (defBody s_law_great) (defScope s_law_great) .none kV45 dc45 pm45 an45 cd45 ct45),sl45⟩) (c45:W.codeIn K cd45 "_law_great" = true) (k45:W.keepIn K (.ref f45)=true)
  (a46:W.nsIn K mainGlobals "_law_filled" = some (some (.ref f46))) (l46:K.lookup f46=some ⟨oc46,od46,.func (W.fnOf "_law_filled" "_law_filled" (defArgs s_law_filled) (defBody s_law_filled) (defScope s_law_filled) .none kV46 dc46 pm46 an46 cd46 ct46),sl46⟩) (c46:W.codeIn K cd46 "_law_filled" = true) (k46:W.keepIn K (.ref f46)=true)
  (a47:W.nsIn K mainGlobals "_law_steps" = some (some (.ref f47))) (l47:K.lookup f47=some ⟨oc47,od47,.func (W.fnOf "_law_steps" "_law_steps" (defArgs s_law_steps) (defBody s_law_steps) (defScope s_law_steps) .none kV47 dc47 pm47 an47 cd47 ct47),sl47⟩) (c47:W.codeIn K cd47 "_law_steps" = true) (k47:W.keepIn K (.ref f47)=true)
  (a48:W.nsIn K mainGlobals "_law_word" = some (some (.ref f48))) (l48:K.lookup f48=some ⟨oc48,od48,.func (W.fnOf "_law_word" "_law_word" (defArgs s_law_word) (defBody s_law_word) (defScope s_law_word) .none kV48 dc48 pm48 an48 cd48 ct48),sl48⟩) (c48:W.codeIn K cd48 "_law_word" = true) (k48:W.keepIn K (.ref f48)=true)
  (a49:W.nsIn K mainGlobals "_law_spec" = some (some (.ref f49))) (l49:K.lookup f49=some ⟨oc49,od49,.func (W.fnOf "_law_spec" "_law_spec" (defArgs s_law_spec) (defBody s_law_spec) (defScope s_law_spec) .none kV49 dc49 pm49 an49 cd49 ct49),sl49⟩) (c49:W.codeIn K cd49 "_law_spec" = true) (k49:W.keepIn K (.ref f49)=true)
  (a50:W.nsIn K mainGlobals "_law_form" = some (some (.ref f50))) (l50:K.lookup f50=some ⟨oc50,od50,.func (W.fnOf "_law_form" "_law_form" (defArgs s_law_form) (defBody s_law_form) (defScope s_law_form) .none kV50 dc50 pm50 an50 cd50 ct50),sl50⟩) (c50:W.codeIn K cd50 "_law_form" = true) (k50:W.keepIn K (.ref f50)=true)
  (a51:W.nsIn K mainGlobals "_law_value" = some (some (.ref f51))) (l51:K.lookup f51=some ⟨oc51,od51,.func (W.fnOf "_law_value" "_law_value" (defArgs s_law_value) (defBody s_law_value) (defScope s_law_value) .none kV51 dc51 pm51 an51 cd51 ct51),sl51⟩) (c51:W.codeIn K cd51 "_law_value" = true) (k51:W.keepIn K (.ref f51)=true)
  (a52:W.nsIn K mainGlobals "_law_parts_of" = some (some (.ref f52))) (l52:K.lookup f52=some ⟨oc52,od52,.func (W.fnOf "_law_parts_of" "_law_parts_of" (defArgs s_law_parts_of) (defBody s_law_parts_of) (defScope s_law_parts_of) .none kV52 dc52 pm52 an52 cd52 ct52),sl52⟩) (c52:W.codeIn K cd52 "_law_parts_of" = true) (k52:W.keepIn K (.ref f52)=true)
  (a53:W.nsIn K mainGlobals "_law_text" = some (some (.ref f53))) (l53:K.lookup f53=some ⟨oc53,od53,.func (W.fnOf "_law_text" "_law_text" (defArgs s_law_text) (defBody s_law_text) (defScope s_law_text) .none kV53 dc53 pm53 an53 cd53 ct53),sl53⟩) (c53:W.codeIn K cd53 "_law_text" = true) (k53:W.keepIn K (.ref f53)=true)
  (a54:W.nsIn K mainGlobals "_law_word_of" = some (some (.ref f54))) (l54:K.lookup f54=some ⟨oc54,od54,.func (W.fnOf "_law_word_of" "_law_word_of" (defArgs s_law_word_of) (defBody s_law_word_of) (defScope s_law_word_of) .none kV54 dc54 pm54 an54 cd54 ct54),sl54⟩) (c54:W.codeIn K cd54 "_law_word_of" = true) (k54:W.keepIn K (.ref f54)=true)
  (a55:W.nsIn K mainGlobals "_law_answer" = some (some (.ref f55))) (l55:K.lookup f55=some ⟨oc55,od55,.func (W.fnOf "_law_answer" "_law_answer" (defArgs s_law_answer) (defBody s_law_answer) (defScope s_law_answer) .none kV55 dc55 pm55 an55 cd55 ct55),sl55⟩) (c55:W.codeIn K cd55 "_law_answer" = true) (k55:W.keepIn K (.ref f55)=true)
  (a56:W.nsIn K mainGlobals "_law_odd" = some (some (.ref f56))) (l56:K.lookup f56=some ⟨oc56,od56,.func (W.fnOf "_law_odd" "_law_odd" (defArgs s_law_odd) (defBody s_law_odd) (defScope s_law_odd) .none kV56 dc56 pm56 an56 cd56 ct56),sl56⟩) (c56:W.codeIn K cd56 "_law_odd" = true) (k56:W.keepIn K (.ref f56)=true)
  (a57:W.nsIn K mainGlobals "_law_too_great" = some (some (.ref f57))) (l57:K.lookup f57=some ⟨oc57,od57,.func (W.fnOf "_law_too_great" "_law_too_great" (defArgs s_law_too_great) (defBody s_law_too_great) (defScope s_law_too_great) .none kV57 dc57 pm57 an57 cd57 ct57),sl57⟩) (c57:W.codeIn K cd57 "_law_too_great" = true) (k57:W.keepIn K (.ref f57)=true)
  (a58:W.nsIn K mainGlobals "law" = some (some (.ref f58))) (l58:K.lookup f58=some ⟨oc58,od58,.func (W.fnOf "law" "law" (defArgs s_law) (defBody s_law) (defScope s_law) .none kV58 dc58 pm58 an58 cd58 ct58),sl58⟩) (c58:W.codeIn K cd58 "law" = true) (k58:W.keepIn K (.ref f58)=true)
  (z_len:W.nsIn K mainGlobals "len" = some none) (z_range:W.nsIn K mainGlobals "range" = some none) (z_isinstance:W.nsIn K mainGlobals "isinstance" = some none) (z_str:W.nsIn K mainGlobals "str" = some none) (z_max:W.nsIn K mainGlobals "max" = some none) (z_min:W.nsIn K mainGlobals "min" = some none) (z_int:W.nsIn K mainGlobals "int" = some none) (z_bool:W.nsIn K mainGlobals "bool" = some none) (z_abs:W.nsIn K mainGlobals "abs" = some none) (z_list:W.nsIn K mainGlobals "list" = some none) (z_tuple:W.nsIn K mainGlobals "tuple" = some none) (z_all:W.nsIn K mainGlobals "all" = some none) (z_sum:W.nsIn K mainGlobals "sum" = some none) (z_ValueError:W.nsIn K mainGlobals "ValueError" = some none) (n_FIGURES:W.nsIn K mainGlobals "FIGURES" = some (some (.str "0123456789abcdef" t_FIGURES))) (n_STYLES:W.nsIn K mainGlobals "STYLES" = some (some (.ref t_STYLES))) (n_PadError:W.nsIn K mainGlobals "PadError" = some (some (.ref c_PadError))) (n_NoNumber:W.nsIn K mainGlobals "NoNumber" = some (some (.ref c_NoNumber))) (n_NoFigures:W.nsIn K mainGlobals "NoFigures" = some (some (.ref c_NoFigures))) (n_NoGroups:W.nsIn K mainGlobals "NoGroups" = some (some (.ref c_NoGroups))) (n_NoBody:W.nsIn K mainGlobals "NoBody" = some (some (.ref c_NoBody))) (n_NoCore:W.nsIn K mainGlobals "NoCore" = some (some (.ref c_NoCore))) (n_NoValue:W.nsIn K mainGlobals "NoValue" = some (some (.ref c_NoValue))) (n_TooGreat:W.nsIn K mainGlobals "TooGreat" = some (some (.ref c_TooGreat))) (n_TooWide:W.nsIn K mainGlobals "TooWide" = some (some (.ref c_TooWide))) (n_NoText:W.nsIn K mainGlobals "NoText" = some (some (.ref c_NoText))) (n_NoSheet:W.nsIn K mainGlobals "NoSheet" = some (some (.ref c_NoSheet))) (n_NoRow:W.nsIn K mainGlobals "NoRow" = some (some (.ref c_NoRow))) (n_TwoValues:W.nsIn K mainGlobals "TwoValues" = some (some (.ref c_TwoValues))) (n_NoForm:W.nsIn K mainGlobals "NoForm" = some (some (.ref c_NoForm))) (n_NoLine:W.nsIn K mainGlobals "NoLine" = some (some (.ref c_NoLine))) (n_TooMany:W.nsIn K mainGlobals "TooMany" = some (some (.ref c_TooMany))) (n_TwoRows:W.nsIn K mainGlobals "TwoRows" = some (some (.ref c_TwoRows))) (n_Form:W.nsIn K mainGlobals "Form" = some (some (.ref c_Form))) (n_NumberForm:W.nsIn K mainGlobals "NumberForm" = some (some (.ref c_NumberForm))) (n_WordForm:W.nsIn K mainGlobals "WordForm" = some (some (.ref c_WordForm))) (n_ChoiceForm:W.nsIn K mainGlobals "ChoiceForm" = some (some (.ref c_ChoiceForm))) (ex_NoCore:W.excIn K c_NoCore VEB "ValueError.__new__" = true) (h1_NoCore:W.findIn K (.ref c_NoCore) "__getattribute__" = some (some (.builtin "BaseException.__getattribute__"))) (h2_NoCore:W.findIn K (.ref c_NoCore) "__getattr__" = some none) (hb_NoCore:W.mroIn K c_NoCore (.type "BaseException")=some true) (hd_NoCore:W.hasDictIn K c_NoCore=true) (ha_NoCore:W.findIn K (.ref c_NoCore) "__class__" = some (some (.builtin "object.__class__"))) (hn_NoCore:W.specialIn K (.builtin "object.__class__") "__get__" = some (some (.builtin "getset_descriptor.__get__"))) (ht_NoCore:W.takesIn K (.builtin "object.__class__")=some true) (hm_NoCore:W.mroIn K c_NoCore (.type "object")=some true) (ex_NoValue:W.excIn K c_NoValue VEB "ValueError.__new__" = true) (h1_NoValue:W.findIn K (.ref c_NoValue) "__getattribute__" = some (some (.builtin "BaseException.__getattribute__"))) (h2_NoValue:W.findIn K (.ref c_NoValue) "__getattr__" = some none) (hb_NoValue:W.mroIn K c_NoValue (.type "BaseException")=some true) (hd_NoValue:W.hasDictIn K c_NoValue=true) (ha_NoValue:W.findIn K (.ref c_NoValue) "__class__" = some (some (.builtin "object.__class__"))) (hn_NoValue:W.specialIn K (.builtin "object.__class__") "__get__" = some (some (.builtin "getset_descriptor.__get__"))) (ht_NoValue:W.takesIn K (.builtin "object.__class__")=some true) (hm_NoValue:W.mroIn K c_NoValue (.type "object")=some true) (ex_TooGreat:W.excIn K c_TooGreat VEB "ValueError.__new__" = true) (h1_TooGreat:W.findIn K (.ref c_TooGreat) "__getattribute__" = some (some (.builtin "BaseException.__getattribute__"))) (h2_TooGreat:W.findIn K (.ref c_TooGreat) "__getattr__" = some none) (hb_TooGreat:W.mroIn K c_TooGreat (.type "BaseException")=some true) (hd_TooGreat:W.hasDictIn K c_TooGreat=true) (ha_TooGreat:W.findIn K (.ref c_TooGreat) "__class__" = some (some (.builtin "object.__class__"))) (hn_TooGreat:W.specialIn K (.builtin "object.__class__") "__get__" = some (some (.builtin "getset_descriptor.__get__"))) (ht_TooGreat:W.takesIn K (.builtin "object.__class__")=some true) (hm_TooGreat:W.mroIn K c_TooGreat (.type "object")=some true) (ex_TooWide:W.excIn K c_TooWide VEB "ValueError.__new__" = true) (h1_TooWide:W.findIn K (.ref c_TooWide) "__getattribute__" = some (some (.builtin "BaseException.__getattribute__"))) (h2_TooWide:W.findIn K (.ref c_TooWide) "__getattr__" = some none) (hb_TooWide:W.mroIn K c_TooWide (.type "BaseException")=some true) (hd_TooWide:W.hasDictIn K c_TooWide=true) (ha_TooWide:W.findIn K (.ref c_TooWide) "__class__" = some (some (.builtin "object.__class__"))) (hn_TooWide:W.specialIn K (.builtin "object.__class__") "__get__" = some (some (.builtin "getset_descriptor.__get__"))) (ht_TooWide:W.takesIn K (.builtin "object.__class__")=some true) (hm_TooWide:W.mroIn K c_TooWide (.type "object")=some true) (sty:Sty w K t_STYLES) (V9:W.kitAny K (.ref c_NoValue) [.ref c_NoBody,.ref c_NoCore,.ref c_NoFigures,.ref c_NoForm,.ref c_NoGroups,.ref c_NoLine,.ref c_NoNumber,.ref c_NoRow,.ref c_NoSheet]=some false) (V4:W.kitAny K (.ref c_NoValue) [.ref c_NoText,.ref c_TooMany,.ref c_TwoRows,.ref c_TwoValues]=some false) (Vv:W.kitOne K (.ref c_NoValue) (.type "ValueError")=some true) (Va:W.kitOne K (.ref c_NoValue) (.ref c_NoValue)=some true) (Vb:W.kitOne K (.ref c_NoValue) (.ref c_TooGreat)=some false) (Vc:W.kitOne K (.ref c_NoValue) (.ref c_TooWide)=some false) (Vx:W.exmOne K (.ref c_NoValue) (.ref c_PadError)=some true) (G9:W.kitAny K (.ref c_TooGreat) [.ref c_NoBody,.ref c_NoCore,.ref c_NoFigures,.ref c_NoForm,.ref c_NoGroups,.ref c_NoLine,.ref c_NoNumber,.ref c_NoRow,.ref c_NoSheet]=some false) (G4:W.kitAny K (.ref c_TooGreat) [.ref c_NoText,.ref c_TooMany,.ref c_TwoRows,.ref c_TwoValues]=some false) (Gv:W.kitOne K (.ref c_TooGreat) (.type "ValueError")=some true) (Ga:W.kitOne K (.ref c_TooGreat) (.ref c_NoValue)=some false) (Gb:W.kitOne K (.ref c_TooGreat) (.ref c_TooGreat)=some true) (Gc:W.kitOne K (.ref c_TooGreat) (.ref c_TooWide)=some false) (Gx:W.exmOne K (.ref c_TooGreat) (.ref c_PadError)=some true) (T9:W.kitAny K (.ref c_TooWide) [.ref c_NoBody,.ref c_NoCore,.ref c_NoFigures,.ref c_NoForm,.ref c_NoGroups,.ref c_NoLine,.ref c_NoNumber,.ref c_NoRow,.ref c_NoSheet]=some false) (T4:W.kitAny K (.ref c_TooWide) [.ref c_NoText,.ref c_TooMany,.ref c_TwoRows,.ref c_TwoValues]=some false) (Tv:W.kitOne K (.ref c_TooWide) (.type "ValueError")=some true) (Ta:W.kitOne K (.ref c_TooWide) (.ref c_NoValue)=some false) (Tb:W.kitOne K (.ref c_TooWide) (.ref c_TooGreat)=some false) (Tc:W.kitOne K (.ref c_TooWide) (.ref c_TooWide)=some true) (Tx:W.exmOne K (.ref c_TooWide) (.ref c_PadError)=some true) (K1_NumberForm:W.plainGet K c_NumberForm Str.empty=true) (K2_NumberForm:W.hasDictIn K c_NumberForm=true) (K3_NumberForm:W.plainOver K c_NumberForm=true) (K4_NumberForm:W.findIn K (.ref c_NumberForm) "__setattr__" = some (some (.builtin "object.__setattr__"))) (N_NumberForm_width:W.findIn K (.ref c_NumberForm) "width" = some none) (N_NumberForm_fill:W.findIn K (.ref c_NumberForm) "fill" = some none) (N_NumberForm_side:W.findIn K (.ref c_NumberForm) "side" = some none) (N_NumberForm_strict:W.findIn K (.ref c_NumberForm) "strict" = some none) (N_NumberForm_figures:W.findIn K (.ref c_NumberForm) "figures" = some none) (N_NumberForm_places:W.findIn K (.ref c_NumberForm) "places" = some none) (N_NumberForm_base:W.findIn K (.ref c_NumberForm) "base" = some none) (N_NumberForm_sign:W.findIn K (.ref c_NumberForm) "sign" = some none) (N_NumberForm_size:W.findIn K (.ref c_NumberForm) "size" = some none) (N_NumberForm_mark:W.findIn K (.ref c_NumberForm) "mark" = some none) (N_NumberForm_point:W.findIn K (.ref c_NumberForm) "point" = some none) (N_NumberForm_way:W.findIn K (.ref c_NumberForm) "way" = some none) (K1_WordForm:W.plainGet K c_WordForm Str.empty=true) (K2_WordForm:W.hasDictIn K c_WordForm=true) (K3_WordForm:W.plainOver K c_WordForm=true) (K4_WordForm:W.findIn K (.ref c_WordForm) "__setattr__" = some (some (.builtin "object.__setattr__"))) (N_WordForm_width:W.findIn K (.ref c_WordForm) "width" = some none) (N_WordForm_fill:W.findIn K (.ref c_WordForm) "fill" = some none) (N_WordForm_side:W.findIn K (.ref c_WordForm) "side" = some none) (N_WordForm_strict:W.findIn K (.ref c_WordForm) "strict" = some none) (N_WordForm_signs:W.findIn K (.ref c_WordForm) "signs" = some none) (N_WordForm_least:W.findIn K (.ref c_WordForm) "least" = some none) (N_WordForm_most:W.findIn K (.ref c_WordForm) "most" = some none) (K1_ChoiceForm:W.plainGet K c_ChoiceForm Str.empty=true) (K2_ChoiceForm:W.hasDictIn K c_ChoiceForm=true) (K3_ChoiceForm:W.plainOver K c_ChoiceForm=true) (K4_ChoiceForm:W.findIn K (.ref c_ChoiceForm) "__setattr__" = some (some (.builtin "object.__setattr__"))) (N_ChoiceForm_width:W.findIn K (.ref c_ChoiceForm) "width" = some none) (N_ChoiceForm_fill:W.findIn K (.ref c_ChoiceForm) "fill" = some none) (N_ChoiceForm_side:W.findIn K (.ref c_ChoiceForm) "side" = some none) (N_ChoiceForm_strict:W.findIn K (.ref c_ChoiceForm) "strict" = some none) (N_ChoiceForm_names:W.findIn K (.ref c_ChoiceForm) "names" = some none) (C1_Form_init:W.specialIn K (.ref c_Form) "__getattribute__" = some (some (.builtin "type.__getattribute__"))) (C2_Form_init:W.readsIn K c_Form (.type "type")=true) (C3_Form_init:W.findCls K (.ref c_Form) (.type "type") "__init__" = some (.val (.ref f18))) (Fn_NumberForm_is_too_great:W.isFn K (.ref f22)=true) (Ma_NumberForm_is_too_great:W.findIn K (.ref c_NumberForm) "is_too_great" = some (some (.ref f22))) (Fn_NumberForm_lead_of:W.isFn K (.ref f26)=true) (Ma_NumberForm_lead_of:W.findIn K (.ref c_NumberForm) "lead_of" = some (some (.ref f26))) (Fn_WordForm_is_word:W.isFn K (.ref f28)=true) (Ma_WordForm_is_word:W.findIn K (.ref c_WordForm) "is_word" = some (some (.ref f28))) (Fn_NumberForm_core:W.isFn K (.ref f23)=true) (Ma_NumberForm_core:W.findIn K (.ref c_NumberForm) "core" = some (some (.ref f23))) (Fn_WordForm_core:W.isFn K (.ref f29)=true) (Ma_WordForm_core:W.findIn K (.ref c_WordForm) "core" = some (some (.ref f29))) (Fn_ChoiceForm_core:W.isFn K (.ref f30)=true) (Ma_ChoiceForm_core:W.findIn K (.ref c_ChoiceForm) "core" = some (some (.ref f30))) (Fn_Form_is_too_wide:W.isFn K (.ref f24)=true) (Ma_NumberForm_is_too_wide:W.findIn K (.ref c_NumberForm) "is_too_wide" = some (some (.ref f24))) (Ma_WordForm_is_too_wide:W.findIn K (.ref c_WordForm) "is_too_wide" = some (some (.ref f24))) (Ma_ChoiceForm_is_too_wide:W.findIn K (.ref c_ChoiceForm) "is_too_wide" = some (some (.ref f24))) (Fn_Form_filled:W.isFn K (.ref f27)=true) (Ma_NumberForm_filled:W.findIn K (.ref c_NumberForm) "filled" = some (some (.ref f27))) (Ma_WordForm_filled:W.findIn K (.ref c_WordForm) "filled" = some (some (.ref f27))) (Ma_ChoiceForm_filled:W.findIn K (.ref c_ChoiceForm) "filled" = some (some (.ref f27))) (Fn_NumberForm___init__:W.isFn K (.ref f21)=true) (I1_NumberForm:W.makesIn K c_NumberForm=true) (I2_NumberForm:W.findIn K (.ref c_NumberForm) "__init__" = some (some (.ref f21))) (I4_NumberForm:W.keepIn K (.ref c_NumberForm)=true) (Fn_ChoiceForm___init__:W.isFn K (.ref f20)=true) (I1_ChoiceForm:W.makesIn K c_ChoiceForm=true) (I2_ChoiceForm:W.findIn K (.ref c_ChoiceForm) "__init__" = some (some (.ref f20))) (I4_ChoiceForm:W.keepIn K (.ref c_ChoiceForm)=true) (Fn_WordForm___init__:W.isFn K (.ref f19)=true) (I1_WordForm:W.makesIn K c_WordForm=true) (I2_WordForm:W.findIn K (.ref c_WordForm) "__init__" = some (some (.ref f19))) (I4_WordForm:W.keepIn K (.ref c_WordForm)=true) (Fn_Form_put:W.isFn K (.ref f31)=true) (Ma_NumberForm_put:W.findIn K (.ref c_NumberForm) "put" = some (some (.ref f31))) (Ma_WordForm_put:W.findIn K (.ref c_WordForm) "put" = some (some (.ref f31))) (Ma_ChoiceForm_put:W.findIn K (.ref c_ChoiceForm) "put" = some (some (.ref f31))) (dl19:K.lookup tD19=some ⟨ocD19,odD19,.seq #[d19v0,d19v1,d19v2,d19v3] nD19,slD19⟩) (dl20:K.lookup tD20=some ⟨ocD20,odD20,.seq #[d20v0,d20v1,d20v2,d20v3] nD20,slD20⟩) (dl21:K.lookup tD21=some ⟨ocD21,odD21,.seq #[d21v0,d21v1,d21v2,d21v3,d21v4,d21v5,d21v6,d21v7,d21v8,d21v9] nD21,slD21⟩) :
  ∃ fd:FuncData,(∀ (s:Shared) (v:Value),BindsTo s fd ⟨[v],[]⟩ [("_law_script", v)]) ∧ ∀ base:Heap,K.In base→base.Ns mainGlobals mg→FnOk l.prog w K mg base CX0 8 fa fd ["_law_script"] (sp_law K):=by
 have e:=hfa.symm.trans (W.mg_of X G a58)
 cases e
 have B:Blt mg:=⟨W.mg_none_of X G z_len,W.mg_none_of X G z_range,W.mg_none_of X G z_isinstance,W.mg_none_of X G z_str,W.mg_none_of X G z_max,W.mg_none_of X G z_min,W.mg_none_of X G z_int,W.mg_none_of X G z_bool,W.mg_none_of X G z_abs,W.mg_none_of X G z_list,W.mg_none_of X G z_tuple,W.mg_none_of X G z_all,W.mg_none_of X G z_sum,W.mg_none_of X G z_ValueError⟩
 refine ⟨W.fnOf "law" "law" (defArgs s_law) (defBody s_law) (defScope s_law) .none kV58 dc58 pm58 an58 cd58 ct58,fun s v=>.of_eq rfl,fun base _ _=>?_⟩
 have g_FIGURES:=W.mg_of X G n_FIGURES
 have g_STYLES:=W.mg_of X G n_STYLES
 have m_PadError:=W.mg_of X G n_PadError
 have m_NoNumber:=W.mg_of X G n_NoNumber
 have m_NoFigures:=W.mg_of X G n_NoFigures
 have m_NoGroups:=W.mg_of X G n_NoGroups
 have m_NoBody:=W.mg_of X G n_NoBody
 have m_NoCore:=W.mg_of X G n_NoCore
 have m_NoValue:=W.mg_of X G n_NoValue
 have m_TooGreat:=W.mg_of X G n_TooGreat
 have m_TooWide:=W.mg_of X G n_TooWide
 have m_NoText:=W.mg_of X G n_NoText
 have m_NoSheet:=W.mg_of X G n_NoSheet
 have m_NoRow:=W.mg_of X G n_NoRow
 have m_TwoValues:=W.mg_of X G n_TwoValues
 have m_NoForm:=W.mg_of X G n_NoForm
 have m_NoLine:=W.mg_of X G n_NoLine
 have m_TooMany:=W.mg_of X G n_TooMany
 have m_TwoRows:=W.mg_of X G n_TwoRows
 have m_Form:=W.mg_of X G n_Form
 have m_NumberForm:=W.mg_of X G n_NumberForm
 have m_WordForm:=W.mg_of X G n_WordForm
 have m_ChoiceForm:=W.mg_of X G n_ChoiceForm
 have e_NoCore:Exc K c_NoCore:=⟨ex_NoCore,h1_NoCore,h2_NoCore,hb_NoCore,hd_NoCore,ha_NoCore,hn_NoCore,ht_NoCore,hm_NoCore⟩
 have e_NoValue:Exc K c_NoValue:=⟨ex_NoValue,h1_NoValue,h2_NoValue,hb_NoValue,hd_NoValue,ha_NoValue,hn_NoValue,ht_NoValue,hm_NoValue⟩
 have e_TooGreat:Exc K c_TooGreat:=⟨ex_TooGreat,h1_TooGreat,h2_TooGreat,hb_TooGreat,hd_TooGreat,ha_TooGreat,hn_TooGreat,ht_TooGreat,hm_TooGreat⟩
 have e_TooWide:Exc K c_TooWide:=⟨ex_TooWide,h1_TooWide,h2_TooWide,hb_TooWide,hd_TooWide,ha_TooWide,hn_TooWide,ht_TooWide,hm_TooWide⟩
 have cl_NumberForm:Cls K c_NumberForm:=⟨K1_NumberForm,K2_NumberForm,K3_NumberForm,K4_NumberForm⟩
 have na_NumberForm:NoAttrs K c_NumberForm ["width", "fill", "side", "strict", "figures", "places", "base", "sign", "size", "mark", "point", "way"]:=⟨N_NumberForm_width,N_NumberForm_fill,N_NumberForm_side,N_NumberForm_strict,N_NumberForm_figures,N_NumberForm_places,N_NumberForm_base,N_NumberForm_sign,N_NumberForm_size,N_NumberForm_mark,N_NumberForm_point,N_NumberForm_way,trivial⟩
 have cl_WordForm:Cls K c_WordForm:=⟨K1_WordForm,K2_WordForm,K3_WordForm,K4_WordForm⟩
 have na_WordForm:NoAttrs K c_WordForm ["width", "fill", "side", "strict", "signs", "least", "most"]:=⟨N_WordForm_width,N_WordForm_fill,N_WordForm_side,N_WordForm_strict,N_WordForm_signs,N_WordForm_least,N_WordForm_most,trivial⟩
 have cl_ChoiceForm:Cls K c_ChoiceForm:=⟨K1_ChoiceForm,K2_ChoiceForm,K3_ChoiceForm,K4_ChoiceForm⟩
 have na_ChoiceForm:NoAttrs K c_ChoiceForm ["width", "fill", "side", "strict", "names"]:=⟨N_ChoiceForm_width,N_ChoiceForm_fill,N_ChoiceForm_side,N_ChoiceForm_strict,N_ChoiceForm_names,trivial⟩
 have F0:=fun_mk (st:=s_law_cell_at) l0 c0 k0
 have H_law_cell_at:Has l.prog w K mg base "_law_cell_at" 1 ["_law_script", "_law_k"] (sp_law_cell_at K):=⟨_,_,ok_law_cell_at  F0 B   , W.mg_of X G a0,k0,F0.binds fun _ _ _ _ _ _=>(lenS fun _=>lenS fun _=>len0 (rfl))⟩
 have F1:=fun_mk (st:=s_law_pick) l1 c1 k1
 have H_law_pick:Has l.prog w K mg base "_law_pick" 1 ["_law_cell", "_law_salt", "_law_many"] (sp_law_pick K):=⟨_,_,ok_law_pick  F1 B   , W.mg_of X G a1,k1,F1.binds fun _ _ _ _ _ _=>(lenS fun _=>lenS fun _=>lenS fun _=>len0 (rfl))⟩
 have F2:=fun_mk (st:=s_pads_of) l2 c2 k2
 have H_pads_of:Has l.prog w K mg base "pads_of" 1 ["length", "width", "side"] (sp_pads_of K):=⟨_,_,ok_pads_of  F2 B   , W.mg_of X G a2,k2,F2.binds fun _ _ _ _ _ _=>(lenS fun _=>lenS fun _=>lenS fun _=>len0 (rfl))⟩
 have F3:=fun_mk (st:=s_padded) l3 c3 k3
 have H_padded:Has l.prog w K mg base "padded" 2 ["text", "width", "fill", "side"] (sp_padded K):=⟨_,_,ok_padded  F3 B H_pads_of  , W.mg_of X G a3,k3,F3.binds fun _ _ _ _ _ _=>(lenS fun _=>lenS fun _=>lenS fun _=>lenS fun _=>len0 (rfl))⟩
 have F4:=fun_mk (st:=s_power_of) l4 c4 k4
 have H_power_of:Has l.prog w K mg base "power_of" 1 ["base", "times"] (sp_power_of K):=⟨_,_,ok_power_of  F4 B   , W.mg_of X G a4,k4,F4.binds fun _ _ _ _ _ _=>(lenS fun _=>lenS fun _=>len0 (rfl))⟩
 have F5:=fun_mk (st:=s_goes_up) l5 c5 k5
 have H_goes_up:Has l.prog w K mg base "goes_up" 1 ["below", "rest", "bottom", "way"] (sp_goes_up K):=⟨_,_,ok_goes_up  F5 B   , W.mg_of X G a5,k5,F5.binds fun _ _ _ _ _ _=>(lenS fun _=>lenS fun _=>lenS fun _=>lenS fun _=>len0 (rfl))⟩
 have F6:=fun_mk (st:=s_gridded) l6 c6 k6
 have H_gridded:Has l.prog w K mg base "gridded" 2 ["value", "base", "places", "way"] (sp_gridded K):=⟨_,_,ok_gridded  F6 B H_power_of H_goes_up  , W.mg_of X G a6,k6,F6.binds fun _ _ _ _ _ _=>(lenS fun _=>lenS fun _=>lenS fun _=>lenS fun _=>len0 (rfl))⟩
 have F7:=fun_mk (st:=s_figures_of) l7 c7 k7
 have H_figures_of:Has l.prog w K mg base "figures_of" 1 ["number", "base"] (sp_figures_of K):=⟨_,_,ok_figures_of  F7 B  g_FIGURES , W.mg_of X G a7,k7,F7.binds fun _ _ _ _ _ _=>(lenS fun _=>lenS fun _=>len0 (rfl))⟩
 have F8:=fun_mk (st:=s_parts_of) l8 c8 k8
 have H_parts_of:Has l.prog w K mg base "parts_of" 1 ["text", "size", "between"] (sp_parts_of K):=⟨_,_,ok_parts_of  F8 B   , W.mg_of X G a8,k8,F8.binds fun _ _ _ _ _ _=>(lenS fun _=>lenS fun _=>lenS fun _=>len0 (rfl))⟩
 have F9:=fun_mk (st:=s_grouped) l9 c9 k9
 have H_grouped:Has l.prog w K mg base "grouped" 2 ["text", "size", "mark"] (sp_grouped K):=⟨_,_,ok_grouped  F9 B H_parts_of  , W.mg_of X G a9,k9,F9.binds fun _ _ _ _ _ _=>(lenS fun _=>lenS fun _=>lenS fun _=>len0 (rfl))⟩
 have F10:=fun_mk (st:=s_body_of) l10 c10 k10
 have H_body_of:Has l.prog w K mg base "body_of" 3 ["number", "base", "places", "point", "size", "mark"] (sp_body_of K):=⟨_,_,ok_body_of  F10 B H_grouped H_figures_of  , W.mg_of X G a10,k10,F10.binds fun _ _ _ _ _ _=>(lenS fun _=>lenS fun _=>lenS fun _=>lenS fun _=>lenS fun _=>lenS fun _=>len0 (rfl))⟩
 have F11:=fun_mk (st:=s_ends_of) l11 c11 k11
 have H_ends_of:Has l.prog w K mg base "ends_of" 1 ["style", "below"] (sp_ends_of K):=⟨_,_,ok_ends_of  F11 B  g_STYLES sty,W.mg_of X G a11,k11,F11.binds fun _ _ _ _ _ _=>(lenS fun _=>lenS fun _=>len0 (rfl))⟩
 have F12:=fun_mk (st:=s_signed) l12 c12 k12
 have H_signed:Has l.prog w K mg base "signed" 2 ["body", "style", "below"] (sp_signed K):=⟨_,_,ok_signed  F12 B H_ends_of  , W.mg_of X G a12,k12,F12.binds fun _ _ _ _ _ _=>(lenS fun _=>lenS fun _=>lenS fun _=>len0 (rfl))⟩
 have F13:=fun_mk (st:=s_stands_between_figures) l13 c13 k13
 have H_stands_between_figures:Has l.prog w K mg base "stands_between_figures" 1 ["body"] (sp_stands_between_figures K):=⟨_,_,ok_stands_between_figures  F13 B  g_FIGURES , W.mg_of X G a13,k13,F13.binds fun _ _ _ _ _ _=>(lenS fun _=>len0 (rfl))⟩
 have F14:=fun_mk (st:=s_unsigned) l14 c14 k14
 have G_unsigned:=ok_unsigned (P:=l.prog) (w:=w) (base:=base)  F14 B H_ends_of H_stands_between_figures H_signed  m_NoCore e_NoCore n_NoCore
 have H_unsigned:HasX l.prog w K mg base "unsigned" 3 ["core", "style"] (sp_unsigned K):=⟨_,_,G_unsigned,W.mg_of X G a14,k14,F14.binds fun _ _ _ _ _ _=>(lenS fun _=>lenS fun _=>len0 (rfl))⟩
 have H_unsigned0:Has l.prog w K mg base "unsigned" 3 ["core", "style"] (spc (sp_unsigned K)):=⟨_,_,G_unsigned.calm,W.mg_of X G a14,k14,F14.binds fun _ _ _ _ _ _=>(lenS fun _=>lenS fun _=>len0 (rfl))⟩
 have F15:=fun_mk (st:=s_is_whole) l15 c15 k15
 have H_is_whole:Has l.prog w K mg base "is_whole" 1 ["thing"] (sp_is_whole K):=⟨_,_,ok_is_whole  F15 B   , W.mg_of X G a15,k15,F15.binds fun _ _ _ _ _ _=>(lenS fun _=>len0 (rfl))⟩
 have F16:=fun_mk (st:=s_common_divisor) l16 c16 k16
 have H_common_divisor:Has l.prog w K mg base "common_divisor" 1 ["one", "other"] (sp_common_divisor K):=⟨_,_,ok_common_divisor  F16 B   , W.mg_of X G a16,k16,F16.binds fun _ _ _ _ _ _=>(lenS fun _=>lenS fun _=>len0 (rfl))⟩
 have F17:=fun_mk (st:=s_is_fraction) l17 c17 k17
 have H_is_fraction:Has l.prog w K mg base "is_fraction" 2 ["thing"] (sp_is_fraction K):=⟨_,_,ok_is_fraction  F17 B H_is_whole H_common_divisor  , W.mg_of X G a17,k17,F17.binds fun _ _ _ _ _ _=>(lenS fun _=>len0 (rfl))⟩
 have F18:=funD_mk (x:="__init__") (qual:="Form.__init__") (st:=s_Form___init__) l18 c18 k18
 have G_Form___init__:=ok_Form___init__ (P:=l.prog) (w:=w) (base:=base)  F18 B
 have b_Form___init__:Binds K (W.fnOf "__init__" "Form.__init__" (defArgs s_Form___init__) (defBody s_Form___init__) (defScope s_Form___init__) .none kV18 dc18 pm18 an18 cd18 ct18) ["self", "width", "fill", "side", "strict"] []:=.all (lenS fun _=>lenS fun _=>lenS fun _=>lenS fun _=>lenS fun _=>len0 (rfl))
 have F19:=funD_mk (x:="__init__") (qual:="WordForm.__init__") (st:=s_WordForm___init__) l19 c19 k19
 have G_WordForm___init__:=ok_WordForm___init__ (P:=l.prog) (w:=w) (base:=base) (c_Form:=c_Form) (c_WordForm:=c_WordForm) F19 B m_Form   ⟨_,_,G_Form___init__,⟨C1_Form_init,C2_Form_init,C3_Form_init,k18⟩,b_Form___init__⟩  cl_WordForm na_WordForm
 have b_WordForm___init__:Binds K (W.fnOf "__init__" "WordForm.__init__" (defArgs s_WordForm___init__) (defBody s_WordForm___init__) (defScope s_WordForm___init__) (.ref tD19) kV19 dc19 pm19 an19 cd19 ct19) ["self", "signs", "least", "most", "width", "fill", "side", "strict"] []:=binds_dflt dl19 rfl (lenS fun _=>lenS fun _=>lenS fun _=>lenS fun _=>lenS fun _=>lenS fun _=>lenS fun _=>lenS fun _=>len0 (⟨_,rfl,rfl⟩))
 have F20:=funD_mk (x:="__init__") (qual:="ChoiceForm.__init__") (st:=s_ChoiceForm___init__) l20 c20 k20
 have G_ChoiceForm___init__:=ok_ChoiceForm___init__ (P:=l.prog) (w:=w) (base:=base) (c_Form:=c_Form) (c_ChoiceForm:=c_ChoiceForm) F20 B m_Form   ⟨_,_,G_Form___init__,⟨C1_Form_init,C2_Form_init,C3_Form_init,k18⟩,b_Form___init__⟩  cl_ChoiceForm na_ChoiceForm
 have b_ChoiceForm___init__:Binds K (W.fnOf "__init__" "ChoiceForm.__init__" (defArgs s_ChoiceForm___init__) (defBody s_ChoiceForm___init__) (defScope s_ChoiceForm___init__) (.ref tD20) kV20 dc20 pm20 an20 cd20 ct20) ["self", "names", "width", "fill", "side", "strict"] []:=binds_dflt dl20 rfl (lenS fun _=>lenS fun _=>lenS fun _=>lenS fun _=>lenS fun _=>lenS fun _=>len0 (⟨_,rfl,rfl⟩))
 have F21:=funD_mk (x:="__init__") (qual:="NumberForm.__init__") (st:=s_NumberForm___init__) l21 c21 k21
 have G_NumberForm___init__:=ok_NumberForm___init__ (P:=l.prog) (w:=w) (base:=base) (c_Form:=c_Form) (c_NumberForm:=c_NumberForm) F21 B m_Form   ⟨_,_,G_Form___init__,⟨C1_Form_init,C2_Form_init,C3_Form_init,k18⟩,b_Form___init__⟩  cl_NumberForm na_NumberForm
 have b_NumberForm___init__:Binds K (W.fnOf "__init__" "NumberForm.__init__" (defArgs s_NumberForm___init__) (defBody s_NumberForm___init__) (defScope s_NumberForm___init__) (.ref tD21) kV21 dc21 pm21 an21 cd21 ct21) ["self", "figures", "places", "base", "sign", "size", "mark", "point", "way", "width", "fill", "side", "strict"] []:=binds_dflt dl21 rfl (lenS fun _=>lenS fun _=>lenS fun _=>lenS fun _=>lenS fun _=>lenS fun _=>lenS fun _=>lenS fun _=>lenS fun _=>lenS fun _=>lenS fun _=>lenS fun _=>lenS fun _=>len0 (⟨_,rfl,rfl⟩))
 have F22:=funD_mk (x:="is_too_great") (qual:="NumberForm.is_too_great") (st:=s_NumberForm_is_too_great) l22 c22 k22
 have G_NumberForm_is_too_great:=ok_NumberForm_is_too_great (P:=l.prog) (w:=w) (base:=base) (c_NumberForm:=c_NumberForm) F22 B H_power_of
 have b_NumberForm_is_too_great:Binds K (W.fnOf "is_too_great" "NumberForm.is_too_great" (defArgs s_NumberForm_is_too_great) (defBody s_NumberForm_is_too_great) (defScope s_NumberForm_is_too_great) .none kV22 dc22 pm22 an22 cd22 ct22) ["self", "number"] []:=.all (lenS fun _=>lenS fun _=>len0 (rfl))
 have F23:=funD_mk (x:="core") (qual:="NumberForm.core") (st:=s_NumberForm_core) l23 c23 k23
 have G_NumberForm_core:=ok_NumberForm_core (P:=l.prog) (w:=w) (base:=base) (c_NumberForm:=c_NumberForm) (c_NoValue:=c_NoValue) (c_TooGreat:=c_TooGreat) F23 B cl_NumberForm m_NoValue m_TooGreat H_gridded H_body_of H_signed H_is_fraction e_NoValue e_TooGreat ⟨_,_,G_NumberForm_is_too_great,⟨Ma_NumberForm_is_too_great,Fn_NumberForm_is_too_great,k22⟩,b_NumberForm_is_too_great⟩
 have b_NumberForm_core:Binds K (W.fnOf "core" "NumberForm.core" (defArgs s_NumberForm_core) (defBody s_NumberForm_core) (defScope s_NumberForm_core) .none kV23 dc23 pm23 an23 cd23 ct23) ["self", "value"] []:=.all (lenS fun _=>lenS fun _=>len0 (rfl))
 have F24:=funD_mk (x:="is_too_wide") (qual:="Form.is_too_wide") (st:=s_Form_is_too_wide) l24 c24 k24
 have G_Form_is_too_wide:=ok_Form_is_too_wide (P:=l.prog) (w:=w) (base:=base)  F24 B
 have b_Form_is_too_wide:Binds K (W.fnOf "is_too_wide" "Form.is_too_wide" (defArgs s_Form_is_too_wide) (defBody s_Form_is_too_wide) (defScope s_Form_is_too_wide) .none kV24 dc24 pm24 an24 cd24 ct24) ["self", "core"] []:=.all (lenS fun _=>lenS fun _=>len0 (rfl))
 have F25:=fun_mk (st:=s_padded_inside) l25 c25 k25
 have H_padded_inside:Has l.prog w K mg base "padded_inside" 3 ["lead", "rest", "width", "fill"] (sp_padded_inside K):=⟨_,_,ok_padded_inside  F25 B H_padded  , W.mg_of X G a25,k25,F25.binds fun _ _ _ _ _ _=>(lenS fun _=>lenS fun _=>lenS fun _=>lenS fun _=>len0 (rfl))⟩
 have F26:=funD_mk (x:="lead_of") (qual:="NumberForm.lead_of") (st:=s_NumberForm_lead_of) l26 c26 k26
 have G_NumberForm_lead_of:=ok_NumberForm_lead_of (P:=l.prog) (w:=w) (base:=base) (c_NumberForm:=c_NumberForm) F26 B H_ends_of H_unsigned0
 have b_NumberForm_lead_of:Binds K (W.fnOf "lead_of" "NumberForm.lead_of" (defArgs s_NumberForm_lead_of) (defBody s_NumberForm_lead_of) (defScope s_NumberForm_lead_of) .none kV26 dc26 pm26 an26 cd26 ct26) ["self", "core"] []:=.all (lenS fun _=>lenS fun _=>len0 (rfl))
 have F27:=funD_mk (x:="filled") (qual:="Form.filled") (st:=s_Form_filled) l27 c27 k27
 have G_Form_filled:=ok_Form_filled (P:=l.prog) (w:=w) (base:=base) (c_NumberForm:=c_NumberForm) F27 B cl_NumberForm H_padded_inside H_padded  ⟨_,_,G_NumberForm_lead_of,⟨Ma_NumberForm_lead_of,Fn_NumberForm_lead_of,k26⟩,b_NumberForm_lead_of⟩
 have b_Form_filled:Binds K (W.fnOf "filled" "Form.filled" (defArgs s_Form_filled) (defBody s_Form_filled) (defScope s_Form_filled) .none kV27 dc27 pm27 an27 cd27 ct27) ["self", "core"] []:=.all (lenS fun _=>lenS fun _=>len0 (rfl))
 have F28:=funD_mk (x:="is_word") (qual:="WordForm.is_word") (st:=s_WordForm_is_word) l28 c28 k28
 have G_WordForm_is_word:=ok_WordForm_is_word (P:=l.prog) (w:=w) (base:=base) (c_WordForm:=c_WordForm) F28 B
 have b_WordForm_is_word:Binds K (W.fnOf "is_word" "WordForm.is_word" (defArgs s_WordForm_is_word) (defBody s_WordForm_is_word) (defScope s_WordForm_is_word) .none kV28 dc28 pm28 an28 cd28 ct28) ["self", "thing"] []:=.all (lenS fun _=>lenS fun _=>len0 (rfl))
 have F29:=funD_mk (x:="core") (qual:="WordForm.core") (st:=s_WordForm_core) l29 c29 k29
 have G_WordForm_core:=ok_WordForm_core (P:=l.prog) (w:=w) (base:=base) (c_WordForm:=c_WordForm) (c_NoValue:=c_NoValue) F29 B cl_WordForm m_NoValue  e_NoValue ⟨_,_,G_WordForm_is_word,⟨Ma_WordForm_is_word,Fn_WordForm_is_word,k28⟩,b_WordForm_is_word⟩
 have b_WordForm_core:Binds K (W.fnOf "core" "WordForm.core" (defArgs s_WordForm_core) (defBody s_WordForm_core) (defScope s_WordForm_core) .none kV29 dc29 pm29 an29 cd29 ct29) ["self", "value"] []:=.all (lenS fun _=>lenS fun _=>len0 (rfl))
 have F30:=funD_mk (x:="core") (qual:="ChoiceForm.core") (st:=s_ChoiceForm_core) l30 c30 k30
 have G_ChoiceForm_core:=ok_ChoiceForm_core (P:=l.prog) (w:=w) (base:=base) (c_ChoiceForm:=c_ChoiceForm) (c_NoValue:=c_NoValue) F30 B m_NoValue  e_NoValue
 have b_ChoiceForm_core:Binds K (W.fnOf "core" "ChoiceForm.core" (defArgs s_ChoiceForm_core) (defBody s_ChoiceForm_core) (defScope s_ChoiceForm_core) .none kV30 dc30 pm30 an30 cd30 ct30) ["self", "value"] []:=.all (lenS fun _=>lenS fun _=>len0 (rfl))
 have F31:=funD_mk (x:="put") (qual:="Form.put") (st:=s_Form_put) l31 c31 k31
 have G_Form_put:=ok_Form_put (P:=l.prog) (w:=w) (base:=base) (c_NumberForm:=c_NumberForm) (c_WordForm:=c_WordForm) (c_ChoiceForm:=c_ChoiceForm) (c_TooWide:=c_TooWide) (c_NoValue:=c_NoValue) (c_TooGreat:=c_TooGreat) F31 B cl_NumberForm cl_WordForm cl_ChoiceForm m_TooWide  e_TooWide ⟨_,_,G_NumberForm_core,⟨Ma_NumberForm_core,Fn_NumberForm_core,k23⟩,b_NumberForm_core⟩ ⟨_,_,G_WordForm_core,⟨Ma_WordForm_core,Fn_WordForm_core,k29⟩,b_WordForm_core⟩ ⟨_,_,G_ChoiceForm_core,⟨Ma_ChoiceForm_core,Fn_ChoiceForm_core,k30⟩,b_ChoiceForm_core⟩ ⟨_,_,G_Form_is_too_wide,⟨Ma_NumberForm_is_too_wide,Fn_Form_is_too_wide,k24⟩,b_Form_is_too_wide⟩ ⟨_,_,G_Form_is_too_wide,⟨Ma_WordForm_is_too_wide,Fn_Form_is_too_wide,k24⟩,b_Form_is_too_wide⟩ ⟨_,_,G_Form_is_too_wide,⟨Ma_ChoiceForm_is_too_wide,Fn_Form_is_too_wide,k24⟩,b_Form_is_too_wide⟩ ⟨_,_,G_Form_filled,⟨Ma_NumberForm_filled,Fn_Form_filled,k27⟩,b_Form_filled⟩ ⟨_,_,G_Form_filled,⟨Ma_WordForm_filled,Fn_Form_filled,k27⟩,b_Form_filled⟩ ⟨_,_,G_Form_filled,⟨Ma_ChoiceForm_filled,Fn_Form_filled,k27⟩,b_Form_filled⟩
 have b_Form_put:Binds K (W.fnOf "put" "Form.put" (defArgs s_Form_put) (defBody s_Form_put) (defScope s_Form_put) .none kV31 dc31 pm31 an31 cd31 ct31) ["self", "value"] []:=.all (lenS fun _=>lenS fun _=>len0 (rfl))
 have F32:=fun_mk (st:=s_law_signs) l32 c32 k32
 have H_law_signs:Has l.prog w K mg base "_law_signs" 1 [] (sp_law_signs K):=⟨_,_,ok_law_signs  F32 B   , W.mg_of X G a32,k32,F32.binds fun _ _ _ _ _ _=>(len0 (rfl))⟩
 have F33:=fun_mk (st:=s_law_sign) l33 c33 k33
 have H_law_sign:Has l.prog w K mg base "_law_sign" 2 ["_law_cell", "_law_salt"] (sp_law_sign K):=⟨_,_,ok_law_sign  F33 B H_law_pick H_law_signs  , W.mg_of X G a33,k33,F33.binds fun _ _ _ _ _ _=>(lenS fun _=>lenS fun _=>len0 (rfl))⟩
 have F34:=fun_mk (st:=s_law_number_spec) l34 c34 k34
 have H_law_number_spec:Has l.prog w K mg base "_law_number_spec" 3 ["_law_cell", "_law_other", "_law_small"] (sp_law_number_spec K):=⟨_,_,ok_law_number_spec  F34 B H_law_pick H_law_sign  , W.mg_of X G a34,k34,F34.binds fun _ _ _ _ _ _=>(lenS fun _=>lenS fun _=>lenS fun _=>len0 (rfl))⟩
 have F35:=fun_mk (st:=s_law_number_form) l35 c35 k35
 have H_law_number_form:Has l.prog w K mg base "_law_number_form" 4 ["_law_spec_here"] (sp_law_number_form K c_NumberForm):=⟨_,_,ok_law_number_form (c_NumberForm:=c_NumberForm) F35 B m_NumberForm   ⟨_,_,G_NumberForm___init__,⟨I1_NumberForm,I2_NumberForm,Fn_NumberForm___init__,I4_NumberForm⟩,b_NumberForm___init__⟩  cl_NumberForm na_NumberForm,W.mg_of X G a35,k35,F35.binds fun _ _ _ _ _ _=>(lenS fun _=>len0 (rfl))⟩
 have F36:=fun_mk (st:=s_law_word_spec) l36 c36 k36
 have H_law_word_spec:Has l.prog w K mg base "_law_word_spec" 3 ["_law_cell", "_law_other", "_law_small"] (sp_law_word_spec K):=⟨_,_,ok_law_word_spec  F36 B H_law_pick H_law_signs H_law_sign  , W.mg_of X G a36,k36,F36.binds fun _ _ _ _ _ _=>(lenS fun _=>lenS fun _=>lenS fun _=>len0 (rfl))⟩
 have F37:=fun_mk (st:=s_law_names) l37 c37 k37
 have H_law_names:Has l.prog w K mg base "_law_names" 2 ["_law_cell", "_law_many"] (sp_law_names K):=⟨_,_,ok_law_names  F37 B H_law_pick H_law_signs  , W.mg_of X G a37,k37,F37.binds fun _ _ _ _ _ _=>(lenS fun _=>lenS fun _=>len0 (rfl))⟩
 have F38:=fun_mk (st:=s_law_choice_spec) l38 c38 k38
 have H_law_choice_spec:Has l.prog w K mg base "_law_choice_spec" 3 ["_law_cell", "_law_other", "_law_small"] (sp_law_choice_spec K):=⟨_,_,ok_law_choice_spec  F38 B H_law_names H_law_pick H_law_sign  , W.mg_of X G a38,k38,F38.binds fun _ _ _ _ _ _=>(lenS fun _=>lenS fun _=>lenS fun _=>len0 (rfl))⟩
 have F39:=fun_mk (st:=s_law_power) l39 c39 k39
 have H_law_power:Has l.prog w K mg base "_law_power" 1 ["_law_base", "_law_times"] (sp_law_power K):=⟨_,_,ok_law_power  F39 B   , W.mg_of X G a39,k39,F39.binds fun _ _ _ _ _ _=>(lenS fun _=>lenS fun _=>len0 (rfl))⟩
 have F40:=fun_mk (st:=s_law_divisor) l40 c40 k40
 have H_law_divisor:Has l.prog w K mg base "_law_divisor" 1 ["_law_one", "_law_other"] (sp_law_divisor K):=⟨_,_,ok_law_divisor  F40 B   , W.mg_of X G a40,k40,F40.binds fun _ _ _ _ _ _=>(lenS fun _=>lenS fun _=>len0 (rfl))⟩
 have F41:=fun_mk (st:=s_law_lowest) l41 c41 k41
 have H_law_lowest:Has l.prog w K mg base "_law_lowest" 2 ["_law_top", "_law_bottom"] (sp_law_lowest K):=⟨_,_,ok_law_lowest  F41 B H_law_divisor  , W.mg_of X G a41,k41,F41.binds fun _ _ _ _ _ _=>(lenS fun _=>lenS fun _=>len0 (rfl))⟩
 have F42:=fun_mk (st:=s_law_figures) l42 c42 k42
 have H_law_figures:Has l.prog w K mg base "_law_figures" 1 ["_law_number", "_law_base"] (sp_law_figures K):=⟨_,_,ok_law_figures  F42 B   , W.mg_of X G a42,k42,F42.binds fun _ _ _ _ _ _=>(lenS fun _=>lenS fun _=>len0 (rfl))⟩
 have F43:=fun_mk (st:=s_law_body) l43 c43 k43
 have H_law_body:Has l.prog w K mg base "_law_body" 2 ["_law_steps_here", "_law_spec_here"] (sp_law_body K):=⟨_,_,ok_law_body  F43 B H_law_power H_law_figures  , W.mg_of X G a43,k43,F43.binds fun _ _ _ _ _ _=>(lenS fun _=>lenS fun _=>len0 (rfl))⟩
 have F44:=fun_mk (st:=s_law_parts) l44 c44 k44
 have H_law_parts:Has l.prog w K mg base "_law_parts" 3 ["_law_steps_here", "_law_spec_here"] (sp_law_parts K):=⟨_,_,ok_law_parts  F44 B H_law_body  , W.mg_of X G a44,k44,F44.binds fun _ _ _ _ _ _=>(lenS fun _=>lenS fun _=>len0 (rfl))⟩
 have F45:=fun_mk (st:=s_law_great) l45 c45 k45
 have H_law_great:Has l.prog w K mg base "_law_great" 1 ["_law_cell", "_law_at", "_law_limit"] (sp_law_great K):=⟨_,_,ok_law_great  F45 B   , W.mg_of X G a45,k45,F45.binds fun _ _ _ _ _ _=>(lenS fun _=>lenS fun _=>lenS fun _=>len0 (rfl))⟩
 have F46:=fun_mk (st:=s_law_filled) l46 c46 k46
 have H_law_filled:Has l.prog w K mg base "_law_filled" 1 ["_law_lead", "_law_rest", "_law_spec_here"] (sp_law_filled K):=⟨_,_,ok_law_filled  F46 B   , W.mg_of X G a46,k46,F46.binds fun _ _ _ _ _ _=>(lenS fun _=>lenS fun _=>lenS fun _=>len0 (rfl))⟩
 have F47:=fun_mk (st:=s_law_steps) l47 c47 k47
 have H_law_steps:Has l.prog w K mg base "_law_steps" 2 ["_law_cell", "_law_limit"] (sp_law_steps K):=⟨_,_,ok_law_steps  F47 B H_law_pick H_law_great  , W.mg_of X G a47,k47,F47.binds fun _ _ _ _ _ _=>(lenS fun _=>lenS fun _=>len0 (rfl))⟩
 have F48:=fun_mk (st:=s_law_word) l48 c48 k48
 have H_law_word:Has l.prog w K mg base "_law_word" 2 ["_law_cell", "_law_signs_here", "_law_size"] (sp_law_word K):=⟨_,_,ok_law_word  F48 B H_law_pick  , W.mg_of X G a48,k48,F48.binds fun _ _ _ _ _ _=>(lenS fun _=>lenS fun _=>lenS fun _=>len0 (rfl))⟩
 have F49:=fun_mk (st:=s_law_spec) l49 c49 k49
 have H_law_spec:Has l.prog w K mg base "_law_spec" 4 ["_law_script", "_law_small"] (sp_law_spec K):=⟨_,_,ok_law_spec  F49 B H_law_pick H_law_choice_spec H_law_cell_at H_law_number_spec H_law_word_spec  , W.mg_of X G a49,k49,F49.binds fun _ _ _ _ _ _=>(lenS fun _=>lenS fun _=>len0 (rfl))⟩
 have F50:=fun_mk (st:=s_law_form) l50 c50 k50
 have H_law_form:Has l.prog w K mg base "_law_form" 5 ["_law_spec_here"] (sp_law_form K c_NumberForm c_WordForm c_ChoiceForm):=⟨_,_,ok_law_form (c_ChoiceForm:=c_ChoiceForm) (c_WordForm:=c_WordForm) (c_NumberForm:=c_NumberForm) F50 B m_ChoiceForm m_WordForm H_law_number_form  ⟨_,_,G_ChoiceForm___init__,⟨I1_ChoiceForm,I2_ChoiceForm,Fn_ChoiceForm___init__,I4_ChoiceForm⟩,b_ChoiceForm___init__⟩ ⟨_,_,G_WordForm___init__,⟨I1_WordForm,I2_WordForm,Fn_WordForm___init__,I4_WordForm⟩,b_WordForm___init__⟩  cl_WordForm na_WordForm cl_ChoiceForm na_ChoiceForm,W.mg_of X G a50,k50,F50.binds fun _ _ _ _ _ _=>(lenS fun _=>len0 (rfl))⟩
 have F51:=fun_mk (st:=s_law_value) l51 c51 k51
 have H_law_value:Has l.prog w K mg base "_law_value" 3 ["_law_cell", "_law_spec_here"] (sp_law_value K):=⟨_,_,ok_law_value  F51 B H_law_power H_law_lowest H_law_word H_law_pick H_law_steps  , W.mg_of X G a51,k51,F51.binds fun _ _ _ _ _ _=>(lenS fun _=>lenS fun _=>len0 (rfl))⟩
 have F52:=fun_mk (st:=s_law_parts_of) l52 c52 k52
 have H_law_parts_of:Has l.prog w K mg base "_law_parts_of" 4 ["_law_value_here", "_law_spec_here"] (sp_law_parts_of K):=⟨_,_,ok_law_parts_of  F52 B H_law_parts H_law_power  , W.mg_of X G a52,k52,F52.binds fun _ _ _ _ _ _=>(lenS fun _=>lenS fun _=>len0 (rfl))⟩
 have F53:=fun_mk (st:=s_law_text) l53 c53 k53
 have H_law_text:Has l.prog w K mg base "_law_text" 5 ["_law_value_here", "_law_spec_here"] (sp_law_text K):=⟨_,_,ok_law_text  F53 B H_law_parts_of H_law_filled  , W.mg_of X G a53,k53,F53.binds fun _ _ _ _ _ _=>(lenS fun _=>lenS fun _=>len0 (rfl))⟩
 have F54:=fun_mk (st:=s_law_word_of) l54 c54 k54
 have H_law_word_of:HasY l.prog w K mg base "_law_word_of" 1 ["_law_e"] (sp_law_word_of K c_NoValue c_TooGreat c_TooWide):=⟨_,_,ok_law_word_of (c_NoValue:=c_NoValue) (c_TooGreat:=c_TooGreat) (c_TooWide:=c_TooWide) F54 B   m_NoBody m_NoCore m_NoFigures m_NoForm m_NoGroups m_NoLine m_NoNumber m_NoRow m_NoSheet m_NoText m_TooMany m_TwoRows m_TwoValues m_NoValue m_TooGreat m_TooWide ⟨V9,V4,Vv,Va,Vb,Vc⟩ ⟨G9,G4,Gv,Ga,Gb,Gc⟩ ⟨T9,T4,Tv,Ta,Tb,Tc⟩,W.mg_of X G a54,k54,F54.binds fun _ _ _ _ _ _=>(lenS fun _=>len0 (rfl))⟩
 have F55:=fun_mk (st:=s_law_answer) l55 c55 k55
 have H_law_answer:Has l.prog w K mg base "_law_answer" 7 ["_law_form_here", "_law_way", "_law_value_here"] (sp_law_answer K c_NumberForm c_WordForm c_ChoiceForm c_TooWide c_NoValue c_TooGreat):=⟨_,_,ok_law_answer (c_NumberForm:=c_NumberForm) (c_WordForm:=c_WordForm) (c_ChoiceForm:=c_ChoiceForm) (c_TooWide:=c_TooWide) (c_NoValue:=c_NoValue) (c_TooGreat:=c_TooGreat) (c_PadError:=c_PadError) F55 B cl_NumberForm cl_WordForm cl_ChoiceForm m_PadError H_law_word_of  ⟨_,_,G_NumberForm_core,⟨Ma_NumberForm_core,Fn_NumberForm_core,k23⟩,b_NumberForm_core⟩ ⟨_,_,G_WordForm_core,⟨Ma_WordForm_core,Fn_WordForm_core,k29⟩,b_WordForm_core⟩ ⟨_,_,G_ChoiceForm_core,⟨Ma_ChoiceForm_core,Fn_ChoiceForm_core,k30⟩,b_ChoiceForm_core⟩ ⟨_,_,G_Form_put,⟨Ma_NumberForm_put,Fn_Form_put,k31⟩,b_Form_put⟩ ⟨_,_,G_Form_put,⟨Ma_WordForm_put,Fn_Form_put,k31⟩,b_Form_put⟩ ⟨_,_,G_Form_put,⟨Ma_ChoiceForm_put,Fn_Form_put,k31⟩,b_Form_put⟩  e_NoValue e_TooGreat e_TooWide Vx Gx Tx,W.mg_of X G a55,k55,F55.binds fun _ _ _ _ _ _=>(lenS fun _=>lenS fun _=>lenS fun _=>len0 (rfl))⟩
 have F56:=fun_mk (st:=s_law_odd) l56 c56 k56
 have H_law_odd:Has l.prog w K mg base "_law_odd" 2 ["_law_cell", "_law_spec_here"] (sp_law_odd K):=⟨_,_,ok_law_odd  F56 B H_law_pick  , W.mg_of X G a56,k56,F56.binds fun _ _ _ _ _ _=>(lenS fun _=>lenS fun _=>len0 (rfl))⟩
 have F57:=fun_mk (st:=s_law_too_great) l57 c57 k57
 have H_law_too_great:Has l.prog w K mg base "_law_too_great" 3 ["_law_cell", "_law_spec_here"] (sp_law_too_great K):=⟨_,_,ok_law_too_great  F57 B H_law_power H_law_lowest H_law_pick H_law_great  , W.mg_of X G a57,k57,F57.binds fun _ _ _ _ _ _=>(lenS fun _=>lenS fun _=>len0 (rfl))⟩
 have F58:=fun_mk (st:=s_law) l58 c58 k58
 exact ok_law (c_NumberForm:=c_NumberForm) (c_WordForm:=c_WordForm) (c_ChoiceForm:=c_ChoiceForm) (c_TooWide:=c_TooWide) (c_NoValue:=c_NoValue) (c_TooGreat:=c_TooGreat) F58 B H_law_spec H_law_form H_law_cell_at H_law_value H_law_text H_law_odd H_law_answer H_law_too_great H_law_parts_of
theorem walk {l:W.OpenLaw} {q:Program} {loose:List Str} {XP:(Str→Option Value)→Heap→Prop} {YP:World→Heap→Prop} {d:DefRec} {K:Params→W.Frag} (hn:l.most=some 63) (hdf:d.params.defaults=[])
  (hY : ∀ (w:World) (h:Heap),YP w h→(K w.params).In h)
  (F : ∀ (w:World) (mg:Str→Option Value) (fa:Addr) (h:Heap),(K w.params).In h→h.Ns mainGlobals mg→mg d.name=some (.ref fa) →
   ∃ fd:FuncData,(∀ (s:Shared) (u:Value),BindsTo s fd ⟨[u],[]⟩ [("_law_script", u)]) ∧ ∀ base:Heap,(K w.params).In base→base.Ns mainGlobals mg→FnOk l.prog w (K w.params) mg base CX0 8 fa fd ["_law_script"] (sp_law (K w.params))) :
  W.WalkO q loose XP YP l.row.toRowW d [] (fun f vs=>PySem.call f vs):=
 L2.walk_of (n:=63) (k:=8) (x:="_law_script") (CX:=fun _=>CX0) (sp:=fun w=>sp_law (K w.params)) hn (by decide) hdf ⟨rfl,by decide,by decide⟩ hY F (fun _ _ a ns hl _ hS=>⟨a,ns,rfl,hS,hl,fun _=>rfl⟩) fun _ _ _ _ _ z=>z
end Pw
namespace PySem.W.Fast
def tw1003327218220503350:=0
def tw10044247758405429766:=0
def tw10054842060669825673:=0
def tw1005925934697601945:=0
def tw10119675628513998807:=0
def tw10129417515508074168:=0
def tw10162555209267566388:=0
def tw10172059239541098970:=0
def tw10181474553579772916:=0
def tw1018182143318203389:=0
def tw10223013926610904463:=0
def tw10235127415454817226:=0
def tw10236267791802121957:=0
def tw10240516010659527769:=0
def tw10251565639538823502:=0
def tw1025902264678997553:=0
def tw10272223456995656661:=0
def tw10276269656478320624:=0
def tw1028500509180107902:=0
def tw10324705679705148079:=0
def tw10329778224571259892:=0
def tw10341942248176627814:=0
def tw10356890243853944477:=0
def tw10359930725318305395:=0
def tw10377089371581167850:=0
def tw10390193190902291061:=0
def tw1039166132125301368:=0
def tw10413716925176206645:=0
def tw10426240925926748131:=0
def tw10464661627330482765:=0
def tw104794345079658325:=0
def tw10518773703293752571:=0
def tw10530357229294005538:=0
def tw10535041442727290500:=0
def tw10535606436706919193:=0
def tw10552132185153033851:=0
def tw10566142690071805671:=0
def tw10613040671139065796:=0
def tw10649814178757491772:=0
def tw1065351047561896128:=0
def tw10666996029824846748:=0
def tw10702384291757488415:=0
def tw10703428015613068221:=0
def tw10743343209420747584:=0
def tw10754995037724091307:=0
def tw10769792757577245401:=0
def tw10823271636139259398:=0
def tw10834175798182556379:=0
def tw10839698319903326651:=0
def tw10844676548303496395:=0
def tw10850313896594179009:=0
def tw10892733057848456277:=0
def tw10911312235422504866:=0
def tw10913766313875139919:=0
def tw10915442520308178741:=0
def tw10921378435388601062:=0
def tw10968201184348375400:=0
def tw11053316545753701980:=0
def tw11074218226530035018:=0
def tw11085567843198498795:=0
def tw11108064371091059333:=0
def tw11113534952099915671:=0
def tw11123619319619608754:=0
def tw11148755150053337876:=0
def tw11173680683212533052:=0
def tw11176981039441233414:=0
def tw11193748637194015912:=0
def tw11194895496059657370:=0
def tw11234582206073493953:=0
def tw11266097542280148963:=0
def tw11275513892321612200:=0
def tw11281266239437680485:=0
def tw11286898647054009320:=0
def tw11294949347966740757:=0
def tw11302421227314644549:=0
def tw11326820209699066769:=0
def tw11340662484299597506:=0
def tw11344709946747574465:=0
def tw11347081365615103456:=0
def tw11353244724594144698:=0
def tw11393959732858382108:=0
def tw11450360046714309604:=0
def tw1148305228501721727:=0
def tw11503278675050855471:=0
def tw11508712679533165015:=0
def tw11509150413473394337:=0
def tw1151897068039662550:=0
def tw11519610088491396754:=0
def tw11532830168247767903:=0
def tw11545084273307801596:=0
def tw1156495764646481242:=0
def tw11573141329641874223:=0
def tw11578320259116998190:=0
def tw11580439556322838497:=0
def tw11612200709599528685:=0
def tw11651367240766909213:=0
def tw11662093161629902121:=0
def tw1167334384370645184:=0
def tw11683125991559496262:=0
def tw11731742491716695997:=0
def tw11733708581808331775:=0
def tw11742018274143308855:=0
def tw11746701372503457029:=0
def tw11795175628100509315:=0
def tw11807330030133862672:=0
def tw11820435205561734098:=0
def tw11825161361313836231:=0
def tw11840670191321898973:=0
def tw11845917745263412725:=0
def tw1185759387473848119:=0
def tw11875164598748155083:=0
def tw11889408878928686445:=0
def tw11897965367371397097:=0
def tw11918963270047209839:=0
def tw11942589420734005171:=0
def tw11974351075092440379:=0
def tw11978032540066430592:=0
def tw11995471645529655455:=0
def tw11996399638916867058:=0
def tw12000295533785517729:=0
def tw12020451691932906611:=0
def tw12035811271344052428:=0
def tw12043604614805586199:=0
def tw12066896962017872063:=0
def tw1208151881456866642:=0
def tw12100115435069129079:=0
def tw12116764338844754769:=0
def tw12134465536129656378:=0
def tw12138828866589510081:=0
def tw12167703704287532313:=0
def tw12216514963859010878:=0
def tw12217561408156521372:=0
def tw12219986792326308952:=0
def tw12238569411653424487:=0
def tw12241907800586667122:=0
def tw12244447126539443971:=0
def tw12252101617679045362:=0
def tw12273384076927529520:=0
def tw12308853216313588213:=0
def tw12315428869135892716:=0
def tw12368400126498404877:=0
def tw12401644959434489631:=0
def tw12405484462878047273:=0
def tw12421978371306331490:=0
def tw12423139009276701709:=0
def tw12449579370523937377:=0
def tw12473187998903658759:=0
def tw12490892159985269872:=0
def tw12512903853531149106:=0
def tw12517673232793725038:=0
def tw12532520169466058346:=0
def tw12564542080657550890:=0
def tw12572494813021490576:=0
def tw12587056544671412325:=0
def tw125930073620325828:=0
def tw12615374085381034370:=0
def tw12621031118998413063:=0
def tw12622128001933323202:=0
def tw12646644917924119610:=0
def tw12670814664929410180:=0
def tw12698898387345727927:=0
def tw12705220111368977026:=0
def tw12736915852394482651:=0
def tw12742452759173287306:=0
def tw12771664588903838578:=0
def tw12780002147059232382:=0
def tw12791160119436958874:=0
def tw12806389038126320321:=0
def tw1281198009048929350:=0
def tw12855895384865820204:=0
def tw12882734369305238085:=0
def tw12885016798838921106:=0
def tw12897710578382283936:=0
def tw12939586959658734316:=0
def tw12963579922607173487:=0
def tw12986148255819334231:=0
def tw13019042705933620872:=0
def tw13038846662049068633:=0
def tw13065914985302910365:=0
def tw13071950122479929518:=0
def tw13110904327816504298:=0
def tw13164093314180712166:=0
def tw13168146582554571637:=0
def tw13191515843648567826:=0
def tw13206002003606844558:=0
def tw13219526980522865200:=0
def tw13238711454128646034:=0
def tw13263821669120579942:=0
def tw13269141267702479359:=0
def tw13274632715115170915:=0
def tw13284243981814373888:=0
def tw13318934209441738725:=0
def tw13335559892010738437:=0
def tw13354133642456488656:=0
def tw13355332810300484403:=0
def tw13365381184460738300:=0
def tw13430132793734759184:=0
def tw13441606915477001717:=0
def tw1345755819539291390:=0
def tw13472281690120221036:=0
def tw13472757487636385847:=0
def tw13503325010691593271:=0
def tw13523852007097599259:=0
def tw13538701070812533520:=0
def tw13569135239141040146:=0
def tw13653854413392067998:=0
def tw13657793320126734683:=0
def tw1366286093250419633:=0
def tw13718055579618692915:=0
def tw13746581993808755515:=0
def tw13757434641335153313:=0
def tw13762384863609918482:=0
def tw13797775623859622117:=0
def tw13816671860980333503:=0
def tw138644214775816660:=0
def tw13896603966125128619:=0
def tw13899489697437137387:=0
def tw13905479754411413758:=0
def tw13952253046167752889:=0
def tw13955038741284897731:=0
def tw13958180952456232642:=0
def tw13992677019160219339:=0
def tw14090804392963407533:=0
def tw14105004120262533288:=0
def tw14105711508961437297:=0
def tw14130981459699439840:=0
def tw14157139549917117783:=0
def tw14173560853785416933:=0
def tw14179912082988441047:=0
def tw14182111682616734647:=0
def tw14208667861328146489:=0
def tw14211115804811199935:=0
def tw14217964385748001736:=0
def tw14233637518118724356:=0
def tw14241156290032112325:=0
def tw14262956274898898134:=0
def tw14286044325438486564:=0
def tw1430908639545307045:=0
def tw14320007220186765906:=0
def tw1433237563778102559:=0
def tw14344554425758609769:=0
def tw1435881319845181994:=0
def tw14381364587108434864:=0
def tw1442858906881195548:=0
def tw14432487723165032258:=0
def tw14441711702812093317:=0
def tw1448405976912801080:=0
def tw14543931433485055462:=0
def tw1456403103870727310:=0
def tw14565298823679152620:=0
def tw14581160148511476524:=0
def tw14601863066512618058:=0
def tw14612585400247520826:=0
def tw14651097876627902706:=0
def tw14660050440852946198:=0
def tw14666185020177814245:=0
def tw14673439210649479328:=0
def tw14675829979264534531:=0
def tw1468329762116263083:=0
def tw14685548368618257127:=0
def tw1469147221903523171:=0
def tw14695910012956089976:=0
def tw14711089860443257249:=0
def tw14754144799754543588:=0
def tw14779329327523006795:=0
def tw14814164990252937718:=0
def tw14834147056916775396:=0
def tw14834275841229311996:=0
def tw1484657786513343256:=0
def tw14856964475578329412:=0
def tw14858770650251614529:=0
def tw1486936598015045031:=0
def tw14872288758160990016:=0
def tw14888524348963739662:=0
def tw14889615782824135849:=0
def tw1489936011136737349:=0
def tw14903397253277123788:=0
def tw1490384457554468872:=0
def tw14911782587397061140:=0
def tw14917815269064380724:=0
def tw14922576236109437376:=0
def tw1493005242620969595:=0
def tw14949017816895899961:=0
def tw14983730897081843513:=0
def tw14990217265117657056:=0
def tw14997357256143138265:=0
def tw1500452362159646836:=0
def tw15046806823961290903:=0
def tw15060055052991537721:=0
def tw1509325624404663688:=0
def tw15100047626361641796:=0
def tw15115510980827637532:=0
def tw15118918505981602521:=0
def tw15160558646799751930:=0
def tw15174199687374907099:=0
def tw15198661849884368872:=0
def tw15200363937393249394:=0
def tw15238965501704487290:=0
def tw15294794486669676206:=0
def tw1530368236451806892:=0
def tw1530977674979172899:=0
def tw1532526328990172442:=0
def tw15336930664019990968:=0
def tw15365078306593457015:=0
def tw15368256852722321050:=0
def tw15384695545056184736:=0
def tw1540513853735649050:=0
def tw15573439983920516510:=0
def tw15595084027159639863:=0
def tw15603161348775745613:=0
def tw15630063303998227371:=0
def tw15663930277803223708:=0
def tw15671459451993129010:=0
def tw15726995596292425355:=0
def tw15759212557380572460:=0
def tw15768789123562874303:=0
def tw15774576025441145885:=0
def tw15806365834896435501:=0
def tw15806991812005071324:=0
def tw15873150598161015112:=0
def tw15874841968810678455:=0
def tw15901599443920518050:=0
def tw15953553600628658679:=0
def tw15974852807327912773:=0
def tw15976328307274404865:=0
def tw15978554939737425053:=0
def tw1598272127513116546:=0
def tw1602478005562875297:=0
def tw16035906710649414169:=0
def tw16042052939485842926:=0
def tw16048777709182088538:=0
def tw16057337658285541644:=0
def tw16067798296417345586:=0
def tw16122453636432256445:=0
def tw16194337439942206069:=0
def tw16200421124632566153:=0
def tw1620343444192848386:=0
def tw16208138070498127587:=0
def tw16213106278754302703:=0
def tw16237307089549203891:=0
def tw1627335321723734935:=0
def tw16371168405700394976:=0
def tw16387728652379035475:=0
def tw16399056182168531121:=0
def tw16408284675824878568:=0
def tw16421778828382169730:=0
def tw16423528383291850169:=0
def tw1650827502870605653:=0
def tw16530732238109561748:=0
def tw16560805607309404172:=0
def tw16635399097451752236:=0
def tw16648336537962667118:=0
def tw16648341803167391251:=0
def tw16660262196767854506:=0
def tw16674354356497935954:=0
def tw16677790414705350180:=0
def tw1673398642374109547:=0
def tw16742678913446163724:=0
def tw16754314851825999105:=0
def tw16760723540546302157:=0
def tw16767487181320104585:=0
def tw16770219642005456179:=0
def tw16813774606519904972:=0
def tw16834230672153282615:=0
def tw16854938140219599143:=0
def tw16901944850757273481:=0
def tw16902660360049964761:=0
def tw1691324592067566878:=0
def tw16913487935156422234:=0
def tw16943836920271761959:=0
def tw16945122876996706178:=0
def tw16978594520531749670:=0
def tw17013418106583587437:=0
def tw17017316361808022118:=0
def tw17039865209830815924:=0
def tw17050240952660431313:=0
def tw17075248988157083029:=0
def tw17091611152956153071:=0
def tw170995225949886009:=0
def tw17121929874157322245:=0
def tw17135773832205457360:=0
def tw17150489388560073586:=0
def tw17152325916767219547:=0
def tw1719744594895991531:=0
def tw1721410901250372844:=0
def tw17250733664816328980:=0
def tw17273381906730346226:=0
def tw1729535248079837557:=0
def tw17315430304206638496:=0
def tw17325132846848389805:=0
def tw17350807863021632923:=0
def tw1736125837032717095:=0
def tw17362024602923844858:=0
def tw17395165896091386304:=0
def tw17413808380254692417:=0
def tw17424849095875075862:=0
def tw17444879811219278102:=0
def tw17455448978515223265:=0
def tw17466140851238452603:=0
def tw17491321307552881825:=0
def tw17521474824950149374:=0
def tw17540639873448634939:=0
def tw17559150807637985522:=0
def tw17576262808155866364:=0
def tw17581996489108239727:=0
def tw1762213225508857290:=0
def tw17682267902398770872:=0
def tw17685438633449576907:=0
def tw17767486450147919887:=0
def tw17782495380406855943:=0
def tw17817498881358346790:=0
def tw17821703372871343679:=0
def tw17839962008973894868:=0
def tw17843148806153106156:=0
def tw17849180776611789587:=0
def tw17853053718288404506:=0
def tw17858658564606973805:=0
def tw17934746285786418633:=0
def tw17958787152634025506:=0
def tw17982180868357971447:=0
def tw17989141549346604555:=0
def tw17994047900877645754:=0
def tw18009203529793633943:=0
def tw18047274651078855387:=0
def tw18192769094227948124:=0
def tw18200684440595900833:=0
def tw18255022048151113281:=0
def tw18260671787442987381:=0
def tw18308295777788450540:=0
def tw1832053255212362399:=0
def tw18325838369477483234:=0
def tw18343794317432627568:=0
def tw1836412365749853641:=0
def tw18368392354732222468:=0
def tw18377693146409947581:=0
def tw18400813969871758547:=0
def tw18413627191879362500:=0
def tw1841884439615457388:=0
def tw18427827748138639457:=0
def tw18430331370102356557:=0
def tw1849174471226549667:=0
def tw1858333043998761040:=0
def tw1860400238339585972:=0
def tw1871637611726611928:=0
def tw1885387515408530859:=0
def tw1886551216418352711:=0
def tw1895414707615271495:=0
def tw1948581859517511006:=0
def tw1966978214738388626:=0
def tw1978071224460271521:=0
def tw1979624097660300353:=0
def tw1983478132261481426:=0
def tw199198265511782282:=0
def tw20198126645835989:=0
def tw2021803342911327802:=0
def tw2044340163896414005:=0
def tw2048908703604358701:=0
def tw205589168184023964:=0
def tw2087383747627954553:=0
def tw2091974838235966312:=0
def tw2132487137037218825:=0
def tw215202778082629130:=0
def tw2196489107918968275:=0
def tw2214111556753361970:=0
def tw2222256761797595777:=0
def tw2222959818808352539:=0
def tw225862415151684373:=0
def tw2292921376756439812:=0
def tw2302930648180130940:=0
def tw2352745613327374197:=0
def tw2362473926728211884:=0
def tw2385704950524829307:=0
def tw2388580997453876790:=0
def tw242306290296449055:=0
def tw2431826583160052791:=0
def tw2432640754130450031:=0
def tw2441384079223778938:=0
def tw2462156842678757251:=0
def tw2489855898734139664:=0
def tw2493150624372731674:=0
def tw2518912864800194624:=0
def tw2539635367680626755:=0
def tw255723884858360043:=0
def tw2562161138485987431:=0
def tw2569677674248220325:=0
def tw2574354382359024906:=0
def tw259182273259518482:=0
def tw2600462032930399762:=0
def tw2655446192399524404:=0
def tw2657295324022231059:=0
def tw2692961167688176739:=0
def tw2694340374760088236:=0
def tw2702929616507148141:=0
def tw2713501171531826162:=0
def tw272357569320389223:=0
def tw2751735092110524736:=0
def tw2805996728467171577:=0
def tw2808322078404903547:=0
def tw2818457090416913554:=0
def tw2821729363929996537:=0
def tw2821827213395030875:=0
def tw2855995934537394466:=0
def tw2871292844503403358:=0
def tw2896389843941168063:=0
def tw2920947971822608191:=0
def tw2935925861318032290:=0
def tw2937285719073083922:=0
def tw2955644257321073123:=0
def tw2984995725773932122:=0
def tw3011936140219884660:=0
def tw301729113677712788:=0
def tw3043844646033774256:=0
def tw3076947058330383988:=0
def tw3089217137401839556:=0
def tw3095387010833062844:=0
def tw3108212445089679130:=0
def tw3117824667793840275:=0
def tw3120176497003689577:=0
def tw3175270900782758098:=0
def tw3204326919927951663:=0
def tw3209688236730503819:=0
def tw3251225003176820797:=0
def tw3285279286422046614:=0
def tw328603924476171657:=0
def tw3302269071090136283:=0
def tw3303211510474195635:=0
def tw3382547215137216075:=0
def tw3400173311549070161:=0
def tw3446462901634038183:=0
def tw3459901733081391944:=0
def tw3465092555708328275:=0
def tw3488916800713105447:=0
def tw3492282401081241651:=0
def tw3513449123355728924:=0
def tw353906110474061229:=0
def tw3558680869975013180:=0
def tw3578704567652873734:=0
def tw3579485028192218731:=0
def tw358363723857989520:=0
def tw3599188724487935431:=0
def tw3607512444930106041:=0
def tw3684287987363656468:=0
def tw3734324674140161181:=0
def tw3741315256001572162:=0
def tw3781306977637314683:=0
def tw3816329190198497481:=0
def tw3831529189568533066:=0
def tw3840533096789623175:=0
def tw3865287986956930659:=0
def tw3904482825281447452:=0
def tw3932468463943768780:=0
def tw3934090792743315419:=0
def tw393531823907832685:=0
def tw3939577918268898137:=0
def tw3965099874455713544:=0
def tw3985485756418022028:=0
def tw4002400013763225778:=0
def tw4063093577287749576:=0
def tw406974962105756464:=0
def tw408482680978966575:=0
def tw4091770400283043009:=0
def tw4100513179800545651:=0
def tw4163352637844643460:=0
def tw4180604073613303361:=0
def tw4180878023692211671:=0
def tw4192478000834830362:=0
def tw4206559446995115014:=0
def tw4212220709877474460:=0
def tw4247253988817214980:=0
def tw4259176038766652629:=0
def tw4277182784749885306:=0
def tw4278827647685429166:=0
def tw4283082253145994307:=0
def tw4292287936247411973:=0
def tw430258721191360121:=0
def tw4320928288833932057:=0
def tw4359328126346383815:=0
def tw4371406929915294805:=0
def tw4406720868835338469:=0
def tw44571626888808480:=0
def tw4470720394742082699:=0
def tw4473785826729436198:=0
def tw4475467007032699768:=0
def tw4496309831258266310:=0
def tw4545222825308822427:=0
def tw4560620125504759278:=0
def tw4571390028136857582:=0
def tw4597813765256162444:=0
def tw4603178907875496637:=0
def tw4604500988050895452:=0
def tw4609371454229249953:=0
def tw4673968028226864140:=0
def tw4674894088261180280:=0
def tw4675693130233401291:=0
def tw4686442363750549726:=0
def tw4695465783969077371:=0
def tw4698133009601337817:=0
def tw4711205764133752909:=0
def tw4723973795116395847:=0
def tw4751658643967924241:=0
def tw4766560452378066862:=0
def tw4770293903815303753:=0
def tw4785685427466384725:=0
def tw4791831545976538412:=0
def tw4814409839404541235:=0
def tw4823567884515277611:=0
def tw4872432783736765424:=0
def tw4950269229776433642:=0
def tw5024019234940929725:=0
def tw5061997099175800668:=0
def tw507687550989363376:=0
def tw510377961816870314:=0
def tw5130758059288156122:=0
def tw5134825768240711715:=0
def tw5233543658414994481:=0
def tw5235771843154841162:=0
def tw5239249181085330793:=0
def tw5273395381708886269:=0
def tw5334835231092386925:=0
def tw5344676425560376308:=0
def tw5394892184190553226:=0
def tw5406907620610228407:=0
def tw5450503636216670317:=0
def tw5463241557431187245:=0
def tw5471918903665929256:=0
def tw5484580754002765591:=0
def tw5494379009536522685:=0
def tw5498598024554591480:=0
def tw5531705555885248362:=0
def tw5546250801680945287:=0
def tw5553262516858641911:=0
def tw5553751391398288447:=0
def tw5558915044532022777:=0
def tw5640368121347422239:=0
def tw5674895210839421483:=0
def tw567544374364291013:=0
def tw5677797448720006118:=0
def tw5677900066997927794:=0
def tw5701261302331980919:=0
def tw5709968702134448306:=0
def tw572431584489057778:=0
def tw5762926457082475429:=0
def tw5772905438544854207:=0
def tw5787230958765584215:=0
def tw5791403527132098513:=0
def tw5802022710646828782:=0
def tw5804504795766968007:=0
def tw5808747373908074862:=0
def tw5848303113839028050:=0
def tw5871023008345398545:=0
def tw5898236775912325234:=0
def tw5959989422262402115:=0
def tw5962536357257013854:=0
def tw5974468835446908358:=0
def tw5989586241273164997:=0
def tw6055138502448298672:=0
def tw6086003733915103314:=0
def tw6089243396821417404:=0
def tw6131585424473993369:=0
def tw613276983142189556:=0
def tw6149182985499510983:=0
def tw6180371572934717974:=0
def tw6265944394574919357:=0
def tw6282306505679278286:=0
def tw6315752209683847460:=0
def tw6372254149929111437:=0
def tw638072603265423860:=0
def tw6423823959988086997:=0
def tw6442602353098322403:=0
def tw6485935592762825436:=0
def tw6486750003485712405:=0
def tw6527215876159407723:=0
def tw653117152615461278:=0
def tw6558440942287088744:=0
def tw6560222734646046083:=0
def tw6601595728203090824:=0
def tw6601612117700462127:=0
def tw6604269110598299174:=0
def tw6619357008679797010:=0
def tw6621626950057982599:=0
def tw6622315523687127137:=0
def tw666723011921140312:=0
def tw6715388601311368490:=0
def tw672402281844115274:=0
def tw6747922793478646481:=0
def tw6765768289913297776:=0
def tw6791098395672499969:=0
def tw6818735043365638736:=0
def tw6865495570825785211:=0
def tw6867320872101039150:=0
def tw6889883827570519851:=0
def tw6893683723622976137:=0
def tw6901090719950475920:=0
def tw6924442596421691992:=0
def tw6974299653799930372:=0
def tw6982426640394315502:=0
def tw6993038073871630567:=0
def tw7000933145982637243:=0
def tw7009636460955698254:=0
def tw703031779438502674:=0
def tw7037003519072493089:=0
def tw7041260230162650532:=0
def tw7074151903228193610:=0
def tw7133104090326522975:=0
def tw7144695066646833677:=0
def tw7159971310963727228:=0
def tw7181997602053779650:=0
def tw7280079656147297512:=0
def tw7284056506153927810:=0
def tw7286100352649019852:=0
def tw7296675294668768226:=0
def tw7311558867845497232:=0
def tw7322488718415087727:=0
def tw7326587156637625827:=0
def tw7358969162704841023:=0
def tw7367013879720605579:=0
def tw7371322988685456677:=0
def tw7381857685382917447:=0
def tw7385517439119701359:=0
def tw7411584516545567790:=0
def tw7415863500393638734:=0
def tw7449571336062367782:=0
def tw7452569142035532558:=0
def tw748073209212080014:=0
def tw7546781392552247686:=0
def tw7551105760163064941:=0
def tw7578868814258095940:=0
def tw7584211747768450823:=0
def tw7653889216586275720:=0
def tw766230039636536109:=0
def tw7669844770316297046:=0
def tw7680323694645334152:=0
def tw7684522116976512134:=0
def tw7712261660293038053:=0
def tw7713947909021911842:=0
def tw7732328932714633077:=0
def tw7771327896423309233:=0
def tw7798458240933795937:=0
def tw7811919503984911531:=0
def tw7828855192095389492:=0
def tw7831424976218949747:=0
def tw7861987473814236450:=0
def tw7895530144638421938:=0
def tw7901859880213525973:=0
def tw7907902728634035696:=0
def tw7927571157387296872:=0
def tw7953764037103983177:=0
def tw7963387673954273034:=0
def tw8012628837366334717:=0
def tw8013998671264733768:=0
def tw8046587498678412698:=0
def tw8052858797591263090:=0
def tw8079063801717028644:=0
def tw8110284004731031548:=0
def tw8118690796983811172:=0
def tw8136971620907725443:=0
def tw816749758809695642:=0
def tw8175491536625126541:=0
def tw8209005065207975494:=0
def tw8209288605373810414:=0
def tw8216112883468491792:=0
def tw821943070629292503:=0
def tw8238643827991316942:=0
def tw8264792820282918767:=0
def tw829471316729320359:=0
def tw8302495894113152655:=0
def tw8311026753418938227:=0
def tw8330919707793948350:=0
def tw8343693750135884805:=0
def tw8372594169012308165:=0
def tw8401624681837262932:=0
def tw8437600977550308556:=0
def tw8441819095290663057:=0
def tw8465627755124446599:=0
def tw8479902525938372327:=0
def tw8485650523916390449:=0
def tw8493243027755619275:=0
def tw853450385266202006:=0
def tw8648664374993207428:=0
def tw8652389161248274418:=0
def tw8669485451660473260:=0
def tw8683034227201929860:=0
def tw871640879110789330:=0
def tw8726061244572125290:=0
def tw8730894570907566903:=0
def tw8754785546122313368:=0
def tw8772815449279264358:=0
def tw8814839262071401190:=0
def tw8819735166866531031:=0
def tw8825750942620252665:=0
def tw8830296322992583125:=0
def tw8853639631912328673:=0
def tw8854841322409688327:=0
def tw8866803567275484210:=0
def tw887279861072603117:=0
def tw8889068237036754741:=0
def tw890999346974659561:=0
def tw8933525450273427414:=0
def tw8949542951755028858:=0
def tw8969007616894288692:=0
def tw8969036976180725456:=0
def tw90008799619680147:=0
def tw9071069698815977868:=0
def tw9082109369566968229:=0
def tw9240507605940645243:=0
def tw9266720732183816252:=0
def tw9267964559905163949:=0
def tw9289277342956083352:=0
def tw9289534601782984561:=0
def tw9295767778869140253:=0
def tw9296844068150993030:=0
def tw9312774163156509974:=0
def tw9344104194927149447:=0
def tw9352506322087457777:=0
def tw9359099775724145364:=0
def tw9374093032428452337:=0
def tw9387410296953046554:=0
def tw9404726067810591185:=0
def tw9420034818825618343:=0
def tw9422821578114644849:=0
def tw9439212945434677790:=0
def tw9451691954467757322:=0
def tw9467620996875971827:=0
def tw9507461852415138268:=0
def tw954542521028448337:=0
def tw9552338115479187499:=0
def tw9574511321318419535:=0
def tw9582944561159665997:=0
def tw9592708458783700148:=0
def tw9627282104750872506:=0
def tw9699185837134810532:=0
def tw9702946405425070264:=0
def tw9706898112857570673:=0
def tw9730316443025677598:=0
def tw9745309718245917833:=0
def tw9775167766171504680:=0
def tw9810867639375904114:=0
def tw9821983666850914872:=0
def tw9858899142696257960:=0
def tw9865034171328045676:=0
def tw9891552747857237164:=0
def tw9906295682714277800:=0
end PySem.W.Fast
open PySem PySem.W PyProof.Rows
set_option maxRecDepth 100000 in
set_option maxHeartbeats 0 in
theorem PySem.Challenge.cw_padwright_k47_what_is_refused_holds : PySem.Challenge.rw_padwright_k47_what_is_refused.Holds := by
 w_on;o_law;k_head;(case hw=>w_witness2)
 k_fill
 refine Pw.walk (l:=PySem.Challenge.rw_padwright_k47_what_is_refused) rfl rfl (fun w h Y=>PySem.W.kIn_of Y) ?F
 case F =>
  intro w mg fa h KX G hmg
  refine' Pw.all_mk KX G hmg ?a0 ?l0 ?c0 ?k0 ?a1 ?l1 ?c1 ?k1 ?a2 ?l2 ?c2 ?k2 ?a3 ?l3 ?c3 ?k3 ?a4 ?l4 ?c4 ?k4 ?a5 ?l5 ?c5 ?k5 ?a6 ?l6 ?c6 ?k6 ?a7 ?l7 ?c7 ?k7 ?a8 ?l8 ?c8 ?k8 ?a9 ?l9 ?c9 ?k9 ?a10 ?l10 ?c10 ?k10 ?a11 ?l11 ?c11 ?k11 ?a12 ?l12 ?c12 ?k12 ?a13 ?l13 ?c13 ?k13 ?a14 ?l14 ?c14 ?k14 ?a15 ?l15 ?c15 ?k15 ?a16 ?l16 ?c16 ?k16 ?a17 ?l17 ?c17 ?k17 ?a18 ?l18 ?c18 ?k18 ?a19 ?l19 ?c19 ?k19 ?a20 ?l20 ?c20 ?k20 ?a21 ?l21 ?c21 ?k21 ?a22 ?l22 ?c22 ?k22 ?a23 ?l23 ?c23 ?k23 ?a24 ?l24 ?c24 ?k24 ?a25 ?l25 ?c25 ?k25 ?a26 ?l26 ?c26 ?k26 ?a27 ?l27 ?c27 ?k27 ?a28 ?l28 ?c28 ?k28 ?a29 ?l29 ?c29 ?k29 ?a30 ?l30 ?c30 ?k30 ?a31 ?l31 ?c31 ?k31 ?a32 ?l32 ?c32 ?k32 ?a33 ?l33 ?c33 ?k33 ?a34 ?l34 ?c34 ?k34 ?a35 ?l35 ?c35 ?k35 ?a36 ?l36 ?c36 ?k36 ?a37 ?l37 ?c37 ?k37 ?a38 ?l38 ?c38 ?k38 ?a39 ?l39 ?c39 ?k39 ?a40 ?l40 ?c40 ?k40 ?a41 ?l41 ?c41 ?k41 ?a42 ?l42 ?c42 ?k42 ?a43 ?l43 ?c43 ?k43 ?a44 ?l44 ?c44 ?k44 ?a45 ?l45 ?c45 ?k45 ?a46 ?l46 ?c46 ?k46 ?a47 ?l47 ?c47 ?k47 ?a48 ?l48 ?c48 ?k48 ?a49 ?l49 ?c49 ?k49 ?a50 ?l50 ?c50 ?k50 ?a51 ?l51 ?c51 ?k51 ?a52 ?l52 ?c52 ?k52 ?a53 ?l53 ?c53 ?k53 ?a54 ?l54 ?c54 ?k54 ?a55 ?l55 ?c55 ?k55 ?a56 ?l56 ?c56 ?k56 ?a57 ?l57 ?c57 ?k57 ?a58 ?l58 ?c58 ?k58 ?z_len ?z_range ?z_isinstance ?z_str ?z_max ?z_min ?z_int ?z_bool ?z_abs ?z_list ?z_tuple ?z_all ?z_sum ?z_ValueError ?n_FIGURES ?n_STYLES ?n_PadError ?n_NoNumber ?n_NoFigures ?n_NoGroups ?n_NoBody ?n_NoCore ?n_NoValue ?n_TooGreat ?n_TooWide ?n_NoText ?n_NoSheet ?n_NoRow ?n_TwoValues ?n_NoForm ?n_NoLine ?n_TooMany ?n_TwoRows ?n_Form ?n_NumberForm ?n_WordForm ?n_ChoiceForm ?ex_NoCore ?h1_NoCore ?h2_NoCore ?hb_NoCore ?hd_NoCore ?ha_NoCore ?hn_NoCore ?ht_NoCore ?hm_NoCore ?ex_NoValue ?h1_NoValue ?h2_NoValue ?hb_NoValue ?hd_NoValue ?ha_NoValue ?hn_NoValue ?ht_NoValue ?hm_NoValue ?ex_TooGreat ?h1_TooGreat ?h2_TooGreat ?hb_TooGreat ?hd_TooGreat ?ha_TooGreat ?hn_TooGreat ?ht_TooGreat ?hm_TooGreat ?ex_TooWide ?h1_TooWide ?h2_TooWide ?hb_TooWide ?hd_TooWide ?ha_TooWide ?hn_TooWide ?ht_TooWide ?hm_TooWide ?sty ?V9 ?V4 ?Vv ?Va ?Vb ?Vc ?Vx ?G9 ?G4 ?Gv ?Ga ?Gb ?Gc ?Gx ?T9 ?T4 ?Tv ?Ta ?Tb ?Tc ?Tx ?K1_NumberForm ?K2_NumberForm ?K3_NumberForm ?K4_NumberForm ?N_NumberForm_width ?N_NumberForm_fill ?N_NumberForm_side ?N_NumberForm_strict ?N_NumberForm_figures ?N_NumberForm_places ?N_NumberForm_base ?N_NumberForm_sign ?N_NumberForm_size ?N_NumberForm_mark ?N_NumberForm_point ?N_NumberForm_way ?K1_WordForm ?K2_WordForm ?K3_WordForm ?K4_WordForm ?N_WordForm_width ?N_WordForm_fill ?N_WordForm_side ?N_WordForm_strict ?N_WordForm_signs ?N_WordForm_least ?N_WordForm_most ?K1_ChoiceForm ?K2_ChoiceForm ?K3_ChoiceForm ?K4_ChoiceForm ?N_ChoiceForm_width ?N_ChoiceForm_fill ?N_ChoiceForm_side ?N_ChoiceForm_strict ?N_ChoiceForm_names ?C1_Form_init ?C2_Form_init ?C3_Form_init ?Fn_NumberForm_is_too_great ?Ma_NumberForm_is_too_great ?Fn_NumberForm_lead_of ?Ma_NumberForm_lead_of ?Fn_WordForm_is_word ?Ma_WordForm_is_word ?Fn_NumberForm_core ?Ma_NumberForm_core ?Fn_WordForm_core ?Ma_WordForm_core ?Fn_ChoiceForm_core ?Ma_ChoiceForm_core ?Fn_Form_is_too_wide ?Ma_NumberForm_is_too_wide ?Ma_WordForm_is_too_wide ?Ma_ChoiceForm_is_too_wide ?Fn_Form_filled ?Ma_NumberForm_filled ?Ma_WordForm_filled ?Ma_ChoiceForm_filled ?Fn_NumberForm___init__ ?I1_NumberForm ?I2_NumberForm ?I4_NumberForm ?Fn_ChoiceForm___init__ ?I1_ChoiceForm ?I2_ChoiceForm ?I4_ChoiceForm ?Fn_WordForm___init__ ?I1_WordForm ?I2_WordForm ?I4_WordForm ?Fn_Form_put ?Ma_NumberForm_put ?Ma_WordForm_put ?Ma_ChoiceForm_put ?dl19 ?dl20 ?dl21
  (case n_PadError=>k_is)
  (case n_NoNumber=>k_is)
  (case n_NoFigures=>k_is)
  (case n_NoGroups=>k_is)
  (case n_NoBody=>k_is)
  (case n_NoCore=>k_is)
  (case n_NoValue=>k_is)
  (case n_TooGreat=>k_is)
  (case n_TooWide=>k_is)
  (case n_NoText=>k_is)
  (case n_NoSheet=>k_is)
  (case n_NoRow=>k_is)
  (case n_TwoValues=>k_is)
  (case n_NoForm=>k_is)
  (case n_NoLine=>k_is)
  (case n_TooMany=>k_is)
  (case n_TwoRows=>k_is)
  (case n_Form=>k_is)
  (case n_NumberForm=>k_is)
  (case n_WordForm=>k_is)
  (case n_ChoiceForm=>k_is)
  (case a0=>k_is);(case l0=>k_is);(case c0=>k_is);(case k0=>k_is)
  (case a1=>k_is);(case l1=>k_is);(case c1=>k_is);(case k1=>k_is)
  (case a2=>k_is);(case l2=>k_is);(case c2=>k_is);(case k2=>k_is)
  (case a3=>k_is);(case l3=>k_is);(case c3=>k_is);(case k3=>k_is)
  (case a4=>k_is);(case l4=>k_is);(case c4=>k_is);(case k4=>k_is)
  (case a5=>k_is);(case l5=>k_is);(case c5=>k_is);(case k5=>k_is)
  (case a6=>k_is);(case l6=>k_is);(case c6=>k_is);(case k6=>k_is)
  (case a7=>k_is);(case l7=>k_is);(case c7=>k_is);(case k7=>k_is)
  (case a8=>k_is);(case l8=>k_is);(case c8=>k_is);(case k8=>k_is)
  (case a9=>k_is);(case l9=>k_is);(case c9=>k_is);(case k9=>k_is)
  (case a10=>k_is);(case l10=>k_is);(case c10=>k_is);(case k10=>k_is)
  (case a11=>k_is);(case l11=>k_is);(case c11=>k_is);(case k11=>k_is)
  (case a12=>k_is);(case l12=>k_is);(case c12=>k_is);(case k12=>k_is)
  (case a13=>k_is);(case l13=>k_is);(case c13=>k_is);(case k13=>k_is)
  (case a14=>k_is);(case l14=>k_is);(case c14=>k_is);(case k14=>k_is)
  (case a15=>k_is);(case l15=>k_is);(case c15=>k_is);(case k15=>k_is)
  (case a16=>k_is);(case l16=>k_is);(case c16=>k_is);(case k16=>k_is)
  (case a17=>k_is);(case l17=>k_is);(case c17=>k_is);(case k17=>k_is)
  (case a18=>k_is);(case l18=>k_is);(case c18=>k_is);(case k18=>k_is)
  (case a19=>k_is);(case l19=>k_is);(case c19=>k_is);(case k19=>k_is)
  (case a20=>k_is);(case l20=>k_is);(case c20=>k_is);(case k20=>k_is)
  (case a21=>k_is);(case l21=>k_is);(case c21=>k_is);(case k21=>k_is)
  (case a22=>k_is);(case l22=>k_is);(case c22=>k_is);(case k22=>k_is)
  (case a23=>k_is);(case l23=>k_is);(case c23=>k_is);(case k23=>k_is)
  (case a24=>k_is);(case l24=>k_is);(case c24=>k_is);(case k24=>k_is)
  (case a25=>k_is);(case l25=>k_is);(case c25=>k_is);(case k25=>k_is)
  (case a26=>k_is);(case l26=>k_is);(case c26=>k_is);(case k26=>k_is)
  (case a27=>k_is);(case l27=>k_is);(case c27=>k_is);(case k27=>k_is)
  (case a28=>k_is);(case l28=>k_is);(case c28=>k_is);(case k28=>k_is)
  (case a29=>k_is);(case l29=>k_is);(case c29=>k_is);(case k29=>k_is)
  (case a30=>k_is);(case l30=>k_is);(case c30=>k_is);(case k30=>k_is)
  (case a31=>k_is);(case l31=>k_is);(case c31=>k_is);(case k31=>k_is)
  (case a32=>k_is);(case l32=>k_is);(case c32=>k_is);(case k32=>k_is)
  (case a33=>k_is);(case l33=>k_is);(case c33=>k_is);(case k33=>k_is)
  (case a34=>k_is);(case l34=>k_is);(case c34=>k_is);(case k34=>k_is)
  (case a35=>k_is);(case l35=>k_is);(case c35=>k_is);(case k35=>k_is)
  (case a36=>k_is);(case l36=>k_is);(case c36=>k_is);(case k36=>k_is)
  (case a37=>k_is);(case l37=>k_is);(case c37=>k_is);(case k37=>k_is)
  (case a38=>k_is);(case l38=>k_is);(case c38=>k_is);(case k38=>k_is)
  (case a39=>k_is);(case l39=>k_is);(case c39=>k_is);(case k39=>k_is)
  (case a40=>k_is);(case l40=>k_is);(case c40=>k_is);(case k40=>k_is)
  (case a41=>k_is);(case l41=>k_is);(case c41=>k_is);(case k41=>k_is)
  (case a42=>k_is);(case l42=>k_is);(case c42=>k_is);(case k42=>k_is)
  (case a43=>k_is);(case l43=>k_is);(case c43=>k_is);(case k43=>k_is)
  (case a44=>k_is);(case l44=>k_is);(case c44=>k_is);(case k44=>k_is)
  (case a45=>k_is);(case l45=>k_is);(case c45=>k_is);(case k45=>k_is)
  (case a46=>k_is);(case l46=>k_is);(case c46=>k_is);(case k46=>k_is)
  (case a47=>k_is);(case l47=>k_is);(case c47=>k_is);(case k47=>k_is)
  (case a48=>k_is);(case l48=>k_is);(case c48=>k_is);(case k48=>k_is)
  (case a49=>k_is);(case l49=>k_is);(case c49=>k_is);(case k49=>k_is)
  (case a50=>k_is);(case l50=>k_is);(case c50=>k_is);(case k50=>k_is)
  (case a51=>k_is);(case l51=>k_is);(case c51=>k_is);(case k51=>k_is)
  (case a52=>k_is);(case l52=>k_is);(case c52=>k_is);(case k52=>k_is)
  (case a53=>k_is);(case l53=>k_is);(case c53=>k_is);(case k53=>k_is)
  (case a54=>k_is);(case l54=>k_is);(case c54=>k_is);(case k54=>k_is)
  (case a55=>k_is);(case l55=>k_is);(case c55=>k_is);(case k55=>k_is)
  (case a56=>k_is);(case l56=>k_is);(case c56=>k_is);(case k56=>k_is)
  (case a57=>k_is);(case l57=>k_is);(case c57=>k_is);(case k57=>k_is)
  (case a58=>k_is);(case l58=>k_is);(case c58=>k_is);(case k58=>k_is)
  (case z_len=>k_is)
  (case z_range=>k_is)
  (case z_isinstance=>k_is)
  (case z_str=>k_is)
  (case z_max=>k_is)
  (case z_min=>k_is)
  (case z_int=>k_is)
  (case z_bool=>k_is)
  (case z_abs=>k_is)
  (case z_list=>k_is)
  (case z_tuple=>k_is)
  (case z_all=>k_is)
  (case z_sum=>k_is)
  (case z_ValueError=>k_is)
  (case n_FIGURES=>k_is)
  (case n_STYLES=>k_is)
  (case ex_NoCore=>k_exc)
  (case h1_NoCore=>k_is)
  (case h2_NoCore=>k_is)
  (case hb_NoCore=>k_is)
  (case hd_NoCore=>k_is)
  (case ha_NoCore=>k_is)
  (case hn_NoCore=>k_is)
  (case ht_NoCore=>k_is)
  (case hm_NoCore=>k_is)
  (case ex_NoValue=>k_exc)
  (case h1_NoValue=>k_is)
  (case h2_NoValue=>k_is)
  (case hb_NoValue=>k_is)
  (case hd_NoValue=>k_is)
  (case ha_NoValue=>k_is)
  (case hn_NoValue=>k_is)
  (case ht_NoValue=>k_is)
  (case hm_NoValue=>k_is)
  (case ex_TooGreat=>k_exc)
  (case h1_TooGreat=>k_is)
  (case h2_TooGreat=>k_is)
  (case hb_TooGreat=>k_is)
  (case hd_TooGreat=>k_is)
  (case ha_TooGreat=>k_is)
  (case hn_TooGreat=>k_is)
  (case ht_TooGreat=>k_is)
  (case hm_TooGreat=>k_is)
  (case ex_TooWide=>k_exc)
  (case h1_TooWide=>k_is)
  (case h2_TooWide=>k_is)
  (case hb_TooWide=>k_is)
  (case hd_TooWide=>k_is)
  (case ha_TooWide=>k_is)
  (case hn_TooWide=>k_is)
  (case ht_TooWide=>k_is)
  (case hm_TooWide=>k_is)
  (case sty=>(refine' L2.sty_mk ?d ?hp0 ?ha0 ?hb0 ?hp1 ?ha1 ?hb1 ?hp2 ?ha2 ?hb2 ?hp3 ?ha3 ?hb3 ?hp4 ?ha4 ?hb4);(case d=>k_is);(case hp0=>k_is);(case ha0=>k_is);(case hb0=>k_is);(case hp1=>k_is);(case ha1=>k_is);(case hb1=>k_is);(case hp2=>k_is);(case ha2=>k_is);(case hb2=>k_is);(case hp3=>k_is);(case ha3=>k_is);(case hb3=>k_is);(case hp4=>k_is);(case ha4=>k_is);(case hb4=>k_is))
  (case V9=>kit_is)
  (case V4=>kit_is)
  (case Vv=>kit_is)
  (case Va=>kit_is)
  (case Vb=>kit_is)
  (case Vc=>kit_is)
  (case Vx=>kts_exm)
  (case G9=>kit_is)
  (case G4=>kit_is)
  (case Gv=>kit_is)
  (case Ga=>kit_is)
  (case Gb=>kit_is)
  (case Gc=>kit_is)
  (case Gx=>kts_exm)
  (case T9=>kit_is)
  (case T4=>kit_is)
  (case Tv=>kit_is)
  (case Ta=>kit_is)
  (case Tb=>kit_is)
  (case Tc=>kit_is)
  (case Tx=>kts_exm)
  (case K1_NumberForm=>k_is)
  (case K2_NumberForm=>k_is)
  (case K3_NumberForm=>k_is)
  (case K4_NumberForm=>k_is)
  (case N_NumberForm_width=>k_is)
  (case N_NumberForm_fill=>k_is)
  (case N_NumberForm_side=>k_is)
  (case N_NumberForm_strict=>k_is)
  (case N_NumberForm_figures=>k_is)
  (case N_NumberForm_places=>k_is)
  (case N_NumberForm_base=>k_is)
  (case N_NumberForm_sign=>k_is)
  (case N_NumberForm_size=>k_is)
  (case N_NumberForm_mark=>k_is)
  (case N_NumberForm_point=>k_is)
  (case N_NumberForm_way=>k_is)
  (case K1_WordForm=>k_is)
  (case K2_WordForm=>k_is)
  (case K3_WordForm=>k_is)
  (case K4_WordForm=>k_is)
  (case N_WordForm_width=>k_is)
  (case N_WordForm_fill=>k_is)
  (case N_WordForm_side=>k_is)
  (case N_WordForm_strict=>k_is)
  (case N_WordForm_signs=>k_is)
  (case N_WordForm_least=>k_is)
  (case N_WordForm_most=>k_is)
  (case K1_ChoiceForm=>k_is)
  (case K2_ChoiceForm=>k_is)
  (case K3_ChoiceForm=>k_is)
  (case K4_ChoiceForm=>k_is)
  (case N_ChoiceForm_width=>k_is)
  (case N_ChoiceForm_fill=>k_is)
  (case N_ChoiceForm_side=>k_is)
  (case N_ChoiceForm_strict=>k_is)
  (case N_ChoiceForm_names=>k_is)
  (case C1_Form_init=>k_is)
  (case C2_Form_init=>k_is)
  (case C3_Form_init=>k_is)
  (case Fn_NumberForm_is_too_great=>k_is)
  (case Ma_NumberForm_is_too_great=>k_is)
  (case Fn_NumberForm_lead_of=>k_is)
  (case Ma_NumberForm_lead_of=>k_is)
  (case Fn_WordForm_is_word=>k_is)
  (case Ma_WordForm_is_word=>k_is)
  (case Fn_NumberForm_core=>k_is)
  (case Ma_NumberForm_core=>k_is)
  (case Fn_WordForm_core=>k_is)
  (case Ma_WordForm_core=>k_is)
  (case Fn_ChoiceForm_core=>k_is)
  (case Ma_ChoiceForm_core=>k_is)
  (case Fn_Form_is_too_wide=>k_is)
  (case Ma_NumberForm_is_too_wide=>k_is)
  (case Ma_WordForm_is_too_wide=>k_is)
  (case Ma_ChoiceForm_is_too_wide=>k_is)
  (case Fn_Form_filled=>k_is)
  (case Ma_NumberForm_filled=>k_is)
  (case Ma_WordForm_filled=>k_is)
  (case Ma_ChoiceForm_filled=>k_is)
  (case Fn_NumberForm___init__=>k_is)
  (case I1_NumberForm=>k_is)
  (case I2_NumberForm=>k_is)
  (case I4_NumberForm=>k_is)
  (case Fn_ChoiceForm___init__=>k_is)
  (case I1_ChoiceForm=>k_is)
  (case I2_ChoiceForm=>k_is)
  (case I4_ChoiceForm=>k_is)
  (case Fn_WordForm___init__=>k_is)
  (case I1_WordForm=>k_is)
  (case I2_WordForm=>k_is)
  (case I4_WordForm=>k_is)
  (case Fn_Form_put=>k_is)
  (case Ma_NumberForm_put=>k_is)
  (case Ma_WordForm_put=>k_is)
  (case Ma_ChoiceForm_put=>k_is)
  (case dl19=>k_is)
  (case dl20=>k_is)
  (case dl21=>k_is)

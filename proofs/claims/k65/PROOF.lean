import PyProof.Rows.All
import KE.KDictList
import KE.KFromBytes
import KE.KItem
import KE.KNestM
import KE.KTryMore
import KE.RegKIsAll
import KE.RegKTryMore
import Wide.FinOn
import PyProof.SetKind
import PyProof.Rows.SetFrom
import PyProof.CollectWalk
import PyProof.DictWalks
import PyProof.FactsAll.set
import PyProof.ListRange
import PyProof.Rows.Range3
import PyProof.Rows.StrItems
import PyProof.Rows.StrSplit
import PySem.Challenge.RW_padwright_k65_whole_in_order
set_option Elab.async false
set_option linter.all false
set_option maxRecDepth 100000
namespace L2
open PySem PySem.Spec PyProof.Rows
abbrev Key:=Sum Int Str
def keyIs:Key→Value→Bool
 | .inl k,v=>Value.isInt k v
 | .inr x,v=>Value.isStrOf x v
def keyH (w:World):Key→Int
 | .inl k=>hashInt k
 | .inr x=>hashStr w x
theorem keyIs_shape : ∀ {k : Key} {v : Value}, keyIs k v = true → (∃ i t, k = Sum.inl i ∧ v = Value.int i t) ∨ (∃ x t, k = Sum.inr x ∧ v = Value.str x t)
  | .inl i, v, h => by
    obtain ⟨t, e⟩ := Value.isInt_shape (k := i) (v := v) h
    exact .inl ⟨i, t, rfl, e⟩
  | .inr x, v, h => by
    obtain ⟨t, e⟩ := Value.isStrOf_shape (x := x) (v := v) h
    exact .inr ⟨x, t, rfl, e⟩
theorem key_ll (a b:Int):decide ((Sum.inl a:Key)=Sum.inl b)=(a == b):=by
 by_cases e:a=b
 ·subst e;simp
 ·have h : ¬ (Sum.inl a:Key)=Sum.inl b:=fun q=>e (Sum.inl.inj q)
  rw [decide_eq_false h]
  exact (beq_eq_false_iff_ne.mpr e).symm
theorem key_rr (a b:Str):decide ((Sum.inr a:Key)=Sum.inr b)=decide (a=b):=by
 by_cases e:a=b
 ·subst e;simp
 ·have h : ¬ (Sum.inr a:Key)=Sum.inr b:=fun q=>e (Sum.inr.inj q)
  rw [decide_eq_false h,decide_eq_false e]
theorem key_lr (a:Int) (b:Str):decide ((Sum.inl a:Key)=Sum.inr b)=false:=decide_eq_false (fun q=>nomatch q)
theorem key_rl (a:Str) (b:Int):decide ((Sum.inr a:Key)=Sum.inl b)=false:=decide_eq_false (fun q=>nomatch q)
def mixKind (prog:Program) (w:World):PySem.KeyKind prog w Key where
 is:=keyIs
 hash:=keyH w
 inj:=fun v a b ha hb=>by
  rcases keyIs_shape ha with ⟨i,t,rfl,rfl⟩ | ⟨x,t,rfl,rfl⟩
  ·rcases keyIs_shape hb with ⟨j,u,rfl,e⟩ | ⟨y,u,rfl,e⟩
   ·injection e with e1 _;rw [e1]
   ·exact nomatch e
  ·rcases keyIs_shape hb with ⟨j,u,rfl,e⟩ | ⟨y,u,rfl,e⟩
   ·exact nomatch e
   ·injection e with e1 _;rw [e1]
 byValue:=fun k v h=>by
  rcases keyIs_shape h with ⟨i,t,rfl,rfl⟩ | ⟨x,t,rfl,rfl⟩ <;> rfl
 pyHash:=fun hv h=>by
  rcases keyIs_shape hv with ⟨i,t,rfl,rfl⟩ | ⟨x,t,rfl,rfl⟩
  ·exact wpAny_pyHash_int h
  ·exact wpAny_pyHash_str h
 eqBool:=fun hu hv h=>by
  rcases keyIs_shape hu with ⟨i,t,rfl,rfl⟩ | ⟨x,t,rfl,rfl⟩
  ·rcases keyIs_shape hv with ⟨j,u,rfl,rfl⟩ | ⟨y,u,rfl,rfl⟩
   ·rw [key_ll] at h;exact wpAny_eqBool_int h
   ·rw [key_lr] at h;exact SeqAt.EqAt.int_str i t y u _ _ _ _ h
  ·rcases keyIs_shape hv with ⟨j,u,rfl,rfl⟩ | ⟨y,u,rfl,rfl⟩
   ·rw [key_rl] at h;exact SeqAt.EqAt.str_int x t j u _ _ _ _ h
   ·rw [key_rr] at h;exact wpAny_eqBool_str h
 «strs» := fun k x t v h=>by
  rcases keyIs_shape h with ⟨i,u,rfl,e⟩ | ⟨y,u,rfl,e⟩
  ·exact nomatch e
  ·injection e with e1 _
   subst e1
   cases v <;> rfl
inductive V where
 | non | bl (b:Bool) | int (i:Int) | str (x:Str) | byt (b:Array UInt8) | flt (b:UInt64) | ref (a:Addr) | ty (n:String)
 deriving DecidableEq
def RelV:V→Value→Prop
 | .non,u=>u=Value.none
 | .bl b,u=>u=Value.bool b
 | .int i,u=>∃ t,u=Value.int i t
 | .str x,u=>∃ t,u=Value.str x t
 | .byt b,u=>∃ t,u=Value.bytes b t
 | .flt b,u=>∃ t,u=Value.float b t
 | .ref a,u=>u=Value.ref a
 | .ty n,u=>u=Value.type n
abbrev Vals:List V→List Value→Prop:=Paired RelV
theorem Vals.length {xs:List V} {us:List Value} (r:Vals xs us):xs.length=us.length:=Paired.length r
theorem Vals.get : ∀ {xs : List V} {us : List Value} {i : Nat} {x : V}, Vals xs us → xs[i]? = some x → ∃ u, us[i]? = some u ∧ RelV x u
  | _, _, _, _, .nil, e => by simp at e
  | _, _, 0, _, .cons r _, e => by simp at e; subst e; exact ⟨_, rfl, r⟩
  | _, _, i + 1, x, .cons _ t, e => by
    obtain ⟨u, h1, h2⟩ := Vals.get (i := i) (x := x) t (by simpa using e)
    exact ⟨u, by simpa using h1, h2⟩
theorem Vals.set {x:V} {u:Value} (r:RelV x u) : ∀ {xs:List V} {us:List Value} (i:Nat),Vals xs us→Vals (xs.set i x) (us.set i u)
 | _,_,_,.nil=>.nil
 | _,_,0,.cons _ t=>.cons r t
 | _,_,i+1,.cons q t=>.cons q (Vals.set r i t)
theorem Vals.append : ∀ {xs ys:List V} {us ws:List Value},Vals xs us→Vals ys ws→Vals (xs++ys) (us++ws)
 | _,_,_,_,.nil,s=>s
 | _,_,_,_,.cons r t,s=>.cons r (Vals.append t s)
theorem Vals.take : ∀ {xs:List V} {us:List Value} (n:Nat),Vals xs us→Vals (xs.take n) (us.take n)
 | _,_,0,_=>.nil
 | _,_,_+1,.nil=>.nil
 | _,_,n+1,.cons r t=>.cons r (Vals.take n t)
theorem Vals.drop : ∀ {xs:List V} {us:List Value} (n:Nat),Vals xs us→Vals (xs.drop n) (us.drop n)
 | _,_,0,r=>r
 | _,_,_+1,.nil=>.nil
 | _,_,n+1,.cons _ t=>Vals.drop n t
theorem Vals.none_of : ∀ {xs:List V} {us:List Value} {i:Nat},Vals xs us→xs[i]? = none→us[i]? = none:=fun {xs us i} r e=>by
 have h1:=r.length
 have h2:xs.length≤i:=List.getElem?_eq_none_iff.mp e
 exact List.getElem?_eq_none_iff.mpr (by omega)
def RelO:Option V→Option Value→Prop
 | some v,some u=>RelV v u
 | none,none=>True
 | _,_=>False
def KV {κ:Type}:List (κ × V)→List (κ × Value)→Prop:=Paired fun (p:κ × V) (q:κ × Value)=>p.1=q.1∧RelV p.2 q.2
def kV:Key→V
 | .inl i=>.int i
 | .inr x=>.str x
inductive HO where
 | lst (xs:List V)
 | tup (xs:List V)
 | dK (kvs:List (Key × V)) | dT (kvs:List (List Key × V))
 | set (S:Int→Bool) (n:Nat)
 | ins (C dx:Addr) (fs:List (Str × V))
 | own (x:Addr)
 | xd (fs:List (Str × V))
 | met (f x:Addr)
 | rng (lo hi:Int)
 | frz (o:Obj) (u:HO)
 | tbl (ps:Array Value)
 | ext (φ:Heap→Prop)
abbrev Hp:=Addr→Option HO
def upd (H:Hp) (a:Addr) (o:HO):Hp:=fun b=>if b=a then some o else H b
theorem upd_same {H:Hp} {a:Addr} {o:HO}:upd H a o a=some o:=by unfold upd;rw [if_pos rfl]
theorem upd_ne {H:Hp} {a b:Addr} {o:HO} (h:b≠a):upd H a o b=H b:=by unfold upd;rw [if_neg h]
theorem upd_upd {H:Hp} {a:Addr} {o u:HO}:upd (upd H a o) a u=upd H a u:=by
 funext b;unfold upd;split <;> rfl
theorem ne_of {H:Hp} {a b:Addr} {o u:HO} (h:H a=some o) (h':H b=some u) (d:o≠u):a≠b:=by
 intro e;subst e;rw [h] at h';exact d (Option.some.inj h')
theorem ne_of_none {H:Hp} {a b:Addr} {o:HO} (h:H a=some o) (h':H b=none):a≠b:=by
 intro e;subst e;rw [h] at h';cases h'
section
variable (P : Program) (w : World)
def ObjOk (H:Hp) (h:Heap) (a:Addr):HO→Prop
 | .lst xs=>xs.length≤sizeLine ∧ ∃ (its:List Value) (n:Nat),Vals xs its∧h.get? a=some { cls:=.type "list", data:=.seq its.toArray n }
 | .tup xs=>xs.length≤sizeLine ∧ ∃ its:List Value,Vals xs its∧IsTup h a its.toArray
 | .dK kvs=>kvs.length≤sizeLine∧(a == sysModules)=false ∧ ∃ vs,KV kvs vs∧h.DictOf (mixKind P w) a vs
 | .dT kvs=>kvs.length≤sizeLine∧(a == sysModules)=false ∧ ∃ xs:List (List Key × Addr × Value),
   Paired (fun (p:List Key × V) (q:List Key × Addr × Value)=>p.1=q.1∧H q.2.1=some (.tup (p.1.map kV))∧RelV p.2 q.2.2) kvs xs ∧
   ∃ o es ep,h.get? a=some o∧o.ExactDict∧o.data = .dict es ep∧es.toList=xs.map (entryOfKey (tupleKind (mixKind P w)))∧(xs.map (·.1)).Nodup
 | .set S n=>h.SetOf (intKind P w) a S n
 | .ins C dx fs=>H dx=some (.own a)∧fs.length≤1000∧dx≠a∧h.get? a=some (W.instObj C dx) ∧
   ∃ mA,h.Ns1 dx mA∧(∀ f,RelO (fs.lookup f) (mA f))∧PySem.Within mA (fs.map (·.1))
 | .own _=>∃ o,h.get? a=some o
 | .xd fs=>∃ mA,h.Ns1 a mA ∧ ∀ f,RelO (fs.lookup f) (mA f)
 | .rng lo hi=>∃ t u v,h.get? a=some { cls:=.type "range", data:=.fields #[.int lo t,.int hi u,.int 1 v] }
 | .frz o u=>h.get? a=some o∧ObjOk H h a u
 | .tbl ps=>h.get? a=some { cls:=.none,data:=.fields ps }
 | .met f x=>h.get? a=some (W.methodObj (.ref f) (.ref x))
 | .ext φ=>φ h∧(∃ o,h.get? a=some o) ∧ ∀ h1 h2:Heap,φ h1→(∀ o,h1.get? a=some o→h2.get? a=some o)→φ h2
def HOk (H:Hp) (h:Heap):Prop:=∀ a o,H a=some o→ObjOk P w H h a o
end
section
variable {P : Program} {w : World} {H H' : Hp} {h h' : Heap} {a : Addr} {o : HO}
theorem ObjOk.lt (x:ObjOk P w H h a o):a < h.objs.size:=by
 cases o with
 | lst xs=>obtain ⟨_,_,_,_,e⟩:=x;exact Heap.lt_size e
 | tup xs=>obtain ⟨_,_,_,p⟩:=x;exact p.lt
 | dK kvs=>obtain ⟨_,_,_,_,o,_,_,e,_⟩:=x;exact Heap.lt_size e
 | dT kvs=>obtain ⟨_,_,_,_,o,_,_,e,_⟩:=x;exact Heap.lt_size e
 | set S n=>obtain ⟨o,_,_,_,e,_⟩:=x;exact Heap.lt_size e
 | ins C dx fs=>obtain ⟨_,_,_,e,_⟩:=x;exact Heap.lt_size e
 | own y=>obtain ⟨_,e⟩:=x;exact Heap.lt_size e
 | xd fs=>obtain ⟨_,⟨_,_,_,e,_⟩,_⟩:=x;exact Heap.lt_size e
 | rng lo hi=>obtain ⟨_,_,_,e⟩:=x;exact Heap.lt_size e
 | frz ob u=>obtain ⟨e,_⟩:=x;exact Heap.lt_size e
 | tbl ps=>exact Heap.lt_size (show h.get? a=some _ from x)
 | met f y=>exact Heap.lt_size (show h.get? a=some _ from x)
 | ext φ=>obtain ⟨_,⟨_,e⟩,_⟩:=x;exact Heap.lt_size e
theorem Paired.mapP {α β:Type} {F G:α→β→Prop} : ∀ {l₁:List α} {l₂:List β},Paired F l₁ l₂→(∀ a b,F a b→G a b)→Paired G l₁ l₂
 | _,_,.nil,_=>.nil
 | _,_,.cons r t,f=>.cons (f _ _ r) (Paired.mapP t f)
theorem ObjOk.stay (x : ObjOk P w H h a o) (k : ∀ b u, (b = a ∨ H b = some (.own a)) → h.get? b = some u → h'.get? b = some u)
    (ho : ∀ b, H b = some (.own a) → H' b = some (.own a)) (ht : ∀ b xs, H b = some (.tup xs) → H' b = some (.tup xs)) : ObjOk P w H' h' a o := by
  induction o with
  | lst xs => obtain ⟨z, its, n, r, e⟩ := x; exact ⟨z, its, n, r, k _ _ (.inl rfl) e⟩
  | tup xs => obtain ⟨z, its, r, ob, e, c⟩ := x; exact ⟨z, its, r, ob, k _ _ (.inl rfl) e, c⟩
  | dK kvs => obtain ⟨z, y, vs, r, ob, es, ep, e, c⟩ := x; exact ⟨z, y, vs, r, ob, es, ep, k _ _ (.inl rfl) e, c⟩
  | dT kvs =>
    obtain ⟨z, y, xs, r, ob, es, ep, e, c⟩ := x
    exact ⟨z, y, xs, Paired.mapP r fun p q z => ⟨z.1, ht _ _ z.2.1, z.2.2⟩, ob, es, ep, k _ _ (.inl rfl) e, c⟩
  | set S n => obtain ⟨ob, es, ep, t, e, c⟩ := x; exact ⟨ob, es, ep, t, k _ _ (.inl rfl) e, c⟩
  | ins C dx fs =>
    obtain ⟨d, z, ne, e, mA, ⟨od, es, ep, e2, c⟩, r⟩ := x
    exact ⟨ho _ d, z, ne, k _ _ (.inl rfl) e, mA, ⟨od, es, ep, k _ _ (.inr d) e2, c⟩, r⟩
  | own y => obtain ⟨ob, e⟩ := x; exact ⟨ob, k _ _ (.inl rfl) e⟩
  | xd fs => obtain ⟨mA, ⟨od, es, ep, e, c⟩, r⟩ := x; exact ⟨mA, ⟨od, es, ep, k _ _ (.inl rfl) e, c⟩, r⟩
  | rng lo hi => obtain ⟨t, u, v, e⟩ := x; exact ⟨t, u, v, k _ _ (.inl rfl) e⟩
  | frz ob u ih => obtain ⟨e, q⟩ := x; exact ⟨k _ _ (.inl rfl) e, ih q⟩
  | tbl ps =>
    have e : h.get? a = some { cls := .none, data := .fields ps } := x
    show h'.get? a = some { cls := .none, data := .fields ps }
    exact k a _ (.inl rfl) e
  | met f y =>
    have e : h.get? a = some (W.methodObj (.ref f) (.ref y)) := x
    show h'.get? a = some (W.methodObj (.ref f) (.ref y))
    exact k a _ (.inl rfl) e
  | ext φ => obtain ⟨p, ⟨o, e⟩, st⟩ := x; exact ⟨st _ _ p fun o q => k _ _ (.inl rfl) q, ⟨o, k _ _ (.inl rfl) e⟩, st⟩
theorem HOk.lt (x:HOk P w H h) (e:H a=some o):a < h.objs.size:=(x a o e).lt
theorem HOk.fresh (x:HOk P w H h) (e:h.objs.size≤a):H a=none:=by
 cases q:H a with
 | none=>rfl
 | some u=>exact absurd (Nat.lt_of_lt_of_le (x.lt q) e) (Nat.lt_irrefl _)
theorem HOk.kept (x:HOk P w H h) (k : ∀ b u,h.get? b=some u→h'.get? b=some u):HOk P w H h':=fun a o e =>
 (x a o e).stay (fun b u _ q=>k b u q) (fun _ q=>q) fun _ _ q=>q
theorem HOk.laid (x:HOk P w H h) (k : ∀ b u,h.get? b=some u→h'.get? b=some u) (hp:h.objs.size≤a) (new:ObjOk P w (upd H a o) h' a o):HOk P w (upd H a o) h':=fun b u e=>by
 have hn:=x.fresh hp
 by_cases hb:b=a
 ·subst hb;rw [upd_same] at e;cases e;exact new
 ·rw [upd_ne hb] at e
  exact (x b u e).stay (fun c v _ q=>k c v q) (fun c q=>by rw [upd_ne (ne_of_none q hn)];exact q) fun c xs q=>by rw [upd_ne (ne_of_none q hn)];exact q
end
def Rd (H:Hp) (a:Addr) (u:HO):Prop:=H a=some u ∨ ∃ o,H a=some (.frz o u)
theorem Rd.of {H:Hp} {a:Addr} {u:HO} (h:H a=some u):Rd H a u:=.inl h
theorem Rd.ok {P:Program} {w:World} {H:Hp} {h:Heap} {a:Addr} {u:HO} (r:Rd H a u) (x:HOk P w H h):ObjOk P w H h a u:=by
 rcases r with r | ⟨o,r⟩
 ·exact x a u r
 ·obtain ⟨_,q⟩:=x a _ r
  exact q
def Mut:Option HO→Prop
 | some (.lst _)=>True
 | some (.dK _)=>True
 | some (.dT _)=>True
 | some (.set _ _)=>True
 | some (.ins _ _ _)=>True
 | some (.ext _)=>True
 | _=>False
section
variable {P : Program} {w : World} {H : Hp} {h h' : Heap} {x e : Addr} {o' : HO}
theorem HOk.write (ok:HOk P w H h) (mu:Mut (H x)) (he:e=x∨H e=some (.own x)) (k : ∀ b u,b≠e→h.get? b=some u→h'.get? b=some u) (heo : ∃ u,h'.get? e=some u)
  (new:ObjOk P w (upd H x o') h' x o'):HOk P w (upd H x o') h':=fun b u q=>by
 have nown : ∀ c y,H c=some (.own y)→c≠x:=fun c y r z=>by subst z;rw [r] at mu;exact mu
 have ntup : ∀ c xs,H c=some (.tup xs)→c≠x:=fun c xs r z=>by subst z;rw [r] at mu;exact mu
 by_cases hb:b=x
 ·subst hb;rw [upd_same] at q;cases q;exact new
 ·rw [upd_ne hb] at q
  by_cases hbe:b=e
  ·have q':H b=some (.own x):=by
    rcases he with z | z
    ·exact absurd (hbe.trans z) hb
    ·rw [hbe];exact z
   rw [q] at q';cases q'
   obtain ⟨v,hv⟩:=heo
   exact ⟨v,by rw [hbe];exact hv⟩
  ·refine (ok b u q).stay (fun c v hc r=>k c v ?_ r) (fun c r=>by rw [upd_ne (nown c b r)];exact r) fun c xs r=>by rw [upd_ne (ntup c xs r)];exact r
   rcases hc with rfl | hc
   ·exact hbe
   ·rintro rfl
    rcases he with z | z
    ·exact nown c b hc z
    ·rw [hc] at z;cases z;exact hb rfl
end
structure Un (fs ex:List Addr) (H H':Hp) (h h':Heap):Prop where
 keep : ∀ b o,h.get? b=some o→H b=none→b ∉ fs→b ∉ ex→h'.get? b=some o
 slot : ∀ b o,h.get? b=some o→H b=none→b ∈ fs→b ∉ ex → ∃ sl,h'.get? b=some { o with slots:=sl }
 free : ∀ b o,h.get? b=some o→H b=none→b ∉ ex→H' b=none
 there : ∀ b o,h.get? b=some o→b ∉ ex → ∃ o',h'.get? b=some o'
 tups : ∀ b xs,H b=some (.tup xs)→H' b=some (.tup xs)
 frzs : ∀ b o u,H b=some (.frz o u)→H' b=some (.frz o u)
 tbls : ∀ b ps,H b=some (.tbl ps) → ∃ more,H' b=some (.tbl (ps++more))
section
variable {fs fs' ex ex' : List Addr} {H H1 H2 : Hp} {h h1 h2 h' : Heap} {a x e : Addr} {o : HO}
theorem Un.any (u:Un fs ex H H1 h h1) {b:Addr} {ob:Obj} (q:h.get? b=some ob) (n:H b=none) (hx:b ∉ ex) : ∃ sl,h1.get? b=some { ob with slots:=sl }:=by
 by_cases hb:b ∈ fs
 ·exact u.slot b ob q n hb hx
 ·exact ⟨ob.slots,u.keep b ob q n hb hx⟩
theorem Un.trans (a:Un fs ex H H1 h h1) (b:Un fs ex H1 H2 h1 h2):Un fs ex H H2 h h2 where
 keep:=fun c ob q n hc hx=>b.keep c ob (a.keep c ob q n hc hx) (a.free c ob q n hx) hc hx
 slot:=fun c ob q n hc hx=>by
  obtain ⟨sl,e1⟩:=a.slot c ob q n hc hx
  obtain ⟨sl',e2⟩:=b.slot c _ e1 (a.free c ob q n hx) hc hx
  exact ⟨sl',e2⟩
 free:=fun c ob q n hx=>by
  obtain ⟨o',e1⟩:=a.there c ob q hx
  exact b.free c o' e1 (a.free c ob q n hx) hx
 there:=fun c ob q hx=>by
  obtain ⟨o',e1⟩:=a.there c ob q hx
  exact b.there c o' e1 hx
 tups:=fun c xs q=>b.tups c xs (a.tups c xs q)
 frzs:=fun c ob xs q=>b.frzs c ob xs (a.frzs c ob xs q)
 tbls:=fun c ps q=>by
  obtain ⟨m1,e1⟩:=a.tbls c ps q
  obtain ⟨m2,e2⟩:=b.tbls c _ e1
  exact ⟨m1++m2,by rw [e2,Array.append_assoc]⟩
theorem Un.kept (k : ∀ b u,h.get? b=some u→h'.get? b=some u):Un fs ex H H h h':=
 ⟨fun b ob q _ _ _=>k b ob q,fun b ob q _ _ _=>⟨ob.slots,k b ob q⟩,fun _ _ _ n _=>n,fun b ob q _=>⟨ob,k b ob q⟩,fun _ _ q=>q,fun _ _ _ q=>q,fun _ ps q=>⟨#[],by rw [q];simp⟩⟩
theorem Un.refl:Un fs ex H H h h:=Un.kept fun _ _ q=>q
theorem Un.laid (k : ∀ b u,h.get? b=some u→h'.get? b=some u) (hp:h.objs.size≤a) (hn:H a=none):Un fs ex H (upd H a o) h h' where
 keep:=fun b u q _ _ _=>k b u q
 slot:=fun b u q _ _ _=>⟨u.slots,k b u q⟩
 free:=fun b u q n _=>by rw [upd_ne (Nat.ne_of_lt (Nat.lt_of_lt_of_le (Heap.lt_size q) hp))];exact n
 there:=fun b u q _=>⟨u,k b u q⟩
 tups:=fun b xs q=>by rw [upd_ne (ne_of_none q hn)];exact q
 frzs:=fun b u xs q=>by rw [upd_ne (ne_of_none q hn)];exact q
 tbls:=fun b ps q=>⟨#[],by rw [upd_ne (ne_of_none q hn),q];simp⟩
theorem Un.write (mu:Mut (H x)) (he:e=x∨H e=some (.own x)) (k : ∀ b u,b≠e→h.get? b=some u→h'.get? b=some u) (heo : ∃ u,h'.get? e=some u):Un fs ex H (upd H x o) h h':=by
 have hx : ∀ b,H b=none→b≠x:=fun b n z=>by subst z;rw [n] at mu;exact mu
 have hb : ∀ b,H b=none→b≠e:=fun b n z=>by
  subst z
  rcases he with r | r
  ·exact hx b n r
  ·rw [n] at r;cases r
 have hm : ∀ b u,H b=some u → ¬ Mut (some u)→b≠x:=fun b u q nm z=>by subst z;rw [q] at mu;exact nm mu
 refine ⟨fun b u q n _ _=>k b u (hb b n) q,fun b u q n _ _=>⟨u.slots,k b u (hb b n) q⟩,fun b u q n _=>by rw [upd_ne (hx b n)];exact n,fun b u q _=>?_,
  fun b xs q=>by rw [upd_ne (hm b _ q fun z=>z)];exact q,fun b u xs q=>by rw [upd_ne (hm b _ q fun z=>z)];exact q,fun b ps q=>⟨#[],by rw [upd_ne (hm b _ q fun z=>z),q];simp⟩⟩
 by_cases hbe:b=e
 ·subst hbe;exact heo
 ·exact ⟨u,k b u hbe q⟩
theorem Un.mono (u:Un fs ex H H1 h h1) (hs : ∀ b ∈ fs,b ∈ fs') (hx : ∀ b ∈ ex,b ∈ ex'):Un fs' ex' H H1 h h1:=
 ⟨fun b ob q n hb he=>u.keep b ob q n (fun z=>hb (hs b z)) fun z=>he (hx b z),fun _ _ q n _ he=>u.any q n fun z=>he (hx _ z),fun b ob q n he=>u.free b ob q n fun z=>he (hx b z),fun b ob q he=>u.there b ob q fun z=>he (hx b z),u.tups,u.frzs,u.tbls⟩
end
def trk (h:Heap) (H:Hp):List Addr:=(List.range h.objs.size).filter fun a=>(H a).isSome
def hidT (h:Heap) (H:Hp):Heap:=W.hideAll h (trk h H)
theorem hidT_size (h:Heap) (H:Hp):(hidT h H).objs.size=h.objs.size:=W.hideAll_size _ _
theorem hidT_get {h:Heap} {H:Hp} {b:Addr} {o:Obj} (e:h.get? b=some o) (n:H b=none):(hidT h H).get? b=some o:=
 W.hideAll_get _ e fun hm=>by
  have q:(H b).isSome=true:=(List.mem_filter.mp hm).2
  rw [n] at q;simp at q
theorem of_hidT {h : Heap} {H : Hp} {b : Addr} {o : Obj} (e : (hidT h H).get? b = some o) : h.get? b = some o ∧ H b = none := by
  have e' : h.get? b = some o := W.of_hideAll (trk h H) e
  refine ⟨e', ?_⟩
  cases q : H b with
  | none => rfl
  | some x =>
    have hm : b ∈ trk h H := List.mem_filter.mpr ⟨List.mem_range.mpr (Heap.lt_size e'), by simp [q]⟩
    have z : (hidT h H).get? b = none := W.hideAll_none (trk h H) hm
    rw [z] at e; cases e
def allNews (g h:Heap) (L:Addr):List (Addr × Obj):=(List.range h.objs.size).filterMap fun a=>if a=L∨(g.get? a).isSome=true then none else (h.get? a).map fun o=>(a,o)
def rest (g h:Heap) (L d:Addr):List (Addr × Obj):=(allNews g h L).filter fun p=>decide (p.1≠d)
structure Mod (K:W.Frag) (mg:Str→Option Value) (base:Heap):Prop where
 kin:K.In base
 glob:base.Ns mainGlobals mg
 blt : ∃ mb,base.Ns builtinsNs mb ∧ ∀ x:Str,x ≠ "__name__" → mb x=bootBuiltins x
 nolimit:base.NoLimit
structure Cx where
 prog:Program
 w:World
 K:W.Frag
 mg:Str→Option Value
 base:Heap
 A:Around
 N:List Str
 s₀:Shared
 H₀:Hp
 env:Env
 outer:List Env
 stack:List Env
 ex:List Addr
 fn:Str→Bool
 calm:Bool
 pn:List (Addr × Obj)
 xe:Value→Shared→Prop
def frs (l:List Env):List Addr:=l.filterMap (·.frame)
abbrev Cx.fs (X:Cx):List Addr:=frs X.outer
def Vis (sc:Scope) (x:Str):Prop:=sc.names.lookup x=some .local∨sc.names.lookup x=some .cell∨sc.names.lookup x=some .free
def Loc (sc:Scope) (x:Str):Prop:=sc.names.lookup x=some .local∨sc.names.lookup x=some .cell
def Look (env:Env) (h:Heap) (m:Str→Option Value) (x:Str) (u:Value):Prop:=
 (env.kindOf x=some .local∧m x=some u)∨((env.kindOf x=some .cell∨env.kindOf x=some .free) ∧ ∃ c,env.cells.lookup x=some c∧h.IsCell c (some u))
structure Cx.Ok (X:Cx):Prop where
 mod:Mod X.K X.mg X.base
 kind:X.env.scope.kind = .function
 glob:X.env.globals=mainGlobals
 blt:X.env.builtins=builtinsNs
 above:X.s₀.heap.objs.size≤X.env.locals
 inj : ∀ x y c,X.env.cells.lookup x=some c→X.env.cells.lookup y=some c→x=y
 has : ∀ x,(X.env.kindOf x=some .cell∨X.env.kindOf x=some .free) → ∃ c,X.env.cells.lookup x=some c
 cab : ∀ x c,X.fn x=true→X.env.cells.lookup x=some c→X.s₀.heap.objs.size≤c
 hd:X.calm=true→X.A.handled=none
 frames:X.A.frames=some X.stack
 stk:X.stack=X.outer∨(X.stack=X.env::X.outer∧X.env.frame=some X.env.locals)
 exf : ∀ b ∈ X.ex,b≠X.env.locals ∧ ∀ x c,X.env.cells.lookup x=some c→c≠b
 bs : ∀ b o,X.base.get? b=some o→X.s₀.heap.get? b=some o∧X.H₀ b=none
 bsz:X.base.objs.size≤X.s₀.heap.objs.size
 noex : ∀ b o,X.base.get? b=some o→b ∉ X.ex
 exfs : ∀ b ∈ X.ex,b ∉ X.fs
 funs:X.s₀.heap.FunFrames X.base X.outer
 frf : ∀ b ∈ X.fs,X.H₀ b=none
structure Inv (X:Cx) (pins:List (Addr × Obj)) (σ:List (Option V)) (H:Hp) (s:Shared):Prop where
 ok:X.Ok
 os:s.os=X.s₀.os
 bare:AllBare s.gens
 base:Un X.fs X.ex X.H₀ H X.s₀.heap s.heap
 loc : ∃ m,s.heap.Ns X.env.locals m ∧ ∀ (i:Nat) (x:Str) (v:V),X.N[i]? = some x→σ[i]? = some (some v)→Vis X.env.scope x → ∃ u,RelV v u∧Look X.env s.heap m x u
 cell : ∀ x c,X.env.cells.lookup x=some c → ∃ v,s.heap.IsCell c v
 free:H X.env.locals=none
 freeC : ∀ x c,X.env.cells.lookup x=some c→H c=none
 pin : ∀ p ∈ X.pn++pins,s.heap.get? p.1=some p.2∧H p.1=none∧p.1≠X.env.locals∧p.1 ∉ X.fs ∧ ∀ v,p.2.data ≠ .cell v
 hok:HOk X.prog X.w H s.heap
 len:σ.length=X.N.length
section
variable {X : Cx} {pins : List (Addr × Obj)} {σ : List (Option V)} {H H' : Hp} {s : Shared} {h' : Heap}
theorem Cx.Ok.nofr (ok:X.Ok) {b:Addr} {o:Obj} (e:X.base.get? b=some o):b ∉ X.fs:=fun hb=>by
 have:=(ok.funs.mem hb).1
 rw [e] at this;cases this
theorem Inv.bs (I:Inv X pins σ H s) : ∀ b o,X.base.get? b=some o→s.heap.get? b=some o∧H b=none:=fun b o e =>
 ⟨I.base.keep b o (I.ok.bs b o e).1 (I.ok.bs b o e).2 (I.ok.nofr e) (I.ok.noex b o e),I.base.free b o (I.ok.bs b o e).1 (I.ok.bs b o e).2 (I.ok.noex b o e)⟩
theorem Inv.bk (I:Inv X pins σ H s) : ∀ b o,X.base.get? b=some o→s.heap.get? b=some o:=fun b o e=>(I.bs b o e).1
theorem Inv.mod (I:Inv X pins σ H s):Mod X.K X.mg X.base:=I.ok.mod
theorem Inv.kIn (I:Inv X pins σ H s):X.K.In s.heap:=I.ok.mod.kin.keeps I.bk
theorem Inv.nolimit (I:Inv X pins σ H s):s.heap.NoLimit:=I.ok.mod.nolimit.keeps I.bk
theorem Inv.lt (I:Inv X pins σ H s):X.env.locals < s.heap.objs.size:=let ⟨_,hn,_⟩:=I.loc;hn.lt
theorem Inv.sz (I:Inv X pins σ H s):X.s₀.heap.objs.size≤s.heap.objs.size:=Nat.le_trans I.ok.above (Nat.le_of_lt I.lt)
theorem Inv.nofs (I:Inv X pins σ H s) {a:Addr} (h:s.heap.objs.size≤a):a ∉ X.fs:=fun hb=>by
 obtain ⟨_,o,ho,_⟩:=I.ok.funs.mem hb
 exact absurd (Nat.lt_of_lt_of_le (Heap.lt_size ho) (Nat.le_trans I.sz h)) (Nat.lt_irrefl _)
theorem Inv.cne (I:Inv X pins σ H s) : ∀ x c,X.env.cells.lookup x=some c→c≠X.env.locals:=fun x c e z=>by
 obtain ⟨v,o,ho,hd⟩:=I.cell x c e
 obtain ⟨m,⟨o',es,ep,ho',hd',_⟩,_⟩:=I.loc
 rw [z,ho'] at ho;cases ho;rw [hd'] at hd;cases hd
theorem Inv.funs (I : Inv X pins σ H s) : s.heap.FunFrames X.base X.outer := by
  have all : ∀ (l : List Env), (∀ b ∈ frs l, b ∈ X.fs) → X.s₀.heap.FunFrames X.base l → s.heap.FunFrames X.base l := by
    intro l
    induction l with
    | nil => intro _ _; trivial
    | cons env r ih =>
      intro hs hl
      obtain ⟨hk, ⟨L, o, hf, hn, ho, hd⟩, hr⟩ := hl
      have hL : L ∈ X.fs := hs L (by unfold frs; rw [List.filterMap_cons, hf]; exact List.mem_cons_self)
      obtain ⟨sl, e⟩ := I.base.slot L o ho (I.ok.frf L hL) hL fun z => I.ok.exfs L z hL
      exact ⟨hk, ⟨L, _, hf, hn, e, hd⟩, ih (fun b hb => hs b (by unfold frs; rw [List.filterMap_cons, hf]; exact List.mem_cons_of_mem _ hb)) hr⟩
  exact all X.outer (fun _ hb => hb) I.ok.funs
theorem Inv.stack (I:Inv X pins σ H s):s.heap.FunFrames X.base X.stack:=by
 rcases I.ok.stk with e | ⟨e,hf⟩
 ·rw [e];exact I.funs
 ·rw [e]
  obtain ⟨m,hn,_⟩:=I.loc
  refine .cons (by rw [I.ok.kind];decide) hf hn ?_ I.funs
  exact Heap.get?_none_of_le (Nat.le_trans I.ok.bsz I.ok.above)
theorem Inv.stkSub (I:Inv X pins σ H s) : ∀ b ∈ frs X.stack,b ∈ X.env.locals::X.fs:=fun b hb=>by
 rcases I.ok.stk with e | ⟨e,hf⟩
 ·rw [e] at hb;exact List.mem_cons_of_mem _ hb
 ·rw [e] at hb
  unfold frs at hb
  rw [List.filterMap_cons,hf] at hb
  exact hb
theorem Inv.stkFree (I:Inv X pins σ H s) : ∀ b ∈ frs X.stack,H b=none:=fun b hb=>by
 rcases List.mem_cons.mp (I.stkSub b hb) with e | hb
 ·rw [e];exact I.free
 ·obtain ⟨_,o,ho,_⟩:=I.ok.funs.mem hb
  exact I.base.free b o ho (I.ok.frf b hb) fun z=>I.ok.exfs b z hb
theorem Inv.step {g':Array GenState} {t':Nat} {d':Drawn} {ch:List Addr} (I:Inv X pins σ H s)
  (hch : ∀ b ∈ ch,(b ∈ X.ex∨X.s₀.heap.objs.size≤b)∧b≠X.env.locals∧(∀ x c,X.env.cells.lookup x=some c→c≠b) ∧ ∀ p ∈ X.pn++pins,p.1≠b)
  (keep : ∀ b o,b≠X.env.locals→b ∉ X.fs→b ∉ ch→s.heap.get? b=some o→H b=none→h'.get? b=some o)
  (slot : ∀ b o,b≠X.env.locals→b ∈ X.fs→b ∉ ch→s.heap.get? b=some o→H b=none → ∃ sl,h'.get? b=some { o with slots:=sl }) (free : ∀ b o,b ∉ ch→s.heap.get? b=some o→H b=none→H' b=none)
  (there : ∀ b o,b ∉ ch→s.heap.get? b=some o → ∃ o',h'.get? b=some o')
  (tups : ∀ b xs,H b=some (.tup xs)→H' b=some (.tup xs)) (frzs : ∀ b o u,H b=some (.frz o u)→H' b=some (.frz o u)) (tbls : ∀ b ps,H b=some (.tbl ps) → ∃ more,H' b=some (.tbl (ps++more)))
  (ns : ∀ m,s.heap.Ns X.env.locals m→h'.Ns X.env.locals m) (hok:HOk X.prog X.w H' h') (hg:AllBare g') :
  Inv X pins σ H' { s with heap:=h',gens:=g',drawn:=d',toks:=t' }:=by
 have neL : ∀ b o,X.s₀.heap.get? b=some o→b≠X.env.locals:=fun b o e=>Nat.ne_of_lt (Nat.lt_of_lt_of_le (Heap.lt_size e) I.ok.above)
 have neC : ∀ b o,X.s₀.heap.get? b=some o→b ∉ X.ex→b ∉ ch:=fun b o e hx hb=>by
  rcases (hch b hb).1 with z | z
  ·exact hx z
  ·exact absurd (Nat.lt_of_lt_of_le (Heap.lt_size e) z) (Nat.lt_irrefl _)
 have cellK : ∀ x c,X.env.cells.lookup x=some c → ∀ v,s.heap.IsCell c v→h'.IsCell c v:=fun x c e v ⟨o,ho,hd⟩=>by
  have nch:c ∉ ch:=fun z=>(hch c z).2.2.1 x c e rfl
  by_cases hc:c ∈ X.fs
  ·obtain ⟨sl,q⟩:=slot c o (I.cne x c e) hc nch ho (I.freeC x c e)
   exact ⟨_,q,hd⟩
  ·exact ⟨o,keep c o (I.cne x c e) hc nch ho (I.freeC x c e),hd⟩
 refine ⟨I.ok,I.os,hg,⟨fun b o e n hb hx=>?_,fun b o e n hb hx=>?_,fun b o e n hx=>?_,fun b o e hx=>?_,fun b xs e=>tups b xs (I.base.tups b xs e),fun b o xs e=>frzs b o xs (I.base.frzs b o xs e),fun b ps e=>?_⟩,?_,fun x c e=>?_,?_,fun x c e=>?_,fun p hp=>?_,hok,I.len⟩
 ·exact keep b o (neL b o e) hb (neC b o e hx) (I.base.keep b o e n hb hx) (I.base.free b o e n hx)
 ·obtain ⟨sl,e1⟩:=I.base.slot b o e n hb hx
  obtain ⟨sl',e2⟩:=slot b _ (neL b o e) hb (neC b o e hx) e1 (I.base.free b o e n hx)
  exact ⟨sl',e2⟩
 ·obtain ⟨o',e1⟩:=I.base.there b o e hx
  exact free b o' (neC b o e hx) e1 (I.base.free b o e n hx)
 ·obtain ⟨o',e1⟩:=I.base.there b o e hx
  exact there b o' (neC b o e hx) e1
 ·obtain ⟨m1,e1⟩:=I.base.tbls b ps e
  obtain ⟨m2,e2⟩:=tbls b _ e1
  exact ⟨m1++m2,by rw [e2,Array.append_assoc]⟩
 ·obtain ⟨m,hn,hl⟩:=I.loc
  refine ⟨m,ns m hn,fun i x v e1 e2 e3=>?_⟩
  obtain ⟨u,r,l⟩:=hl i x v e1 e2 e3
  refine ⟨u,r,?_⟩
  rcases l with l | ⟨k,c,e,z⟩
  ·exact .inl l
  ·exact .inr ⟨k,c,e,cellK x c e _ z⟩
 ·obtain ⟨v,z⟩:=I.cell x c e
  exact ⟨v,cellK x c e v z⟩
 ·obtain ⟨m,⟨o,_,_,ho,_⟩,_⟩:=I.loc
  exact free _ o (fun z=>(hch _ z).2.1 rfl) ho I.free
 ·obtain ⟨v,o,ho,hd⟩:=I.cell x c e
  exact free c o (fun z=>(hch c z).2.2.1 x c e rfl) ho (I.freeC x c e)
 ·obtain ⟨e,n,ne,nf,d⟩:=I.pin p hp
  have nch:p.1 ∉ ch:=fun z=>(hch p.1 z).2.2.2 p hp rfl
  exact ⟨keep p.1 p.2 ne nf nch e n,free p.1 p.2 nch e n,ne,nf,d⟩
theorem Inv.un {t':Nat} (I:Inv X pins σ H s) (u:Un X.fs [] H H' s.heap h') (hok:HOk X.prog X.w H' h'):Inv X pins σ H' { s with heap:=h',toks:=t' }:=by
 obtain ⟨m,⟨o,es,ep,ho,r⟩,_⟩:=id I.loc
 obtain ⟨sl,hL⟩:=u.any ho I.free (by simp)
 exact I.step (g':=s.gens) (d':=s.drawn) (ch:=[]) (fun _ z=>nomatch z) (fun b o _ hb _ e n=>u.keep b o e n hb (by simp)) (fun b o _ hb _ e n=>u.slot b o e n hb (by simp)) (fun b o _ e n=>u.free b o e n (by simp)) (fun b o _ e=>u.there b o e (by simp)) u.tups u.frzs u.tbls (fun m' hm=>by
  obtain ⟨o',es',ep',ho',r'⟩:=hm
  rw [ho] at ho';cases ho'
  exact ⟨_,es',ep',hL,r'⟩) hok I.bare
theorem Inv.call {g':Array GenState} {t':Nat} {d':Drawn} {ch:List Addr} (I:Inv X pins σ H s) (u:Un (frs X.stack) ch H H' s.heap h') (hok:HOk X.prog X.w H' h') (hg:AllBare g')
  (hch : ∀ b ∈ ch,(b ∈ X.ex∨X.s₀.heap.objs.size≤b)∧b≠X.env.locals∧(∀ x c,X.env.cells.lookup x=some c→c≠b) ∧ ∀ p ∈ X.pn++pins,p.1≠b) :
  Inv X pins σ H' { s with heap:=h',gens:=g',drawn:=d',toks:=t' }:=by
 obtain ⟨m,⟨o,es,ep,ho,r⟩,_⟩:=id I.loc
 obtain ⟨sl,hL⟩:=u.any ho I.free fun z=>(hch _ z).2.1 rfl
 exact I.step (ch:=ch) hch (fun b o hL hb hc e n=>u.keep b o e n (fun z=>(List.mem_cons.mp (I.stkSub b z)).elim hL hb) hc) (fun b o _ _ hc e n=>u.any e n hc) (fun b o hc e n=>u.free b o e n hc) (fun b o hc e=>u.there b o e hc) u.tups u.frzs u.tbls (fun m' hm=>by
  obtain ⟨o',es',ep',ho',r'⟩:=hm
  rw [ho] at ho';cases ho'
  exact ⟨_,es',ep',hL,r'⟩) hok hg
theorem Inv.turned {t':Nat} {it:Addr} (I:Inv X pins σ H s) (k : ∀ b o,b≠it→s.heap.get? b=some o→h'.get? b=some o) (hn:H it=none) (hL:it≠X.env.locals)
  (h1:it ∈ X.ex∨X.s₀.heap.objs.size≤it) (h2 : ∀ x c,X.env.cells.lookup x=some c→c≠it) (h3 : ∀ p ∈ X.pn++pins,p.1≠it):Inv X pins σ H { s with heap:=h',toks:=t' }:=by
 have nit : ∀ b u,H b=some u→b≠it:=fun b u e z=>by rw [z,hn] at e;cases e
 refine I.step (g':=s.gens) (d':=s.drawn) (ch:=[it]) (fun b hb=>?_) (fun b o _ _ hc e _=>k b o (fun z=>hc (by simp [z])) e) (fun b o _ _ hc e _=>⟨o.slots,k b o (fun z=>hc (by simp [z])) e⟩) (fun _ _ _ _ n=>n)
  (fun b o hc e=>⟨o,k b o (fun z=>hc (by simp [z])) e⟩) (fun _ _ e=>e) (fun _ _ _ e=>e) (fun b ps e=>⟨#[],by rw [e];simp⟩) (fun m hm=>?_) (fun b u e=>?_) I.bare
 ·have e:b=it:=by simpa using hb
  subst e
  exact ⟨h1,hL,h2,h3⟩
 ·obtain ⟨o,es,ep,ho,r⟩:=hm
  exact ⟨o,es,ep,k _ o (Ne.symm hL) ho,r⟩
 ·refine (I.hok b u e).stay (fun c v hc q=>k c v ?_ q) (fun _ q=>q) fun _ _ q=>q
  rcases hc with z | z
  ·rw [z];exact nit b u e
  ·exact nit c _ z
theorem Inv.tok (I:Inv X pins σ H s) (t:Nat):Inv X pins σ H { s with toks:=t }:=I.un (h':=s.heap) (t':=t) Un.refl I.hok
theorem Inv.kept {t':Nat} (I:Inv X pins σ H s) (k : ∀ b u,s.heap.get? b=some u→h'.get? b=some u):Inv X pins σ H { s with heap:=h',toks:=t' }:=I.un (Un.kept k) (I.hok.kept k)
theorem Inv.laid {a:Addr} {o:HO} {t':Nat} (I:Inv X pins σ H s) (k : ∀ b u,s.heap.get? b=some u→h'.get? b=some u) (hp:s.heap.objs.size≤a) (new:ObjOk X.prog X.w (upd H a o) h' a o) :
  Inv X pins σ (upd H a o) { s with heap:=h',toks:=t' }:=I.un (Un.laid k hp (I.hok.fresh hp)) (I.hok.laid k hp new)
theorem Inv.write {x e:Addr} {o:HO} {t':Nat} (I:Inv X pins σ H s) (mu:Mut (H x)) (he:e=x∨H e=some (.own x)) (k : ∀ b u,b≠e→s.heap.get? b=some u→h'.get? b=some u) (heo : ∃ u,h'.get? e=some u)
  (new:ObjOk X.prog X.w (upd H x o) h' x o):Inv X pins σ (upd H x o) { s with heap:=h',toks:=t' }:=I.un (Un.write mu he k heo) (I.hok.write mu he k heo new)
theorem Inv.pins_of {pins':List (Addr × Obj)} (I:Inv X pins σ H s) (h : ∀ p ∈ pins',s.heap.get? p.1=some p.2∧H p.1=none∧p.1≠X.env.locals∧p.1 ∉ X.fs ∧ ∀ v,p.2.data ≠ .cell v):Inv X pins' σ H s:=
 ⟨I.ok,I.os,I.bare,I.base,I.loc,I.cell,I.free,I.freeC,fun p hp=>(List.mem_append.mp hp).elim (fun z=>I.pin p (List.mem_append_left _ z)) (h p),I.hok,I.len⟩
theorem nodup_ix {N:List Str} (hN:N.Nodup) {i j:Nat} {x:Str} (a:N[i]? = some x) (b:N[j]? = some x):i=j:=by
 obtain ⟨h1,e1⟩:=List.getElem?_eq_some_iff.mp a
 obtain ⟨h2,e2⟩:=List.getElem?_eq_some_iff.mp b
 exact (List.getElem_inj hN).mp (e1.trans e2.symm)
theorem store_ok2 {M:Model} {A:Around} {E:Value→Shared→Prop} {i:Nat} {x:Str} {v:V} {u:Value} {Q:Unit→Shared→Prop} (I:Inv X pins σ H s) (hN:X.N.Nodup) (hi:X.N[i]? = some x) (hx:Loc X.env.scope x) (r:RelV v u)
  (h : ∀ s',Inv X pins (σ.set i (some v)) H s'→(∃ a,Heap.SameBut a s.heap s'.heap∧(a=X.env.locals∨X.env.cells.lookup x=some a))→Q () s') (hf:X.fn x=true∨X.env.scope.names.lookup x=some .local:=by first | exact .inl rfl | exact .inr rfl | assumption):wpAny M A (storeName X.env x u) Q E s:=by
 obtain ⟨m,hn,hl⟩:=id I.loc
 have hcls:(X.env.scope.kind == .class || (X.env.scope.kind == .module && X.env.locals != X.env.globals))=false:=by rw [I.ok.kind];rfl
 have hiσ:i < σ.length:=by rw [I.len];exact (List.getElem?_eq_some_iff.mp hi).1
 have cne:=I.cne
 have tracked : ∀ {a:Addr} {h':Heap},(∃ o,s.heap.get? a=some o∧H a=none)→Heap.SameBut a s.heap h'→HOk X.prog X.w H h':=fun {a h'} ha hs b ob e=>by
  obtain ⟨_,_,hfree⟩:=ha
  refine (I.hok b ob e).stay (fun c w' hc q=>(hs.2 c ?_).trans q) (fun _ q=>q) fun _ _ q=>q
  rintro rfl
  rcases hc with rfl | hc
  ·rw [hfree] at e;cases e
  ·rw [hfree] at hc;cases hc
 rcases hx with hk | hk
 ·refine wpAny_storeName_local hk hn (fun h' hn' hs=>?_) hcls
  obtain ⟨oL,_,_,hoL,_⟩:=id hn
  refine h _ ⟨I.ok,I.os,I.bare,⟨fun b o e n hb hx=>?_,fun b o e n hb hx=>?_,I.base.free,fun b o e hx=>?_,I.base.tups,I.base.frzs,I.base.tbls⟩,⟨_,hn',fun j y v' e1 e2 e3=>?_⟩,fun y c e=>?_,I.free,I.freeC,fun p hp=>?_,tracked ⟨oL,hoL,I.free⟩ hs,by simpa using I.len⟩ ⟨_,hs,.inl rfl⟩
  ·exact (hs.2 b (Nat.ne_of_lt (Nat.lt_of_lt_of_le (Heap.lt_size e) I.ok.above))).trans (I.base.keep b o e n hb hx)
  ·obtain ⟨sl,e1⟩:=I.base.slot b o e n hb hx
   exact ⟨sl,(hs.2 b (Nat.ne_of_lt (Nat.lt_of_lt_of_le (Heap.lt_size e) I.ok.above))).trans e1⟩
  ·obtain ⟨o',e1⟩:=I.base.there b o e hx
   exact ⟨o',(hs.2 b (Nat.ne_of_lt (Nat.lt_of_lt_of_le (Heap.lt_size e) I.ok.above))).trans e1⟩
  ·by_cases hj:j=i
   ·subst hj
    rw [hi] at e1;cases e1
    rw [List.getElem?_set_self hiσ] at e2
    cases e2
    exact ⟨u,r,.inl ⟨hk,by simp⟩⟩
   ·rw [List.getElem?_set_ne (Ne.symm hj)] at e2
    obtain ⟨u',r',q⟩:=hl j y v' e1 e2 e3
    refine ⟨u',r',?_⟩
    rcases q with ⟨k,e⟩ | ⟨k,c,e,z⟩
    ·refine .inl ⟨k,?_⟩
     have:y≠x:=fun e=>hj (nodup_ix hN e1 (e ▸ hi))
     simp [this,e]
    ·exact .inr ⟨k,c,e,z.sameBut hs (cne y c e)⟩
  ·obtain ⟨w',z⟩:=I.cell y c e
   exact ⟨w',z.sameBut hs (cne y c e)⟩
  ·obtain ⟨e,n,ne,nf,d⟩:=I.pin p hp
   exact ⟨(hs.2 p.1 ne).trans e,n,ne,nf,d⟩
 ·have hfn:X.fn x=true:=by
   rcases hf with z | z
   ·exact z
   ·rw [z] at hk;cases hk
  obtain ⟨c,hc⟩:=I.ok.has x (.inl hk)
  obtain ⟨w',z⟩:=I.cell x c hc
  refine wpAny_storeName_cell I.ok.kind hk hc z (fun h' hc' hs=>?_)
  obtain ⟨oc,hoc,hocd⟩:=id z
  refine h { s with heap:=h' } ⟨I.ok,I.os,I.bare,⟨fun b o e n hb hx=>?_,fun b o e n hb hx=>?_,I.base.free,fun b o e hx=>?_,I.base.tups,I.base.frzs,I.base.tbls⟩,⟨m,hn.sameBut hs (Ne.symm (cne x c hc)),fun j y v' e1 e2 e3=>?_⟩,fun y c' e=>?_,I.free,I.freeC,fun p hp=>?_,tracked ⟨oc,hoc,I.freeC x c hc⟩ hs,by simpa using I.len⟩ ⟨c,hs,.inr hc⟩
  ·exact (hs.2 b (Nat.ne_of_lt (Nat.lt_of_lt_of_le (Heap.lt_size e) (I.ok.cab x c hfn hc)))).trans (I.base.keep b o e n hb hx)
  ·obtain ⟨sl,e1⟩:=I.base.slot b o e n hb hx
   exact ⟨sl,(hs.2 b (Nat.ne_of_lt (Nat.lt_of_lt_of_le (Heap.lt_size e) (I.ok.cab x c hfn hc)))).trans e1⟩
  ·obtain ⟨o',e1⟩:=I.base.there b o e hx
   exact ⟨o',(hs.2 b (Nat.ne_of_lt (Nat.lt_of_lt_of_le (Heap.lt_size e) (I.ok.cab x c hfn hc)))).trans e1⟩
  ·by_cases hj:j=i
   ·subst hj
    rw [hi] at e1;cases e1
    rw [List.getElem?_set_self hiσ] at e2
    cases e2
    exact ⟨u,r,.inr ⟨.inl hk,c,hc,hc'⟩⟩
   ·rw [List.getElem?_set_ne (Ne.symm hj)] at e2
    obtain ⟨u',r',q⟩:=hl j y v' e1 e2 e3
    refine ⟨u',r',?_⟩
    rcases q with q | ⟨k,c',e,z'⟩
    ·exact .inl q
    ·refine .inr ⟨k,c',e,z'.sameBut hs ?_⟩
     rintro rfl
     exact hj (nodup_ix hN e1 (I.ok.inj _ _ _ e hc ▸ hi))
  ·by_cases hcc:c'=c
   ·subst hcc;exact ⟨_,hc'⟩
   ·obtain ⟨w2,z2⟩:=I.cell y c' e
    exact ⟨w2,z2.sameBut hs hcc⟩
  ·obtain ⟨e,n,ne,nf,d⟩:=I.pin p hp
   refine ⟨(hs.2 p.1 ?_).trans e,n,ne,nf,d⟩
   intro q
   rw [q,hoc] at e
   have q':oc=p.2:=Option.some.inj e
   exact d w' (by rw [← q'];exact hocd)
theorem store_ok {M:Model} {A:Around} {E:Value→Shared→Prop} {i:Nat} {x:Str} {v:V} {u:Value} {Q:Unit→Shared→Prop} (I:Inv X pins σ H s) (hN:X.N.Nodup) (hi:X.N[i]? = some x) (hx:Loc X.env.scope x) (r:RelV v u)
  (h : ∀ s',Inv X pins (σ.set i (some v)) H s'→Q () s') (hf:X.fn x=true∨X.env.scope.names.lookup x=some .local:=by first | exact .inl rfl | exact .inr rfl | assumption):wpAny M A (storeName X.env x u) Q E s:=
 store_ok2 I hN hi hx r (fun s' I' _=>h s' I') hf
theorem Inv.call' {s':Shared} {ch:List Addr} (I:Inv X pins σ H s) (ho:s'.os=s.os) (u:Un (frs X.stack) ch H H' s.heap s'.heap) (hok:HOk X.prog X.w H' s'.heap) (hg:AllBare s'.gens)
  (hch : ∀ b ∈ ch,(b ∈ X.ex∨X.s₀.heap.objs.size≤b)∧b≠X.env.locals∧(∀ x c,X.env.cells.lookup x=some c→c≠b) ∧ ∀ p ∈ X.pn++pins,p.1≠b):Inv X pins σ H' s':=by
 obtain ⟨h',g',d',t',o'⟩:=s'
 have e:o'=s.os:=ho
 subst e
 exact I.call (g':=g') (t':=t') (d':=d') u hok hg hch
end
abbrev XK:=Value→Option Addr→Hp→Prop
abbrev St:=List (Option V)
abbrev VK:=V→Hp→Prop
abbrev TE:=St→Hp→VK→Prop
abbrev TT:=St→Hp→(Bool→Hp→Prop)→Prop
abbrev TA:=St→Hp→(List V→Hp→Prop)→Prop
structure Ends where
 nx:St→Hp→Prop
 rt:VK
 bk:St→Hp→Prop:=fun _ _=>False
 ct:St→Hp→Prop:=fun _ _=>False
abbrev TS:=Ends→St→Hp→Prop
def EP (X:Cx) (pins:List (Addr × Obj)) (σ:St) (Q:VK) (u:Value) (s':Shared):Prop:=∃ v H',Inv X pins σ H' s'∧RelV v u∧Q v H'
def TP (X:Cx) (pins:List (Addr × Obj)) (σ:St) (Q:Bool→Hp→Prop) (b:Bool) (s':Shared):Prop:=∃ H',Inv X pins σ H' s'∧Q b H'
def AP (X:Cx) (pins:List (Addr × Obj)) (σ:St) (Q:List V→Hp→Prop) (us:List Value) (s':Shared):Prop:=∃ vs H',Inv X pins σ H' s'∧Vals vs us∧Q vs H'
def SP (X:Cx) (pins:List (Addr × Obj)) (D:Ends) (f:Flow) (s':Shared):Prop:=
 match f with
 | .next=>∃ σ' H',Inv X pins σ' H' s'∧D.nx σ' H'
 | .brk=>∃ σ' H',Inv X pins σ' H' s'∧D.bk σ' H'
 | .cont=>∃ σ' H',Inv X pins σ' H' s'∧D.ct σ' H'
 | .ret u=>∃ v σ' H',Inv X pins σ' H' s'∧RelV v u∧D.rt v H'
def PE (X:Cx) (e:Expr) (t:TE):Prop:=
 ∀ (pins:List (Addr × Obj)) (s:Shared) (σ:St) (H:Hp) (Q:VK),Inv X pins σ H s→t σ H Q→wpAny (model X.prog X.w) X.A (eval e X.env) (EP X pins σ Q) X.xe s
def PT (X:Cx) (e:Expr) (t:TT):Prop:=
 ∀ (pins:List (Addr × Obj)) (s:Shared) (σ:St) (H:Hp) (Q:Bool→Hp→Prop),Inv X pins σ H s→t σ H Q→wpAny (model X.prog X.w) X.A (isTrue e X.env (eval e X.env)) (TP X pins σ Q) X.xe s
def PW (X:Cx) (e:Expr) (t:TT):Prop:=
 ∀ (whole:Sem Value) (pins:List (Addr × Obj)) (s:Shared) (σ:St) (H:Hp) (Q:Bool→Hp→Prop),Inv X pins σ H s→t σ H Q→wpAny (model X.prog X.w) X.A (isTrue e X.env whole) (TP X pins σ Q) X.xe s
theorem PW.pt {X:Cx} {e:Expr} {t:TT} (h:PW X e t):PT X e t:=h _
def PA (X:Cx) (es:List Expr) (t:TA):Prop:=
 ∀ (pos:Pos) (pins:List (Addr × Obj)) (s:Shared) (σ:St) (H:Hp) (Q:List V→Hp→Prop),Inv X pins σ H s→t σ H Q→wpAny (model X.prog X.w) X.A (spliced (backTo pos (starEach es X.env))) (AP X pins σ Q) X.xe s
def PS (X:Cx) (st:Stmt) (t:TS):Prop:=
 ∀ (pins:List (Addr × Obj)) (s:Shared) (σ:St) (H:Hp) (D:Ends),Inv X pins σ H s→t D σ H→wpAny (model X.prog X.w) X.A (exec st X.env) (SP X pins D) X.xe s
def PSs (X:Cx) (st:List Stmt) (t:TS):Prop:=
 ∀ (pins:List (Addr × Obj)) (s:Shared) (σ:St) (H:Hp) (D:Ends),Inv X pins σ H s→t D σ H→wpAny (model X.prog X.w) X.A (execs st X.env) (SP X pins D) X.xe s
theorem thn {α:Type} {t:Sem α} {Q Q':α→Shared→Prop} {M:Model} {A:Around} {E:Value→Shared→Prop} {s:Shared} (h:wpAny M A t Q E s) (hQ : ∀ a s,Q a s→Q' a s):wpAny M A t Q' E s:=wpAny_mono h hQ fun _ _ x=>x
section
variable {X : Cx}
theorem bin {a b:Expr} {ta tb:TE} (ha:PE X a ta) (hb:PE X b tb) {pins:List (Addr × Obj)} {s:Shared} {σ:St} {H:Hp} {R:V→V→Hp→Prop} (I:Inv X pins σ H s) (h:ta σ H fun x H1=>tb σ H1 fun y H2=>R x y H2)
  {α:Type} {Q:α→Shared→Prop} {f:Value→Value→Sem α}
  (hf : ∀ v u s2 x y H2,Inv X pins σ H2 s2→RelV x v→RelV y u→R x y H2→wpAny (model X.prog X.w) X.A (f v u) Q X.xe s2) :
  wpAny (model X.prog X.w) X.A (eval a X.env) (fun v s₁=>wpAny (model X.prog X.w) X.A (eval b X.env) (fun u s₂=>wpAny (model X.prog X.w) X.A (f v u) Q X.xe s₂) X.xe s₁) X.xe s:=by
 refine thn (ha pins s σ H _ I h) fun v s1 ⟨x,H1,I1,r1,q1⟩=>?_
 refine thn (hb pins s1 σ H1 _ I1 q1) fun u s2 ⟨y,H2,I2,r2,q2⟩=>?_
 exact hf v u s2 x y H2 I2 r1 r2 q2
def tVar (i:Nat):TE:=fun σ H Q=>∃ v,σ[i]? = some (some v)∧Q v H
def tC (v:V):TE:=fun _ H Q=>Q v H
theorem pe_var {i:Nat} {x:Str} {pos:Pos} (hN:X.N[i]? = some x) (hv:Vis X.env.scope x) (hd:(x == ("__debug__" : Str))=false:=by decide) (hcd:(x == ("__classdict__" : Str))=false:=by decide):PE X (.Name x pos) (tVar i):=by
 intro pins s σ H Q I h
 obtain ⟨v,e,h⟩:=h
 obtain ⟨m,hn,hl⟩:=I.loc
 obtain ⟨u,r,l⟩:=hl i x v hN e hv
 have fin:EP X pins σ Q u s:=⟨v,H,I,r,h⟩
 rcases l with ⟨hk,hm⟩ | ⟨hk,c,hc,hcell⟩
 ·exact wpAny_Name (wpAny_loadName_local I.ok.kind hk hn hm fin) hd
 ·rcases hk with hk | hk
  ·exact wpAny_Name (wpAny_loadName_cell I.ok.kind hk hc hcell fin) hd
  ·exact wpAny_Name (wpAny_loadName_free I.ok.kind hk hc hcell fin hcd) hd
theorem pe_int {i j pos}:PE X (.Constant (.int i) j pos) (tC (.int i)):=fun _ _ _ H _ I h=>wpAny_Constant_int ⟨.int i,H,I.tok _,⟨_,rfl⟩,h⟩
theorem pe_bl {b j pos}:PE X (.Constant (.bool b) j pos) (tC (.bl b)):=fun _ _ _ H _ I h=>Constant_bool ⟨.bl b,H,I,rfl,h⟩
theorem pe_non {j pos}:PE X (.Constant .none j pos) (tC .non):=fun _ _ _ H _ I h=>Constant_none ⟨.non,H,I,rfl,h⟩
theorem pe_str {x j pos}:PE X (.Constant (.str x) j pos) (tC (.str x)):=fun _ _ _ H _ I h=>Calls.Constant_str ⟨.str x,H,I.tok _,⟨_,rfl⟩,h⟩
def Gl (X:Cx) (x:Str):Prop:=X.env.kindOf x=some .globalImplicit
theorem ld_glob {E:Value→Shared→Prop} {pins:List (Addr × Obj)} {s:Shared} {σ:St} {H:Hp} {x:Str} {u:Value} {pos:Pos} {Q:Value→Shared→Prop} (I:Inv X pins σ H s) (hg:Gl X x) (hm:X.mg x=some u) (h:Q u s)
  (hd:(x == ("__debug__" : Str))=false:=by decide):wpAny (model X.prog X.w) X.A (eval (.Name x pos) X.env) Q E s:=
 Calls.Name_function_global I.ok.kind hg (Calls.loadGlobal_global (by rw [I.ok.glob];exact I.mod.glob.keeps I.bk) hm h) hd
theorem ld_blt {E:Value→Shared→Prop} {pins:List (Addr × Obj)} {s:Shared} {σ:St} {H:Hp} {x:Str} {u:Value} {pos:Pos} {Q:Value→Shared→Prop} (I:Inv X pins σ H s) (hg:Gl X x) (hm:X.mg x=none) (hv:bootBuiltins x=some u) (h:Q u s)
  (hn:x ≠ "__name__" := by decide) (hd:(x == ("__debug__" : Str))=false:=by decide):wpAny (model X.prog X.w) X.A (eval (.Name x pos) X.env) Q E s:=by
 obtain ⟨mb,h1,h2⟩:=I.mod.blt
 exact Calls.Name_function_global I.ok.kind hg (Calls.loadGlobal_builtin (by rw [I.ok.glob];exact I.mod.glob.keeps I.bk) hm (by rw [I.ok.blt];exact h1.keeps I.bk) ((h2 x hn).trans hv) h) hd
theorem pe_glob {x:Str} {v:V} {u:Value} {pos:Pos} (hg:Gl X x) (hm:X.mg x=some u) (r:RelV v u) (hd:(x == ("__debug__" : Str))=false:=by decide):PE X (.Name x pos) (tC v):=
 fun _ _ _ H _ I h=>ld_glob I hg hm ⟨v,H,I,r,h⟩ hd
theorem pe_bltn {x:Str} {v:V} {u:Value} {pos:Pos} (hg:Gl X x) (hm:X.mg x=none) (hv:bootBuiltins x=some u) (r:RelV v u) (hn:x ≠ "__name__" := by decide) (hd:(x == ("__debug__" : Str))=false:=by decide):PE X (.Name x pos) (tC v):=
 fun _ _ _ H _ I h=>ld_blt I hg hm hv ⟨v,H,I,r,h⟩ hn hd
variable {a b : Expr} {ta tb : TE} {pos : Pos}
def PC (X:Cx) (op:CmpOp) (a b:Expr) (t:TE):Prop:=
 ∀ (pins:List (Addr × Obj)) (s:Shared) (σ:St) (H:Hp) (Q:VK),Inv X pins σ H s→t σ H Q →
  wpAny (model X.prog X.w) X.A (eval a X.env) (fun v s₁=>wpAny (model X.prog X.w) X.A (eval b X.env) (fun u s₂=>wpAny (model X.prog X.w) X.A (compareOp op v u) (EP X pins σ Q) X.xe s₂) X.xe s₁) X.xe s
theorem nobehind (b:Expr) {op:CmpOp} (h:op ≠ .In) (h2:op ≠ .NotIn):behindInMarks op b=false:=by
 have e1:(op == CmpOp.In)=false:=by cases op <;> first | rfl | exact absurd rfl h
 have e2:(op == CmpOp.NotIn)=false:=by cases op <;> first | rfl | exact absurd rfl h2
 cases b <;> simp [behindInMarks,e1,e2]
def tB (t:TE):TT:=fun σ H Q=>t σ H fun x H1=>∃ c,x = .bl c∧Q c H1
theorem pt_cmp {op:CmpOp} {t:TE} (h:PC X op a b t) (h1:behindInMarks op b=false:=by first | exact nobehind _ (by decide) (by decide) | rfl):PT X (.Compare a [op] [b] pos) (tB t):=by
 intro pins s σ H Q I hw
 refine wpAny_isTrue_Compare1 (thn (h pins s σ H _ I hw) fun v s1 h1=>thn h1 fun u s2 h2=>thn h2 fun c s3 ⟨x,H1,I1,r1,q1⟩=>?_) h1
 obtain ⟨d,rfl,q⟩:=q1
 cases r1
 exact wpAny_truthy_bool ⟨H1,I1,q⟩
theorem pt_val {e:Expr} {t:TE} (h:PE X e t) (he : ∀ whole,isTrue e X.env whole=(do let v ← whole;standAt e.pos;holding [v] (truthy v)):=by intro _;rfl):PT X e (tB t):=by
 intro pins s σ H Q I hw
 refine isTrue_plain (thn (h pins s σ H _ I hw) fun v s1 ⟨x,H1,I1,r1,q1⟩=>?_) (he _)
 obtain ⟨d,rfl,q⟩:=q1
 cases r1
 exact wpAny_truthy_bool ⟨H1,I1,q⟩
variable {tA tB' : TT} {rest : List Expr}
def tAnd (t u:TT):TT:=fun σ H Q=>t σ H fun c H1=>if c=true then u σ H1 Q else Q false H1
def tOr (t u:TT):TT:=fun σ H Q=>t σ H fun c H1=>if c=true then Q true H1 else u σ H1 Q
def tNot (t:TT):TT:=fun σ H Q=>t σ H fun c H1=>Q (!c) H1
theorem pw_and1 (ha:PT X a tA):PW X (.BoolOp .And [a] pos) tA:=by
 intro wh pins s σ H Q I h
 refine isTrue_and (thn (ha pins s σ H Q I h) fun c s1 e=>?_)
 cases c with
 | true=>exact isTrue_and_nil e
 | false=>exact e
theorem pw_or1 (ha:PT X a tA):PW X (.BoolOp .Or [a] pos) tA:=by
 intro wh pins s σ H Q I h
 refine isTrue_or (thn (ha pins s σ H Q I h) fun c s1 e=>?_)
 cases c with
 | false=>exact isTrue_or_nil e
 | true=>exact e
theorem pw_and (ha:PT X a tA) (hb:PW X (.BoolOp .And (b::rest) pos) tB'):PW X (.BoolOp .And (a::b::rest) pos) (tAnd tA tB'):=by
 intro wh pins s σ H Q I h
 refine isTrue_and (thn (ha pins s σ H _ I h) fun c s1 ⟨H1,I1,q1⟩=>?_)
 cases c with
 | true=>exact hb wh pins s1 σ H1 Q I1 q1
 | false=>exact ⟨H1,I1,q1⟩
theorem pw_or (ha:PT X a tA) (hb:PW X (.BoolOp .Or (b::rest) pos) tB'):PW X (.BoolOp .Or (a::b::rest) pos) (tOr tA tB'):=by
 intro wh pins s σ H Q I h
 refine isTrue_or (thn (ha pins s σ H _ I h) fun c s1 ⟨H1,I1,q1⟩=>?_)
 cases c with
 | true=>exact ⟨H1,I1,q1⟩
 | false=>exact hb wh pins s1 σ H1 Q I1 q1
theorem pt_not (ha:PT X a tA):PT X (.UnaryOp .Not a pos) (tNot tA):=by
 intro pins s σ H Q I h
 exact isTrue_not (ha pins s σ H (fun c H1=>Q (!c) H1) I h)
def tAndV (ta tb:TE):TE:=fun σ H Q=>ta σ H fun x H1=>∃ c,x = .bl c∧if c=true then tb σ H1 Q else Q (.bl false) H1
def tOrV (ta tb:TE):TE:=fun σ H Q=>ta σ H fun x H1=>∃ c,x = .bl c∧if c=true then Q (.bl true) H1 else tb σ H1 Q
def tNotV (ta:TE):TE:=fun σ H Q=>ta σ H fun x H1=>∃ c,x = .bl c∧Q (.bl (!c)) H1
theorem pe_one {op} {t:TE} (h:PE X a t):PE X (.BoolOp op [a] pos) t:=fun pins s σ H Q I hw=>BoolOp_one (h pins s σ H Q I hw)
theorem pe_and (ha:PE X a ta) (hb:PE X (.BoolOp .And (b::rest) pos) tb):PE X (.BoolOp .And (a::b::rest) pos) (tAndV ta tb):=by
 intro pins s σ H Q I h
 refine BoolOp_and (thn (ha pins s σ H _ I h) fun v s1 ⟨x,H1,I1,r1,q1⟩=>?_)
 obtain ⟨c,rfl,q1⟩:=q1
 cases r1
 refine wpAny_truthy_bool ?_
 cases c with
 | true=>exact hb pins s1 σ H1 Q I1 q1
 | false=>exact ⟨.bl false,H1,I1,rfl,q1⟩
theorem pe_or (ha:PE X a ta) (hb:PE X (.BoolOp .Or (b::rest) pos) tb):PE X (.BoolOp .Or (a::b::rest) pos) (tOrV ta tb):=by
 intro pins s σ H Q I h
 refine BoolOp_or (thn (ha pins s σ H _ I h) fun v s1 ⟨x,H1,I1,r1,q1⟩=>?_)
 obtain ⟨c,rfl,q1⟩:=q1
 cases r1
 refine wpAny_truthy_bool ?_
 cases c with
 | false=>exact hb pins s1 σ H1 Q I1 q1
 | true=>exact ⟨.bl true,H1,I1,rfl,q1⟩
theorem pe_not (ha:PE X a ta):PE X (.UnaryOp .Not a pos) (tNotV ta):=by
 intro pins s σ H Q I h
 refine UnaryOp_ (thn (ha pins s σ H _ I h) fun v s1 ⟨x,H1,I1,r1,q1⟩=>?_)
 obtain ⟨c,rfl,q1⟩:=q1
 cases r1
 exact not_of (wpAny_truthy_bool ⟨.bl (!c),H1,I1,rfl,q1⟩)
end
def SqL (K:W.Frag) (H:Hp) (a:Addr) (xs:List V):Prop:=
 Rd H a (.lst xs) ∨
  ∃ (o:Obj) (its:Array Value) (n:Nat),K.lookup a=some o∧o.cls = .type "list" ∧ o.dict=none∧o.data = .seq its n∧its.size≤sizeLine∧Vals xs its.toList
def SqT (K:W.Frag) (H:Hp) (a:Addr) (xs:List V):Prop:=
 Rd H a (.tup xs) ∨
  ∃ (o:Obj) (its:Array Value) (n:Nat),K.lookup a=some o∧o.cls = .type "tuple" ∧ o.data = .seq its n∧its.size≤sizeLine∧Vals xs its.toList
def absV:Value→Option V
 | .none=>some .non
 | .bool b=>some (.bl b)
 | .int i _=>some (.int i)
 | .str x _=>some (.str x)
 | .bytes b _=>some (.byt b)
 | .float b _=>some (.flt b)
 | .ref a=>some (.ref a)
 | .type n=>some (.ty n)
 | _=>none
theorem RelV.abs {x:V} {u:Value} (r:RelV x u):absV u=some x:=by
 cases x with
 | non=>cases r;rfl
 | bl _=>cases r;rfl
 | int _=>obtain ⟨t,rfl⟩:=r;rfl
 | str _=>obtain ⟨t,rfl⟩:=r;rfl
 | byt _=>obtain ⟨t,rfl⟩:=r;rfl
 | flt _=>obtain ⟨t,rfl⟩:=r;rfl
 | ref _=>cases r;rfl
 | ty _=>cases r;rfl
theorem RelV.inj {x y:V} {u:Value} (r:RelV x u) (q:RelV y u):x=y:=Option.some.inj (r.abs.symm.trans q.abs)
theorem Vals.inj : ∀ {xs ys:List V} {us:List Value},Vals xs us→Vals ys us→xs=ys
 | _,_,_,.nil,.nil=>rfl
 | _,_,_,.cons r t,.cons r' t'=>by rw [r.inj r',Vals.inj t t']
section
variable {X : Cx} {pins : List (Addr × Obj)} {σ : St} {H : Hp} {s : Shared} {a : Addr} {xs ys : List V}
theorem SqL.of {K:W.Frag} (h:H a=some (.lst xs)):SqL K H a xs:=.inl (.inl h)
theorem SqT.of {K:W.Frag} (h:H a=some (.tup xs)):SqT K H a xs:=.inl (.inl h)
theorem Inv.list (I:Inv X pins σ H s) (h:SqL X.K H a xs) : ∃ its:List Value,Vals xs its∧PlainL s.heap a its.toArray∧xs.length≤sizeLine:=by
 rcases h with h | ⟨o,its,n,hk,hc,hd,hs,hz,r⟩
 ·obtain ⟨z,its,n,r,e⟩:=h.ok I.hok
  exact ⟨its,r,⟨_,n,e,rfl,rfl,rfl⟩,z⟩
 ·refine ⟨its.toList,r,⟨o,n,I.kIn a o hk,hc,hd,by simpa using hs⟩,?_⟩
  have e:=r.length
  simp only [Array.length_toList] at e
  omega
theorem Inv.tuple (I:Inv X pins σ H s) (h:SqT X.K H a xs) : ∃ its:List Value,Vals xs its∧IsTup s.heap a its.toArray∧xs.length≤sizeLine:=by
 rcases h with h | ⟨o,its,n,hk,hc,hs,hz,r⟩
 ·obtain ⟨z,its,r,p⟩:=h.ok I.hok
  exact ⟨its,r,p,z⟩
 ·refine ⟨its.toList,r,⟨o,I.kIn a o hk,hc,n,by simpa using hs⟩,?_⟩
  have e:=r.length
  simp only [Array.length_toList] at e
  omega
theorem Inv.list_inj (I:Inv X pins σ H s) (h:SqL X.K H a xs) (h':SqL X.K H a ys):xs=ys:=by
 obtain ⟨its,r,⟨o,n,e,_,_,d⟩,_⟩:=I.list h
 obtain ⟨its',r',⟨o',n',e',_,_,d'⟩,_⟩:=I.list h'
 rw [e] at e';cases e'
 rw [d] at d'
 injection d' with d1 _
 have:its=its':=by simpa using congrArg Array.toList d1
 subst this
 exact r.inj r'
theorem Inv.tuple_inj (I:Inv X pins σ H s) (h:SqT X.K H a xs) (h':SqT X.K H a ys):xs=ys:=by
 obtain ⟨its,r,⟨o,e,_,n,d⟩,_⟩:=I.tuple h
 obtain ⟨its',r',⟨o',e',_,n',d'⟩,_⟩:=I.tuple h'
 rw [e] at e';cases e'
 rw [d] at d'
 injection d' with d1 _
 have:its=its':=by simpa using congrArg Array.toList d1
 subst this
 exact r.inj r'
end
abbrev Cx.wish (X:Cx) (E:Value→Shared→Prop):Cx:={ X with xe:=E }
abbrev Cx.nox (X:Cx):Cx:=X.wish fun _ _=>False
theorem Cx.Ok.wish {X:Cx} (ok:X.Ok) (E:Value→Shared→Prop):(X.wish E).Ok:=
 ⟨ok.mod,ok.kind,ok.glob,ok.blt,ok.above,ok.inj,ok.has,ok.cab,ok.hd,ok.frames,ok.stk,ok.exf,ok.bs,ok.bsz,ok.noex,ok.exfs,ok.funs,ok.frf⟩
theorem Cx.Ok.unwish {X:Cx} {E:Value→Shared→Prop} (ok:(X.wish E).Ok):X.Ok:=
 ⟨ok.mod,ok.kind,ok.glob,ok.blt,ok.above,ok.inj,ok.has,ok.cab,ok.hd,ok.frames,ok.stk,ok.exf,ok.bs,ok.bsz,ok.noex,ok.exfs,ok.funs,ok.frf⟩
section
variable {X : Cx} {pins : List (Addr × Obj)} {σ : St} {H : Hp} {s : Shared} {E : Value → Shared → Prop}
theorem Inv.wish (I:Inv X pins σ H s) (E:Value→Shared→Prop):Inv (X.wish E) pins σ H s:=⟨I.ok.wish E,I.os,I.bare,I.base,I.loc,I.cell,I.free,I.freeC,I.pin,I.hok,I.len⟩
theorem Inv.unwish (I:Inv (X.wish E) pins σ H s):Inv X pins σ H s:=⟨I.ok.unwish,I.os,I.bare,I.base,I.loc,I.cell,I.free,I.freeC,I.pin,I.hok,I.len⟩
theorem SP.unwish {D:Ends} {f:Flow} {s':Shared} (h:SP (X.wish E) pins D f s'):SP X pins D f s':=by
 cases f with
 | next=>obtain ⟨σ',H',I,q⟩:=h;exact ⟨σ',H',I.unwish,q⟩
 | brk=>obtain ⟨σ',H',I,q⟩:=h;exact ⟨σ',H',I.unwish,q⟩
 | cont=>obtain ⟨σ',H',I,q⟩:=h;exact ⟨σ',H',I.unwish,q⟩
 | ret u=>obtain ⟨v,σ',H',I,r,q⟩:=h;exact ⟨v,σ',H',I.unwish,r,q⟩
theorem PE.nox {e:Expr} {t:TE} (h:PE X.nox e t):PE X e t:=fun pins s σ H Q I hw =>
 wpAny_mono (h pins s σ H Q (I.wish _) hw) (fun _ _ ⟨v,H',I',r,q⟩=>⟨v,H',I'.unwish,r,q⟩) fun _ _ z=>False.elim z
theorem PT.nox {e:Expr} {t:TT} (h:PT X.nox e t):PT X e t:=fun pins s σ H Q I hw =>
 wpAny_mono (h pins s σ H Q (I.wish _) hw) (fun _ _ ⟨H',I',q⟩=>⟨H',I'.unwish,q⟩) fun _ _ z=>False.elim z
theorem PSs.nox {st:List Stmt} {t:TS} (h:PSs X.nox st t):PSs X st t:=fun pins s σ H D I hw =>
 wpAny_mono (h pins s σ H D (I.wish _) hw) (fun _ _ q=>q.unwish) fun _ _ z=>False.elim z
end
section
variable {X : Cx} {st : Stmt} {rest : List Stmt} {t u : TS} {e : Expr} {te : TE} {pos : Pos}
def tNext:TS:=fun D σ H=>D.nx σ H
def tSeq (t u:TS):TS:=fun D σ H=>t { D with nx:=u D } σ H
theorem pss_nil:PSs X [] tNext:=fun _ _ σ H _ I h=>wpAny_execs_nil ⟨σ,H,I,h⟩
theorem pss_cons (h1 : PS X st t) (h2 : PSs X rest u) : PSs X (st :: rest) (tSeq t u) := by
  intro pins s σ H D I h
  refine wpAny_execs_cons (thn (h1 pins s σ H { D with nx := u D } I h) fun f s1 q => ?_)
  cases f with
  | next =>
    obtain ⟨σ', H', I', q⟩ := q
    exact h2 pins s1 σ' H' D I' q
  | ret v => exact q
  | brk => exact q
  | cont => exact q
theorem pss_one (h1:PS X st t):PSs X [st] t:=by
 intro pins s σ H D I h
 refine wpAny_execs_cons (thn (h1 pins s σ H D I h) fun f s1 q=>?_)
 cases f with
 | next=>exact wpAny_execs_nil q
 | ret v=>exact q
 | brk=>exact q
 | cont=>exact q
theorem Inv.quiet {pins:List (Addr × Obj)} {σ:St} {H:Hp} {s:Shared} (I:Inv X pins σ H s):interactive X.env=false:=by simp [interactive,I.ok.kind]
def tDrop (te:TE):TS:=fun D σ H=>te σ H fun _ H1=>D.nx σ H1
theorem ps_expr (he:PE X e te) (hs:swapsWith e none pos.line X.env=pure false:=by rfl):PS X (.Expr e pos) (tDrop te):=by
 intro pins s σ H D I h
 exact wpAny_Expr_any (thn (he pins s σ H _ I h) fun v s1 ⟨x,H1,I1,r1,q1⟩=>⟨σ,H1,I1,q1⟩) I.quiet hs
def tRet (te:TE):TS:=fun D σ H=>te σ H D.rt
theorem ps_ret (he:PE X e te):PS X (.Return (some e) pos) (tRet te):=by
 intro pins s σ H D I h
 exact wpAny_Return_some (thn (he pins s σ H _ I h) fun v s1 ⟨x,H1,I1,r1,q1⟩=>⟨x,σ,H1,I1,r1,q1⟩)
def tIfS (c:TT) (t u:TS):TS:=fun D σ H=>c σ H fun b H1=>if b=true then t D σ H1 else u D σ H1
theorem ps_if {c:Expr} {a b:List Stmt} {tc:TT} (hc:PT X c tc) (ha:PSs X a t) (hb:PSs X b u):PS X (.If c a b pos) (tIfS tc t u):=by
 intro pins s σ H D I h
 refine wpAny_If (thn (hc pins s σ H _ I h) fun d s1 ⟨H1,I1,q1⟩=>?_)
 cases d with
 | true=>exact ha pins s1 σ H1 D I1 q1
 | false=>exact hb pins s1 σ H1 D I1 q1
def tNever:TS:=fun _ _ _=>False
theorem ps_never:PS X st tNever:=fun _ _ _ _ _ _ h=>h.elim
end
abbrev TG:=V→St→Hp→(St→Hp→Prop)→Prop
abbrev TGs:=List V→St→Hp→(St→Hp→Prop)→Prop
def PG (X:Cx) (target:Expr) (t:TG):Prop:=
 ∀ (pins:List (Addr × Obj)) (s:Shared) (σ:St) (H:Hp) (v:V) (u:Value) (Q:St→Hp→Prop),Inv X pins σ H s→RelV v u→t v σ H Q →
  wpAny (model X.prog X.w) X.A (assign target X.env u) (fun _ s'=>∃ σ' H',Inv X pins σ' H' s'∧Q σ' H') X.xe s
def PGs (X:Cx) (ts:List Expr) (t:TGs):Prop:=
 ∀ (pins:List (Addr × Obj)) (s:Shared) (σ:St) (H:Hp) (vs:List V) (us:List Value) (Q:St→Hp→Prop),Inv X pins σ H s→Vals vs us→t vs σ H Q →
  wpAny (model X.prog X.w) X.A (assignInOrder ((assignEach ts X.env).map (·.2)) us) (fun _ s'=>∃ σ' H',Inv X pins σ' H' s'∧Q σ' H') X.xe s
section
variable {X : Cx} {pos : Pos}
def gName (i:Nat):TG:=fun v σ H Q=>Q (σ.set i (some v)) H
theorem pg_name {i:Nat} {x:Str} (hN:X.N.Nodup) (hi:X.N[i]? = some x) (hx:Loc X.env.scope x) (hf:X.fn x=true∨X.env.scope.names.lookup x=some .local:=by first | exact .inl rfl | exact .inr rfl | assumption):PG X (.Name x pos) (gName i):=by
 intro pins s σ H v u Q I r h
 exact wpAny_assign_Name (store_ok I hN hi hx r (fun s' I'=>⟨_,H,I',h⟩) hf)
def gNil:TGs:=fun vs σ H Q=>vs=[]∧Q σ H
def gCons (t:TG) (u:TGs):TGs:=fun vs σ H Q=>∃ v r,vs=v::r∧t v σ H fun σ' H'=>u r σ' H' Q
theorem pgs_nil:PGs X [] gNil:=by
 intro pins s σ H vs us Q I r h
 obtain ⟨e,h⟩:=h
 subst e
 cases r
 exact assignInOrder_nil ⟨σ,H,I,h⟩
theorem pgs_cons {e : Expr} {es : List Expr} {t : TG} {u : TGs} (h1 : PG X e t) (h2 : PGs X es u)
    (hs : (assignEach (e :: es) X.env).map (·.2) = assign e X.env :: (assignEach es X.env).map (·.2) := by rfl) : PGs X (e :: es) (gCons t u) := by
  intro pins s σ H vs us Q I r h
  obtain ⟨v, vr, e1, h⟩ := h
  subst e1
  cases r with
  | cons r rr =>
    rw [hs]
    refine assignInOrder_cons (thn (h1 pins s σ H _ _ _ I r h) fun _ s1 ⟨σ1, H1, I1, q1⟩ => ?_)
    exact h2 pins s1 σ1 H1 _ _ Q I1 rr q1
def gTup (K:W.Frag) (n:Nat) (t:TGs):TG:=fun v σ H Q=>∃ a xs,v = .ref a∧SqT K H a xs∧xs.length=n∧t xs σ H Q
theorem pg_tup {es:List Expr} {k:Nat} {t:TGs} {n:Nat} (hc:X.calm=true) (h:PGs X es t)
  (hn:(assignEach es X.env).length=n:=by rfl) (hst:(assignEach es X.env).findIdx? (·.1)=none:=by rfl):PG X (.Tuple es k pos) (gTup X.K n t):=by
 intro pins s σ H v u Q I r hw
 obtain ⟨a,xs,e1,hq,hl,hw⟩:=hw
 subst e1
 cases r
 obtain ⟨its,rv,ht,hz⟩:=I.tuple hq
 refine assign_Tuple_tuple (I.ok.hd hc) ht (by simp [hn,← hl,rv.length]) hst fun h' hx=>?_
 have I1:Inv X pins σ H { s with heap:=h' }:=I.kept (t':=s.toks) fun b o e=>hx b o (Nat.ne_of_lt (Heap.lt_size e)) e
 exact h pins _ σ H xs _ Q I1 (by simpa using rv) hw
def tAsg (te:TE) (g:TG):TS:=fun D σ H=>te σ H fun x H1=>g x σ H1 D.nx
theorem ps_asg {tg e:Expr} {te:TE} {g:TG} (he:PE X e te) (hg:PG X tg g) (hs:swapsWithSole [tg] e pos.line X.env=pure false:=by rfl) (hw:swappedStores [tg] e X.env=pure none:=by rfl)
  (h1:(assignEach [tg] X.env).map (·.2)=[assign tg X.env]:=by rfl):PS X (.Assign [tg] e pos) (tAsg te g):=by
 intro pins s σ H D I h
 refine wpAny_Assign_stores (thn (he pins s σ H _ I h) fun v s1 ⟨x,H1,I1,r1,q1⟩=>?_) hs hw
 rw [h1]
 exact thn (hg pins s1 σ H1 x v _ I1 r1 q1) fun _ s2 q=>q
theorem ps_set {i:Nat} {x:Str} {e:Expr} {te:TE} {pos':Pos} (hN:X.N.Nodup) (hi:X.N[i]? = some x) (hx:Loc X.env.scope x) (he:PE X e te) (hs:swapsWith e (some (.Name x pos')) pos.line X.env=pure false:=by rfl) (hf:X.fn x=true∨X.env.scope.names.lookup x=some .local:=by first | exact .inl rfl | exact .inr rfl | assumption) :
  PS X (.Assign [.Name x pos'] e pos) (tAsg te (gName i)):=by
 intro pins s σ H D I h
 refine wpAny_Assign_Name (thn (he pins s σ H _ I h) fun v s1 ⟨y,H1,I1,r1,q1⟩=>?_) hs
 exact store_ok I1 hN hi hx r1 (fun s2 I2=>⟨_,H1,I2,q1⟩) hf
def tPar (i j:Nat) (ta:TA):TS:=fun D σ H=>ta σ H fun vs H1=>∃ v w,vs=[v,w]∧D.nx ((σ.set i (some v)).set j (some w)) H1
theorem ps_par {i j : Nat} {x y : Str} {a b : Expr} {ta : TA} {px py pt : Pos} {kt k2 pt2} (hc : X.calm = true) (hN : X.N.Nodup) (hi : X.N[i]? = some x) (hj : X.N[j]? = some y) (hij : i ≠ j)
    (hx : X.env.scope.names.lookup x = some .local) (hy : X.env.scope.names.lookup y = some .local) (ha : PA X [a, b] ta)
    (hw : swappedStores [.Tuple [.Name x px, .Name y py] kt pt] (.Tuple [a, b] k2 pt2) X.env = pure (some [x, y]))
    (hs : swapsWithSole [.Tuple [.Name x px, .Name y py] kt pt] (.Tuple [a, b] k2 pt2) pos.line X.env = pure false := by rfl) :
    PS X (.Assign [.Tuple [.Name x px, .Name y py] kt pt] (.Tuple [a, b] k2 pt2) pos) (tPar i j ta) := by
  intro pins s σ H D I h
  rw [exec_Assign_arm]
  refine wpAny_bind (wpAny_standAt ?_)
  rw [hs]
  refine wpAny_bind (wpAny_pure ?_)
  rw [if_neg (by decide)]
  refine wpAny_bind (Tuple_ (thn (ha _ pins s σ H _ I h) fun us s1 ⟨vs, H1, I1, r1, q1⟩ => ?_))
  obtain ⟨v, w, e1, q1⟩ := q1
  subst e1
  obtain ⟨u1, u2, rfl, rv, rw'⟩ : ∃ u1 u2, us = [u1, u2] ∧ RelV v u1 ∧ RelV w u2 := by
    cases r1 with
    | cons p q =>
      cases q with
      | cons p' q' =>
        cases q'
        exact ⟨_, _, rfl, p, p'⟩
  refine wpAny_newObj_type ?_ (by show 2 ≤ sizeLine; decide)
  have I2 : Inv X pins σ H1 { s1 with heap := s1.heap.push { cls := .type "tuple", data := .seq [u1, u2].toArray } } := I1.kept (t' := s1.toks) fun b o e => Heap.get?_push_of_some _ e
  rw [hw]
  refine wpAny_bind (wpAny_pure ?_)
  show wpAny (model X.prog X.w) X.A (do rule "assign.swapped-stores"; let items ← unpackItems (.ref s1.heap.objs.size) 2 none; assignInOrder [fun v => bindName X.env y v, fun v => bindName X.env x v] items.reverse; pure Flow.next) _ _ _
  refine wpAny_bind (wpAny_rule (wpAny_bind (unpackItems_tuple (items := #[u1, u2]) (I.ok.hd hc) (IsTup.new s1.heap _) fun h' hx' => ?_)))
  have I3 := I2.kept (h' := h') (t' := s1.toks) fun b o e => hx' b o (Nat.ne_of_lt (Heap.lt_size e)) e
  show wpAny _ _ (assignInOrder [fun v => bindName X.env y v, fun v => bindName X.env x v] [u2, u1] >>= fun _ => pure Flow.next) _ _ _
  refine wpAny_bind (assignInOrder_cons (wpAny_bindName (store_ok I3 hN hj (.inl hy) rw' (fun s2 I4 => ?_) (.inr hy))))
  refine assignInOrder_cons (wpAny_bindName (store_ok I4 hN hi (.inl hx) rv (fun s3 I5 => assignInOrder_nil (wpAny_pure ?_)) (.inr hx)))
  rw [List.set_comm _ _ (Ne.symm hij)] at I5
  exact ⟨_, H1, I5, q1⟩
end
section
variable {X : Cx} {pos : Pos}
def tWhile (c:TT) (tb:TS):TS:=fun D σ H=>∃ W:Nat→St→Hp→Prop,(∃ m,W m σ H) ∧ ∀ m σ H,W m σ H →
 c σ H fun b H1=>if b=true then ∃ N:St→Hp→Prop,(∀ σ' H',N σ' H' → ∃ m',m' < m∧W m' σ' H')∧tb { D with nx:=N,ct:=N,bk:=D.nx } σ H1 else D.nx σ H1
theorem ps_while {c : Expr} {body : List Stmt} {tc : TT} {tb : TS} (hp : PassesOwn (model X.prog X.w) X.A X.env X.xe) (hc : PT X c tc) (hb : PSs X body tb) : PS X (.While c body [] pos) (tWhile tc tb) := by
  intro pins s σ H D I h
  obtain ⟨W, ⟨m0, w0⟩, turn⟩ := h
  refine wpAny_While (codeAny_whileLoop (fun n s' => ∃ σ' H', Inv X pins σ' H' s' ∧ W n σ' H') ?_ m0 ⟨σ, H, I, w0⟩)
  rintro n s1 ⟨σ1, H1, I1, w1⟩
  refine wpAny_passesOwn hp (thn (hc pins s1 σ1 H1 _ I1 (turn n σ1 H1 w1)) fun b s2 ⟨H2, I2, q2⟩ => ?_)
  cases b with
  | true =>
    obtain ⟨N, hN, q2⟩ := q2
    rw [if_pos rfl]
    refine wpAny_passesOwn hp (thn (hb pins s2 σ1 H2 _ I2 q2) fun f s3 q3 => ?_)
    cases f with
    | next =>
      obtain ⟨σ3, H3, I3, n3⟩ := q3
      obtain ⟨m', hm, w3⟩ := hN σ3 H3 n3
      exact ⟨m', hm, σ3, H3, I3, w3⟩
    | cont =>
      obtain ⟨σ3, H3, I3, n3⟩ := q3
      obtain ⟨m', hm, w3⟩ := hN σ3 H3 n3
      exact ⟨m', hm, σ3, H3, I3, w3⟩
    | brk => exact q3
    | ret v => exact q3
  | false =>
    rw [if_neg Bool.false_ne_true]
    exact wpAny_execs_nil ⟨σ1, H2, I2, q2⟩
end
structure It where
 go:Nat→Hp→Prop
 yld:Nat→Hp→V→Hp→Prop
 stop:Nat→Hp→Prop
def FpOk (X:Cx) (pins:List (Addr × Obj)) (H:Hp) (b:Addr):Prop:=
 H b=none∧b≠X.env.locals∧b ∉ X.fs∧(b ∈ X.ex∨X.s₀.heap.objs.size≤b)∧(∀ x c,X.env.cells.lookup x=some c→c≠b) ∧ ∀ p ∈ X.pn++pins,p.1≠b
theorem Inv.fpOk {X:Cx} {pins:List (Addr × Obj)} {σ:St} {H H':Hp} {s:Shared} {b:Addr} (I:Inv X pins σ H s) (hb:s.heap.objs.size≤b) (hn:H' b=none):FpOk X pins H' b:=by
 refine ⟨hn,Nat.ne_of_gt (Nat.lt_of_lt_of_le I.lt hb),I.nofs hb,.inr (Nat.le_trans I.sz hb),fun x c e z=>?_,fun p hp z=>?_⟩
 ·obtain ⟨v,q⟩:=I.cell x c e
  exact absurd (Nat.lt_of_lt_of_le q.lt (by rw [z];exact hb)) (Nat.lt_irrefl _)
 ·exact absurd (Nat.lt_of_lt_of_le (Heap.lt_size (I.pin p hp).1) (by rw [z];exact hb)) (Nat.lt_irrefl _)
structure Turn (P:Program) (w:World) (K:W.Frag) (tg:Expr) (J:It) (fp:List Addr) (it:Addr) (tn:Nat→Heap→Prop):Prop where
 mem:it ∈ fp
 obj : ∀ i h,tn i h → ∀ b ∈ fp,∃ o,h.get? b=some o ∧ ∀ v,o.data ≠ .cell v
 keep : ∀ i h h',tn i h→(∀ b ∈ fp,∀ o,h.get? b=some o→h'.get? b=some o)→tn i h'
 item : ∀ (X:Cx),X.prog=P→X.w=w→X.K=K→X.calm=true → ∀ (i:Nat) (pins:List (Addr × Obj)) (s:Shared) (σ:St) (H:Hp) (E:Value→Shared→Prop),Inv X pins σ H s→(∀ b ∈ fp,FpOk X pins H b)→tn i s.heap→J.go i H →
  wpAny (model P w) X.A (pyNext (.ref it)) (fun r s1=>∃ u,r=some u ∧
   wpAny (model P w) X.A (letOwnedTupleGo tg (.ref it) u) (fun _ s2=>∃ x H',Inv X pins σ H' s2∧RelV x u∧J.yld i H x H'∧tn (i+1) s2.heap ∧ ∀ b ∈ fp,H' b=none) E s1) E s
 done : ∀ (X:Cx),X.prog=P→X.w=w→X.K=K→X.calm=true → ∀ (i:Nat) (pins:List (Addr × Obj)) (s:Shared) (σ:St) (H:Hp) (E:Value→Shared→Prop),Inv X pins σ H s→(∀ b ∈ fp,FpOk X pins H b)→tn i s.heap→J.stop i H →
  wpAny (model P w) X.A (pyNext (.ref it)) (fun r s1=>r=none∧Inv X pins σ H s1) E s
 self : ∀ (A:Around) (i:Nat) (s:Shared) (Q:Value→Shared→Prop) (E:Value→Shared→Prop),tn i s.heap→Q (.ref it) s→wpAny (model P w) A (pyIter (.ref it)) Q E s
abbrev TI:=St→Hp→(It→Hp→Prop)→Prop
def PIE (X:Cx) (pins:List (Addr × Obj)) (σ:St) (tg:Expr) (R:It→Hp→Prop) (itv:Value) (s2:Shared):Prop:=
 ∃ (it:Addr) (fp:List Addr) (tn:Nat→Heap→Prop) (J:It) (H':Hp),itv = .ref it∧Inv X pins σ H' s2∧Turn X.prog X.w X.K tg J fp it tn∧tn 0 s2.heap∧(∀ b ∈ fp,FpOk X pins H' b)∧R J H'
def PI (X:Cx) (tg iter:Expr) (wi:TI):Prop:=
 ∀ (pins:List (Addr × Obj)) (s:Shared) (σ:St) (H:Hp) (R:It→Hp→Prop),Inv X pins σ H s→wi σ H R →
  wpAny (model X.prog X.w) X.A (eval iter X.env) (fun v s1=>wpAny (model X.prog X.w) X.A (pyIter v) (PIE X pins σ tg R) X.xe s1) X.xe s
theorem go_of {M : Model} {A : Around} {E : Value → Shared → Prop} {s : Shared} {tg : Expr} {it : Addr} {u : Value} {o : Obj} {n : String} {vs : Array Value} {Q : Unit → Shared → Prop} (ho : s.heap.get? it = some o) (hc : o.cls = .type n) (hd : o.data = .fields vs)
    (hn : ["enumerate", "zip", "dict_itemiterator", "dict_reverseitemiterator", "odict_iterator", "itertools.zip_longest", "itertools.pairwise"].contains n = false) (hQ : Q () s) : wpAny M A (letOwnedTupleGo tg (.ref it) u) Q E s := by
  unfold letOwnedTupleGo
  cases tg <;> first
    | exact wpAny_pure hQ
    | (cases u <;> first
        | exact wpAny_pure hQ
        | (refine wpAny_bind (wpAny_load ho ?_)
           rw [hc, hd]
           show wpAny M A (if (["enumerate", "zip", "dict_itemiterator", "dict_reverseitemiterator", "odict_iterator", "itertools.zip_longest", "itertools.pairwise"].contains n && vs[0]? == some (rawInt _)) = true then _ else _) Q E s
           rw [if_neg (by intro h; rw [hn, Bool.false_and] at h; cases h)]
           exact wpAny_pure hQ))
def Itl (K:W.Frag) (a:Addr):It:=
 ⟨fun i H=>∃ xs x,SqL K H a xs∧xs[i]? = some x,fun i H x H'=>H'=H ∧ ∀ xs,SqL K H a xs→xs[i]? = some x,fun i H=>∃ xs,SqL K H a xs∧xs.length≤i⟩
def Itt (K:W.Frag) (a:Addr):It:=
 ⟨fun i H=>∃ xs x,SqT K H a xs∧xs[i]? = some x,fun i H x H'=>H'=H ∧ ∀ xs,SqT K H a xs→xs[i]? = some x,fun i H=>∃ xs,SqT K H a xs∧xs.length≤i⟩
def Itr (lo:Int) (n:Nat):It:=⟨fun i _=>i < n,fun i H x H'=>H'=H∧x = .int (lo+i),fun i _=>n≤i⟩
theorem turn_list {P:Program} {w:World} {K:W.Frag} {tg:Expr} (a it:Addr):Turn P w K tg (Itl K a) [it] it (fun i h=>h.IsListIter it a i) where
 mem:=by simp
 obj:=fun i h st b hb=>by
  have e:b=it:=by simpa using hb
  subst e
  obtain ⟨o,e,c,d⟩:=st
  exact ⟨o,e,fun v z=>by rw [d] at z;cases z⟩
 keep:=fun i h h' st k=>st.at fun o e=>k it (by simp) o e
 item:=by
  intro X hP hw hK hc i pins s σ H E I hf st hg
  subst hP hw hK
  obtain ⟨xs,x,hq,hx⟩:=hg
  obtain ⟨its,rv,p,hz⟩:=I.list hq
  obtain ⟨u,hu,ru⟩:=rv.get hx
  obtain ⟨f0,f1,f2,f3,f4,f5⟩:=hf it (by simp)
  refine wpAny_pyNext_list_item st p.isList (x:=u) (by simpa using hu) fun h' st' sb=>?_
  have I1:Inv X pins σ H { s with heap:=h' }:=I.turned (t':=s.toks) (fun b o hb e=>(sb.2 b hb).trans e) f0 f1 f3 f4 f5
  obtain ⟨o,e,c,d⟩:=id st'
  exact ⟨u,rfl,go_of (s:={ s with heap:=h' }) e c d (by decide) ⟨x,H,I1,ru,⟨rfl,fun ys hy=>by rw [I.list_inj hy hq];exact hx⟩,st',fun b hb=>(hf b hb).1⟩⟩
 done:=by
  intro X hP hw hK hc i pins s σ H E I hf st hg
  subst hP hw hK
  obtain ⟨xs,hq,hx⟩:=hg
  obtain ⟨its,rv,p,hz⟩:=I.list hq
  obtain ⟨f0,f1,f2,f3,f4,f5⟩:=hf it (by simp)
  have hl:=rv.length
  exact wpAny_pyNext_list_end (I.ok.hd hc) st p.isList (by simp;omega) fun h' eb=>⟨rfl,I.turned (t':=s.toks) (fun b o hb e=>eb b o hb e) f0 f1 f3 f4 f5⟩
 self:=fun _ _ _ _ _ st h=>wpAny_pyIter_listiter st h
theorem turn_tuple {P:Program} {w:World} {K:W.Frag} {tg:Expr} (a it:Addr):Turn P w K tg (Itt K a) [it] it (fun i h=>h.IsTupleIter it a i) where
 mem:=by simp
 obj:=fun i h st b hb=>by
  have e:b=it:=by simpa using hb
  subst e
  obtain ⟨o,e,c,d⟩:=st
  exact ⟨o,e,fun v z=>by rw [d] at z;cases z⟩
 keep:=fun i h h' st k=>st.at fun o e=>k it (by simp) o e
 item:=by
  intro X hP hw hK hc i pins s σ H E I hf st hg
  subst hP hw hK
  obtain ⟨xs,x,hq,hx⟩:=hg
  obtain ⟨its,rv,p,hz⟩:=I.tuple hq
  obtain ⟨u,hu,ru⟩:=rv.get hx
  obtain ⟨f0,f1,f2,f3,f4,f5⟩:=hf it (by simp)
  refine wpAny_pyNext_tuple_item st (show s.heap.IsTuple a its.toArray from p) (x:=u) (by simpa using hu) fun h' st' sb=>?_
  have I1:Inv X pins σ H { s with heap:=h' }:=I.turned (t':=s.toks) (fun b o hb e=>(sb.2 b hb).trans e) f0 f1 f3 f4 f5
  obtain ⟨o,e,c,d⟩:=id st'
  exact ⟨u,rfl,go_of (s:={ s with heap:=h' }) e c d (by decide) ⟨x,H,I1,ru,⟨rfl,fun ys hy=>by rw [I.tuple_inj hy hq];exact hx⟩,st',fun b hb=>(hf b hb).1⟩⟩
 done:=by
  intro X hP hw hK hc i pins s σ H E I hf st hg
  subst hP hw hK
  obtain ⟨xs,hq,hx⟩:=hg
  obtain ⟨its,rv,p,hz⟩:=I.tuple hq
  obtain ⟨f0,f1,f2,f3,f4,f5⟩:=hf it (by simp)
  have hl:=rv.length
  exact wpAny_pyNext_tuple_end (I.ok.hd hc) st (show s.heap.IsTuple a its.toArray from p) (by simp;omega) fun h' eb=>⟨rfl,I.turned (t':=s.toks) (fun b o hb e=>eb b o hb e) f0 f1 f3 f4 f5⟩
 self:=fun _ _ _ _ _ st h=>wpAny_pyIter_tupleiter st h
theorem turn_range {P:Program} {w:World} {K:PySem.W.Frag} {tg:Expr} (it:Addr) (lo:Int) (n:Nat):Turn P w K tg (Itr lo n) [it] it (fun i h=>IsRangeIter h it (lo+(i:Nat)*1) ((n:Int) - (i:Nat)) 1) where
 mem:=by simp
 obj:=fun i h st b hb=>by
  have e:b=it:=by simpa using hb
  subst e
  exact ⟨_,st,fun v z=>by
   have z':Data.fields _=Data.cell v:=z
   cases z'⟩
 keep:=fun i h h' st k=>k it (by simp) _ st
 item:=by
  intro X hP hw hK hc i pins s σ H E I hf st hg
  subst hP hw hK
  obtain ⟨f0,f1,f2,f3,f4,f5⟩:=hf it (by simp)
  have W:=Walks.range (prog:=X.prog) (w:=X.w) (I.ok.hd hc) it lo 1 n
  refine W.item i s _ _ hg st fun v h' tk hv st' kk=>?_
  obtain ⟨t,rfl⟩:=hv
  have I1:Inv X pins σ H { s with heap:=h',toks:=tk }:=I.turned (fun b o hb e=>kk b o (by simpa using hb) e) f0 f1 f3 f4 f5
  refine ⟨_,rfl,go_of (s:={ s with heap:=h',toks:=tk }) (n:="range_iterator") st' rfl rfl (by decide) ⟨.int (lo+i),H,I1,⟨t,?_⟩,⟨rfl,rfl⟩,st',fun b hb=>(hf b hb).1⟩⟩
  rw [Int.mul_one]
 done:=by
  intro X hP hw hK hc i pins s σ H E I hf st hg
  subst hP hw hK
  obtain ⟨f0,f1,f2,f3,f4,f5⟩:=hf it (by simp)
  exact wpAny_pyNext_range_end (I.ok.hd hc) st (by have:n≤i:=hg;omega) fun h' eb=>⟨rfl,I.turned (t':=s.toks) (fun b o hb e=>eb b o hb e) f0 f1 f3 f4 f5⟩
 self:=fun _ _ _ _ _ st h=>wpAny_pyIter_rangeiter st h
section
variable {X : Cx} {tg : Expr}
def iList (K:W.Frag) (tl:TE):TI:=fun σ H R=>tl σ H fun x H1=>∃ a,x = .ref a∧(∃ xs,SqL K H1 a xs)∧R (Itl K a) H1
def iTup (K:W.Frag) (tl:TE):TI:=fun σ H R=>tl σ H fun x H1=>∃ a,x = .ref a∧(∃ xs,SqT K H1 a xs)∧R (Itt K a) H1
theorem pi_list {l:Expr} {tl:TE} (hl:PE X l tl):PI X tg l (iList X.K tl):=by
 intro pins s σ H R I h
 refine thn (hl pins s σ H _ I h) fun v s1 ⟨x,H1,I1,r1,q1⟩=>?_
 obtain ⟨a,e,⟨xs,hq⟩,q⟩:=q1
 subst e
 cases r1
 obtain ⟨its,rv,p,hz⟩:=I1.list hq
 refine wpAny_pyIter_list p.isList ?_
 refine ⟨s1.heap.objs.size,[s1.heap.objs.size],_,_,H1,rfl,I1.kept (t':=s1.toks) fun b o e=>Heap.get?_push_of_some _ e,turn_list a _,⟨_,Heap.get?_push_size _ rfl,rfl,rfl⟩,fun b hb=>?_,q⟩
 have e:b=s1.heap.objs.size:=by simpa using hb
 subst e
 exact I1.fpOk (Nat.le_refl _) (I1.hok.fresh (Nat.le_refl _))
theorem pi_tup {l:Expr} {tl:TE} (hl:PE X l tl):PI X tg l (iTup X.K tl):=by
 intro pins s σ H R I h
 refine thn (hl pins s σ H _ I h) fun v s1 ⟨x,H1,I1,r1,q1⟩=>?_
 obtain ⟨a,e,⟨xs,hq⟩,q⟩:=q1
 subst e
 cases r1
 obtain ⟨its,rv,p,hz⟩:=I1.tuple hq
 refine wpAny_pyIter_tuple (show s1.heap.IsTuple a its.toArray from p) ?_
 refine ⟨s1.heap.objs.size,[s1.heap.objs.size],_,_,H1,rfl,I1.kept (t':=s1.toks) fun b o e=>Heap.get?_push_of_some _ e,turn_tuple a _,⟨_,Heap.get?_push_size _ rfl,rfl,rfl⟩,fun b hb=>?_,q⟩
 have e:b=s1.heap.objs.size:=by simpa using hb
 subst e
 exact I1.fpOk (Nat.le_refl _) (I1.hok.fresh (Nat.le_refl _))
theorem range_it {pins:List (Addr × Obj)} {σ:St} {H:Hp} {s:Shared} {R:It→Hp→Prop} {E:Value→Shared→Prop} {lo hi:Int} {t u v:Tok} {tk:Nat} (I:Inv X pins σ H s) (h1 : -(2 ^ 62)≤lo) (h2:lo < 2 ^ 62) (h3 : -(2 ^ 62)≤hi) (h4:hi < 2 ^ 62)
  (q:R (Itr lo (hi - lo).toNat) H):wpAny (model X.prog X.w) X.A (pyIter (.ref s.heap.objs.size)) (PIE X pins σ tg R) E { s with heap:=s.heap.push { cls:=.type "range", data:=.fields #[.int lo t,.int hi u,.int 1 v] },toks:=tk }:=by
 refine wpAny_pyIter_range (IsRange.new ..) (small_one h1 h2 h3 h4) ?_
 have I1:Inv X pins σ H { s with heap:=s.heap.push { cls:=.type "range", data:=.fields #[.int lo t,.int hi u,.int 1 v] },toks:=tk }:=I.kept fun b o e=>Heap.get?_push_of_some _ e
 refine ⟨(s.heap.push { cls:=.type "range", data:=.fields #[.int lo t,.int hi u,.int 1 v] }).objs.size,[(s.heap.push { cls:=.type "range", data:=.fields #[.int lo t,.int hi u,.int 1 v] }).objs.size],_,_,H,rfl,
  I1.kept (t':=tk) fun b o e=>Heap.get?_push_of_some _ e,turn_range _ lo (hi - lo).toNat,?_,fun b hb=>?_,q⟩
 ·have e1:lo+((0:Nat):Int)*1=lo:=by simp
  have e2:(((hi - lo).toNat:Nat):Int) - ((0:Nat):Int)=Builtin.Range.rangeSize lo hi 1:=by rw [rangeSize_one];split <;> omega
  show IsRangeIter _ _ (lo+((0:Nat):Int)*1) ((((hi - lo).toNat:Nat):Int) - ((0:Nat):Int)) 1
  rw [e1,e2]
  exact Heap.get?_push_size _ rfl
 ·have e:b=(s.heap.push { cls:=.type "range", data:=.fields #[.int lo t,.int hi u,.int 1 v] }).objs.size:=by simpa using hb
  subst e
  exact I1.fpOk (Nat.le_refl _) (I1.hok.fresh (Nat.le_refl _))
def iRng1 (ta:TA):TI:=fun σ H R=>ta σ H fun vs H1=>∃ j:Int,vs=[.int j] ∧ -(2 ^ 62)≤j∧j < 2 ^ 62∧R (Itr 0 j.toNat) H1
def iRng2 (ta:TA):TI:=fun σ H R=>ta σ H fun vs H1=>∃ i j:Int,vs=[.int i,.int j]∧(-(2 ^ 62)≤i∧i < 2 ^ 62 ∧ -(2 ^ 62)≤j∧j < 2 ^ 62)∧R (Itr i (j - i).toNat) H1
theorem pi_range1 {a : Expr} {ta : TA} {p pos : Pos} (hg : Gl X "range") (hm : X.mg "range" = none) (ha : PA X [a] ta) (hs : starEach [a] X.env = [(false, eval a X.env)] := by rfl) : PI X tg (.Call (.Name "range" p) [a] [] pos) (iRng1 ta) := by
  intro pins s σ H R I h
  refine Call_ (ld_blt I hg hm boot_range (PyProof.Rows.callWith_type1 (thn (ha pos pins s σ H _ I h) fun us s1 ⟨vs, H1, I1, r1, q1⟩ => ?_) hs rfl))
  obtain ⟨j, e, q1, q2, q⟩ := q1
  subst e
  cases r1 with
  | cons r rr =>
    cases rr
    obtain ⟨t, rfl⟩ := r
    exact call_range_1 (range_it I1 (by omega) (by omega) q1 q2 (by simpa using q))
theorem pi_range2 {a b : Expr} {ta : TA} {p pos : Pos} (hg : Gl X "range") (hm : X.mg "range" = none) (ha : PA X [a, b] ta) (hs : starEach [a, b] X.env = [(false, eval a X.env), (false, eval b X.env)] := by rfl) (hs2 : starEach [b] X.env = [(false, eval b X.env)] := by rfl) :
    PI X tg (.Call (.Name "range" p) [a, b] [] pos) (iRng2 ta) := by
  intro pins s σ H R I h
  refine Call_ (ld_blt I hg hm boot_range (PyProof.Rows.callWith_type1 (thn (ha pos pins s σ H _ I h) fun us s1 ⟨vs, H1, I1, r1, q1⟩ => ?_) (by rw [hs, hs2]) (by rw [hs2]; rfl)))
  obtain ⟨i, j, e, ⟨q1, q2, q3, q4⟩, q⟩ := q1
  subst e
  cases r1 with
  | cons r rr =>
    cases rr with
    | cons r' rr =>
      cases rr
      obtain ⟨t, rfl⟩ := r
      obtain ⟨t', rfl⟩ := r'
      exact call_range_2 (range_it I1 q1 q2 q3 q4 q)
def tFor (wi:TI) (g:TG) (tb:TS):TS:=fun D σ H=>wi σ H fun J H1=>∃ W:Nat→Nat→St→Hp→Prop,(∃ m,W 0 m σ H1) ∧ ∀ i m σ H,W i m σ H →
 (J.stop i H∧D.nx σ H)∨(J.go i H ∧ ∃ N:St→Hp→Prop,(∀ σ' H',N σ' H' → ∃ m',m' < m∧W (i+1) m' σ' H') ∧ ∀ x H',J.yld i H x H'→g x σ H' fun σ2 H2=>tb { D with nx:=N,ct:=N,bk:=D.nx } σ2 H2)
def pinsAt (fp:List Addr) (h:Heap):List (Addr × Obj):=fp.filterMap fun b=>(h.get? b).map fun o=>(b,o)
theorem mem_pinsAt {fp:List Addr} {h:Heap} {b:Addr} {o:Obj} (hb:b ∈ fp) (e:h.get? b=some o):(b,o) ∈ pinsAt fp h:=List.mem_filterMap.mpr ⟨b,hb,by rw [e];rfl⟩
theorem of_pinsAt {fp : List Addr} {h : Heap} {p : Addr × Obj} (hp : p ∈ pinsAt fp h) : p.1 ∈ fp ∧ h.get? p.1 = some p.2 := by
  obtain ⟨b, hb, e⟩ := List.mem_filterMap.mp hp
  cases q : h.get? b with
  | none => rw [q] at e; cases e
  | some o =>
    rw [q] at e
    have e' : (b, o) = p := Option.some.inj e
    subst e'
    exact ⟨hb, q⟩
theorem Inv.pinned {pins:List (Addr × Obj)} {σ:St} {H:Hp} {s:Shared} {fp:List Addr} (I:Inv X pins σ H s) (hf : ∀ b ∈ fp,FpOk X pins H b) (ho : ∀ b ∈ fp,∃ o,s.heap.get? b=some o ∧ ∀ v,o.data ≠ .cell v):Inv X (pins++pinsAt fp s.heap) σ H s:=
 I.pins_of fun p hp=>(List.mem_append.mp hp).elim (fun z=>I.pin p (List.mem_append_right _ z)) fun z=>by
  obtain ⟨hb,e⟩:=of_pinsAt z
  obtain ⟨f0,f1,f2,_⟩:=hf p.1 hb
  obtain ⟨o,e',d⟩:=ho p.1 hb
  rw [e] at e';cases e'
  exact ⟨e,f0,f1,f2,d⟩
theorem Inv.unpinned {pins pl:List (Addr × Obj)} {σ:St} {H:Hp} {s:Shared} (I:Inv X (pins++pl) σ H s):Inv X pins σ H s:=I.pins_of fun p hp=>I.pin p (List.mem_append_right _ (List.mem_append_left _ hp))
theorem ps_for {iter:Expr} {body:List Stmt} {wi:TI} {g:TG} {tb:TS} {pos:Pos} (hp:PassesOwn (model X.prog X.w) X.A X.env X.xe) (hc:X.calm=true) (hi:PI X tg iter wi) (hg:PG X tg g) (hb:PSs X body tb)
  (hs : ∀ x,foldedSetIterable iter X.env x=pure x:=by intro _;rfl):PS X (.For tg iter body [] pos) (tFor wi g tb):=by
 intro pins s σ H D I h
 refine wpAny_For (thn (hi pins s σ H _ I h) fun v s1 h1=>thn h1 fun itv s2 h2=>?_) hs
 obtain ⟨it,fp,tn,J,H2,e,I2,T,st2,f2,W,⟨m0,w0⟩,turn⟩:=h2
 subst e
 have stat : ∀ {H':Hp},(∀ b ∈ fp,H' b=none) → ∀ b ∈ fp,FpOk X pins H' b:=fun hn b hb=>⟨hn b hb,(f2 b hb).2⟩
 refine codeAny_forLoop_any (fun n s'=>∃ i σ' H',Inv X pins σ' H' s'∧tn i s'.heap∧(∀ b ∈ fp,H' b=none)∧W i n σ' H') ?_ m0 ⟨0,σ,H2,I2,st2,fun b hb=>(f2 b hb).1,w0⟩
 rintro n s3 ⟨i,σ3,H3,I3,st3,fr3,w3⟩
 rcases turn i n σ3 H3 w3 with ⟨stop,qn⟩ | ⟨go,N,hN,step⟩
 ·refine wpAny_passesOwn hp (thn (T.done X rfl rfl rfl hc i pins s3 σ3 H3 X.xe I3 (stat fr3) st3 stop) fun r s4 ⟨hr,I4⟩=>?_)
  subst hr
  exact wpAny_execs_nil ⟨σ3,H3,I4,qn⟩
 ·refine wpAny_passesOwn hp (thn (T.item X rfl rfl rfl hc i pins s3 σ3 H3 X.xe I3 (stat fr3) st3 go) fun r s4 ⟨u,hr,h4⟩=>?_)
  subst hr
  refine wpAny_passesOwn hp (thn h4 fun _ s5 ⟨x,H5,I5,r5,y5,st5,fr5⟩=>?_)
  have I5':=I5.pinned (stat fr5) (T.obj _ _ st5)
  refine wpAny_passesOwn hp (thn (hg _ s5 σ3 H5 x u _ I5' r5 (step x H5 y5)) fun _ s6 ⟨σ6,H6,I6,q6⟩=>?_)
  refine wpAny_passesOwn hp (thn (hb _ s6 σ6 H6 _ I6 q6) fun f s7 q7=>?_)
  have again : ∀ {σ7:St} {H7:Hp},Inv X (pins++pinsAt fp s5.heap) σ7 H7 s7→N σ7 H7 → ∃ m,m < n ∧ ∃ i σ' H',Inv X pins σ' H' s7∧tn i s7.heap∧(∀ b ∈ fp,H' b=none)∧W i m σ' H':=fun {σ7 H7} I7 n7=>by
   obtain ⟨m',hm,w7⟩:=hN σ7 H7 n7
   refine ⟨m',hm,i+1,σ7,H7,I7.unpinned,T.keep _ _ _ st5 fun b hb o e=>(I7.pin (b,o) (List.mem_append_right _ (List.mem_append_right _ (mem_pinsAt hb e)))).1,fun b hb=>?_,w7⟩
   obtain ⟨o,e,d⟩:=T.obj _ _ st5 b hb
   exact (I7.pin (b,o) (List.mem_append_right _ (List.mem_append_right _ (mem_pinsAt hb e)))).2.1
  cases f with
  | next=>obtain ⟨σ7,H7,I7,n7⟩:=q7;exact again I7 n7
  | cont=>obtain ⟨σ7,H7,I7,n7⟩:=q7;exact again I7 n7
  | brk=>obtain ⟨σ7,H7,I7,q7⟩:=q7;exact ⟨σ7,H7,I7.unpinned,q7⟩
  | ret v=>obtain ⟨x7,σ7,H7,I7,r7,q7⟩:=q7;exact ⟨x7,σ7,H7,I7.unpinned,r7,q7⟩
end
theorem for_list {K:PySem.W.Frag} {a:Addr} {xs:List V} {g:TG} {tb:TS} {D:Ends} {σ:St} {H:Hp} (Pv:Nat→St→Hp→Prop) (h0:Pv 0 σ H) (hl : ∀ i σ H,i≤xs.length→Pv i σ H→SqL K H a xs)
  (hs : ∀ i x σ H,xs[i]? = some x→Pv i σ H→g x σ H fun σ2 H2=>tb { D with nx:=Pv (i+1),ct:=Pv (i+1),bk:=D.nx } σ2 H2) (hd : ∀ σ H,Pv xs.length σ H→D.nx σ H) :
  ∃ W:Nat→Nat→St→Hp→Prop,(∃ m,W 0 m σ H) ∧ ∀ i m σ H,W i m σ H →
   ((Itl K a).stop i H∧D.nx σ H)∨((Itl K a).go i H ∧ ∃ N:St→Hp→Prop,(∀ σ' H',N σ' H' → ∃ m',m' < m∧W (i+1) m' σ' H') ∧ ∀ x H',(Itl K a).yld i H x H'→g x σ H' fun σ2 H2=>tb { D with nx:=N,ct:=N,bk:=D.nx } σ2 H2):=by
 refine ⟨fun i m σ H=>m=xs.length - i∧i≤xs.length∧Pv i σ H,⟨xs.length,by simp,Nat.zero_le _,h0⟩,?_⟩
 rintro i m σ H ⟨rfl,hi,p⟩
 have q:=hl i σ H hi p
 by_cases hlt:i < xs.length
 ·refine .inr ⟨⟨xs,xs[i],q,by simp [hlt]⟩,Pv (i+1),fun σ' H' p'=>⟨xs.length - (i+1),by omega,rfl,hlt,p'⟩,fun x H' y=>?_⟩
  obtain ⟨e,y⟩:=y
  subst e
  exact hs i x σ _ (y xs q) p
 ·have e:i=xs.length:=by omega
  subst e
  exact .inl ⟨⟨xs,q,Nat.le_refl _⟩,hd σ H p⟩
theorem for_tup {K:PySem.W.Frag} {a:Addr} {xs:List V} {g:TG} {tb:TS} {D:Ends} {σ:St} {H:Hp} (Pv:Nat→St→Hp→Prop) (h0:Pv 0 σ H) (hl : ∀ i σ H,i≤xs.length→Pv i σ H→SqT K H a xs)
  (hs : ∀ i x σ H,xs[i]? = some x→Pv i σ H→g x σ H fun σ2 H2=>tb { D with nx:=Pv (i+1),ct:=Pv (i+1),bk:=D.nx } σ2 H2) (hd : ∀ σ H,Pv xs.length σ H→D.nx σ H) :
  ∃ W:Nat→Nat→St→Hp→Prop,(∃ m,W 0 m σ H) ∧ ∀ i m σ H,W i m σ H →
   ((Itt K a).stop i H∧D.nx σ H)∨((Itt K a).go i H ∧ ∃ N:St→Hp→Prop,(∀ σ' H',N σ' H' → ∃ m',m' < m∧W (i+1) m' σ' H') ∧ ∀ x H',(Itt K a).yld i H x H'→g x σ H' fun σ2 H2=>tb { D with nx:=N,ct:=N,bk:=D.nx } σ2 H2):=by
 refine ⟨fun i m σ H=>m=xs.length - i∧i≤xs.length∧Pv i σ H,⟨xs.length,by simp,Nat.zero_le _,h0⟩,?_⟩
 rintro i m σ H ⟨rfl,hi,p⟩
 have q:=hl i σ H hi p
 by_cases hlt:i < xs.length
 ·refine .inr ⟨⟨xs,xs[i],q,by simp [hlt]⟩,Pv (i+1),fun σ' H' p'=>⟨xs.length - (i+1),by omega,rfl,hlt,p'⟩,fun x H' y=>?_⟩
  obtain ⟨e,y⟩:=y
  subst e
  exact hs i x σ _ (y xs q) p
 ·have e:i=xs.length:=by omega
  subst e
  exact .inl ⟨⟨xs,q,Nat.le_refl _⟩,hd σ H p⟩
theorem for_range {lo:Int} {n:Nat} {g:TG} {tb:TS} {D:Ends} {σ:St} {H:Hp} (Pv:Nat→St→Hp→Prop) (h0:Pv 0 σ H)
  (hs : ∀ i σ H,i < n→Pv i σ H→g (.int (lo+i)) σ H fun σ2 H2=>tb { D with nx:=Pv (i+1),ct:=Pv (i+1),bk:=D.nx } σ2 H2) (hd : ∀ σ H,Pv n σ H→D.nx σ H) :
  ∃ W:Nat→Nat→St→Hp→Prop,(∃ m,W 0 m σ H) ∧ ∀ i m σ H,W i m σ H →
   ((Itr lo n).stop i H∧D.nx σ H)∨((Itr lo n).go i H ∧ ∃ N:St→Hp→Prop,(∀ σ' H',N σ' H' → ∃ m',m' < m∧W (i+1) m' σ' H') ∧ ∀ x H',(Itr lo n).yld i H x H'→g x σ H' fun σ2 H2=>tb { D with nx:=N,ct:=N,bk:=D.nx } σ2 H2):=by
 refine ⟨fun i m σ H=>m=n - i∧i≤n∧Pv i σ H,⟨n,by simp,Nat.zero_le _,h0⟩,?_⟩
 rintro i m σ H ⟨rfl,hi,p⟩
 by_cases hlt:i < n
 ·refine .inr ⟨hlt,Pv (i+1),fun σ' H' p'=>⟨n - (i+1),by omega,rfl,hlt,p'⟩,fun x H' y=>?_⟩
  obtain ⟨e,y⟩:=y
  subst e y
  exact hs i σ _ hlt p
 ·have e:i=n:=by omega
  subst e
  exact .inl ⟨Nat.le_refl _,hd σ H p⟩
abbrev R2:=V→V→Hp→VK→Prop
def OpR (X:Cx) (f:Value→Value→Sem Value) (r:R2):Prop:=
 ∀ (pins:List (Addr × Obj)) (s:Shared) (σ:St) (H:Hp) (x y:V) (v u:Value) (Q:VK),Inv X pins σ H s→RelV x v→RelV y u→r x y H Q →
  wpAny (model X.prog X.w) X.A (f v u) (EP X pins σ Q) X.xe s
def UnR (X:Cx) (f:Value→Sem Value) (r:V→Hp→VK→Prop):Prop:=
 ∀ (pins:List (Addr × Obj)) (s:Shared) (σ:St) (H:Hp) (x:V) (v:Value) (Q:VK),Inv X pins σ H s→RelV x v→r x H Q →
  wpAny (model X.prog X.w) X.A (f v) (EP X pins σ Q) X.xe s
def CallR (X:Cx) (f:Value) (r:List V→Hp→VK→Prop):Prop:=
 ∀ (pins:List (Addr × Obj)) (s:Shared) (σ:St) (H:Hp) (xs:List V) (us:List Value) (Q:VK),Inv X pins σ H s→Vals xs us→r xs H Q →
  wpAny (model X.prog X.w) X.A (call f us) (EP X pins σ Q) X.xe s
def tOp (r:R2) (ta tb:TE):TE:=fun σ H Q=>ta σ H fun x H1=>tb σ H1 fun y H2=>r x y H2 Q
def tUn (r:V→Hp→VK→Prop) (ta:TE):TE:=fun σ H Q=>ta σ H fun x H1=>r x H1 Q
def rI (C:Int→Int→Prop) (g:Int→Int→V):R2:=fun x y H Q=>∃ i j,x = .int i∧y = .int j∧C i j∧Q (g i j) H
def rI0 (g:Int→Int→V):R2:=fun x y H Q=>∃ i j,x = .int i∧y = .int j∧Q (g i j) H
def rU (g:Int→V):V→Hp→VK→Prop:=fun x H Q=>∃ i,x = .int i∧Q (g i) H
section
variable {X : Cx} {a b c : Expr} {ta tb tc : TE} {pos : Pos}
theorem binT (ha:PE X a ta) (hb:PE X b tb) {pins:List (Addr × Obj)} {s:Shared} {σ:St} {H:Hp} {R:V→V→Hp→Prop} (I:Inv X pins σ H s)
  (h:ta σ H fun x H1=>tb σ H1 fun y H2=>R x y H2) {Q:Value→Shared→Prop} {f:Value→Value→Sem Value}
  (hf : ∀ v u s2 x y H2,Inv X pins σ H2 s2→RelV x v→RelV y u→R x y H2→wpAny (model X.prog X.w) X.A (f v u) Q X.xe s2) :
  wpAny (model X.prog X.w) X.A (eval a X.env) (fun v s₁=>wpAny (model X.prog X.w) X.A (eval b X.env) (fun u s₂=>wpAny (model X.prog X.w) X.A (f v u) Q X.xe s₂) X.xe s₁) X.xe s:=by
 refine thn (ha pins s σ H _ I h) fun v s1 ⟨x,H1,I1,r1,q1⟩=>?_
 refine thn (hb pins s1 σ H1 _ I1 q1) fun u s2 ⟨y,H2,I2,r2,q2⟩=>?_
 exact hf v u s2 x y H2 I2 r1 r2 q2
theorem pe_op {op:Operator} {r:R2} (ho:OpR X (binaryOp op) r) (ha:PE X a ta) (hb:PE X b tb):PE X (.BinOp a op b pos) (tOp r ta tb):=by
 intro pins s σ H Q I h
 exact wpAny_BinOp (binT ha hb I h fun v u s2 x y H2 I2 rx ry q=>ho pins s2 σ H2 x y v u Q I2 rx ry q)
theorem pe_un {op:UnaryOp} {r:V→Hp→VK→Prop} (ho:UnR X (unaryOp op) r) (ha:PE X a ta):PE X (.UnaryOp op a pos) (tUn r ta):=by
 intro pins s σ H Q I h
 exact UnaryOp_ (thn (ha pins s σ H _ I h) fun v s1 ⟨x,H1,I1,r1,q1⟩=>ho pins s1 σ H1 x v Q I1 r1 q1)
theorem opI {f:Value→Value→Sem Value} {C:Int→Int→Prop} {g:Int→Int→Int}
  (rule : ∀ (i j:Int) (t u:Tok) (s:Shared) (Q:Value→Shared→Prop) (E:Value→Shared→Prop),C i j→Q (.int (g i j) s.toks) { s with toks:=s.toks+1 }→wpAny (model X.prog X.w) X.A (f (.int i t) (.int j u)) Q E s) :
  OpR X f (rI C fun i j=>.int (g i j)):=by
 intro pins s σ H x y v u Q I rx ry h
 obtain ⟨i,j,rfl,rfl,hc,q⟩:=h
 obtain ⟨t,rfl⟩:=rx
 obtain ⟨t',rfl⟩:=ry
 exact rule i j t t' s _ _ hc ⟨.int (g i j),H,I.tok _,⟨_,rfl⟩,q⟩
theorem opI0 {f:Value→Value→Sem Value} {g:Int→Int→Int}
  (rule : ∀ (i j:Int) (t u:Tok) (s:Shared) (Q:Value→Shared→Prop) (E:Value→Shared→Prop),Q (.int (g i j) s.toks) { s with toks:=s.toks+1 }→wpAny (model X.prog X.w) X.A (f (.int i t) (.int j u)) Q E s) :
  OpR X f (rI0 fun i j=>.int (g i j)):=by
 intro pins s σ H x y v u Q I rx ry h
 obtain ⟨i,j,rfl,rfl,q⟩:=h
 obtain ⟨t,rfl⟩:=rx
 obtain ⟨t',rfl⟩:=ry
 exact rule i j t t' s _ _ ⟨.int (g i j),H,I.tok _,⟨_,rfl⟩,q⟩
theorem opB0 {f:Value→Value→Sem Value} {g:Int→Int→Bool}
  (rule : ∀ (i j:Int) (t u:Tok) (s:Shared) (Q:Value→Shared→Prop) (E:Value→Shared→Prop),Q (.bool (g i j)) s→wpAny (model X.prog X.w) X.A (f (.int i t) (.int j u)) Q E s) :
  OpR X f (rI0 fun i j=>.bl (g i j)):=by
 intro pins s σ H x y v u Q I rx ry h
 obtain ⟨i,j,rfl,rfl,q⟩:=h
 obtain ⟨t,rfl⟩:=rx
 obtain ⟨t',rfl⟩:=ry
 exact rule i j t t' s _ _ ⟨.bl (g i j),H,I,rfl,q⟩
def CPow (i j:Int):Prop:=0≤j∧j≤1000000∧i.natAbs < 2 ^ 64
def CMul (i j:Int):Prop:=(-(2 ^ 64) < i∧i < 2 ^ 64)∨(-(2 ^ 64) < j∧j < 2 ^ 64)
theorem CMul.ok {i j:Int} (h:CMul i j):IntMulOk i j:=by
 rcases h with ⟨h1,h2⟩ | ⟨h1,h2⟩
 ·exact .of_left (intBits_le_64 h1 h2)
 ·exact .of_right (intBits_le_64 h1 h2)
theorem two_pow_nn (k:Nat):(0:Int)≤2 ^ k:=by
 rw [two_pow_cast]
 exact Int.natCast_nonneg _
theorem op_add:OpR X (binaryOp .Add) (rI0 fun i j=>.int (i+j)):=opI0 fun _ _ _ _ _ _ _ q=>add_int q
theorem op_sub:OpR X (binaryOp .Sub) (rI0 fun i j=>.int (i - j)):=opI0 fun _ _ _ _ _ _ _ q=>sub_int q
theorem op_mod:OpR X (binaryOp .Mod) (rI (fun _ j=>0 < j) fun i j=>.int (i % j)):=opI fun i j _ _ _ _ _ hc q=>by
 have h1:(0:Int) < j:=hc
 exact mod_int' (by omega) (by rw [Int.fmod_eq_emod_of_nonneg i (by omega)];exact q)
theorem op_pow:OpR X (binaryOp .Pow) (rI CPow fun i j=>.int (i ^ j.toNat)):=opI fun _ _ _ _ _ _ _ hc q=>pow_int_small hc.1 hc.2.1 hc.2.2 q
theorem op_shr:OpR X (binaryOp .RShift) (rI (fun _ j=>0≤j) fun i j=>.int (i / 2 ^ j.toNat)):=opI fun i j _ _ _ _ _ hc q =>
 rshift_int hc (by rw [Int.fdiv_eq_ediv_of_nonneg i (two_pow_nn _)];exact q)
theorem unI {f:Value→Sem Value} {g:Int→Int}
  (rule : ∀ (i:Int) (t:Tok) (s:Shared) (Q:Value→Shared→Prop) (E:Value→Shared→Prop),Q (.int (g i) s.toks) { s with toks:=s.toks+1 }→wpAny (model X.prog X.w) X.A (f (.int i t)) Q E s) :
  UnR X f (rU fun i=>.int (g i)):=by
 intro pins s σ H x v Q I rx h
 obtain ⟨i,rfl,q⟩:=h
 obtain ⟨t,rfl⟩:=rx
 exact rule i t s _ _ ⟨.int (g i),H,I.tok _,⟨_,rfl⟩,q⟩
theorem un_neg:UnR X (unaryOp .USub) (rU fun i=>.int (-i)):=unI fun _ _ _ _ _ q=>neg_int q
end
def scal:V→V→Bool
 | .non,.non=>true | .non,.int _=>true | .int _,.non=>true | .non,.bl _=>true | .bl _,.non=>true | .non,.str _=>true | .str _,.non=>true
 | .int _,.int _=>true | .bl _,.bl _=>true | .str _,.str _=>true | .byt _,.byt _=>true
 | .int _,.str _=>true | .str _,.int _=>true | .bl _,.str _=>true | .str _,.bl _=>true
 | _,_=>false
def rEq:R2:=fun x y H Q=>scal x y=true∧Q (.bl (decide (x=y))) H
def rNe:R2:=fun x y H Q=>scal x y=true∧Q (.bl (!decide (x=y))) H
theorem dec_int {i j:Int}:decide (V.int i=V.int j)=(i == j):=by
 rw [Bool.eq_iff_iff]
 simp
theorem dec_bl {i j:Bool}:decide (V.bl i=V.bl j)=(i == j):=by
 rw [Bool.eq_iff_iff]
 simp
theorem dec_str {i j:Str}:decide (V.str i=V.str j)=(i == j):=by
 rw [Bool.eq_iff_iff]
 simp
theorem dec_byt {i j:Array UInt8}:decide (V.byt i=V.byt j)=(i.toList == j.toList):=by
 rw [Bool.eq_iff_iff]
 cases i
 cases j
 simp
section
variable {X : Cx} {a b c : Expr} {ta tb tc : TE} {pos : Pos}
theorem fin_bl {pins:List (Addr × Obj)} {σ:St} {H:Hp} {s:Shared} {Q:VK} {k k':Bool} (I:Inv X pins σ H s) (q:Q (.bl k) H) (e:k=k'):EP X pins σ Q (.bool k') s:=by
 subst e
 exact ⟨.bl k,H,I,rfl,q⟩
theorem op_eq : OpR X (compareOp .Eq) rEq := by
  intro pins s σ H x y v u Q I rx ry h
  obtain ⟨hs, q⟩ := h
  cases x with
  | non =>
    cases rx
    cases y with
    | non => cases ry; exact PySem.EqNone.eq_none_none (fin_bl I q (by simp))
    | bl j => cases ry; exact PySem.EqNone.eq_none_bool (fin_bl I q (by simp))
    | int j => obtain ⟨t', rfl⟩ := ry; exact PySem.EqNone.eq_none_int (fin_bl I q (by simp))
    | str j => obtain ⟨t', rfl⟩ := ry; exact PySem.EqNone.eq_none_str (fin_bl I q (by simp))
    | _ => exact absurd (show false = true from hs) Bool.false_ne_true
  | bl i =>
    cases rx
    cases y with
    | non => cases ry; exact PySem.EqNone.eq_bool_none (fin_bl I q (by simp))
    | bl j => cases ry; exact eq_bool (fin_bl I q dec_bl)
    | str j => obtain ⟨t', rfl⟩ := ry; exact PySem.EqMixed.eq_bool_str (fin_bl I q (by simp))
    | _ => exact absurd (show false = true from hs) Bool.false_ne_true
  | int i =>
    obtain ⟨t, rfl⟩ := rx
    cases y with
    | non => cases ry; exact PySem.EqNone.eq_int_none (fin_bl I q (by simp))
    | int j => obtain ⟨t', rfl⟩ := ry; exact eq_int (fin_bl I q dec_int)
    | str j => obtain ⟨t', rfl⟩ := ry; exact PySem.EqMixed.eq_int_str (fin_bl I q (by simp))
    | _ => exact absurd (show false = true from hs) Bool.false_ne_true
  | str i =>
    obtain ⟨t, rfl⟩ := rx
    cases y with
    | non => cases ry; exact PySem.EqNone.eq_str_none (fin_bl I q (by simp))
    | bl j => cases ry; exact PySem.EqMixed.eq_str_bool (fin_bl I q (by simp))
    | int j => obtain ⟨t', rfl⟩ := ry; exact PySem.EqMixed.eq_str_int (fin_bl I q (by simp))
    | str j => obtain ⟨t', rfl⟩ := ry; exact eq_str (fin_bl I q dec_str)
    | _ => exact absurd (show false = true from hs) Bool.false_ne_true
  | byt i =>
    obtain ⟨t, rfl⟩ := rx
    cases y with
    | byt j => obtain ⟨t', rfl⟩ := ry; exact W.eq_bytes (fin_bl I q dec_byt)
    | _ => exact absurd (show false = true from hs) Bool.false_ne_true
  | _ => cases y <;> exact absurd (show false = true from hs) Bool.false_ne_true
theorem op_ne : OpR X (compareOp .NotEq) rNe := by
  intro pins s σ H x y v u Q I rx ry h
  obtain ⟨hs, q⟩ := h
  cases x with
  | non =>
    cases rx
    cases y with
    | non => cases ry; exact PySem.EqNone.ne_none_none (fin_bl I q (by simp))
    | bl j => cases ry; exact PySem.EqNone.ne_none_bool (fin_bl I q (by simp))
    | int j => obtain ⟨t', rfl⟩ := ry; exact PySem.EqNone.ne_none_int (fin_bl I q (by simp))
    | str j => obtain ⟨t', rfl⟩ := ry; exact PySem.EqNone.ne_none_str (fin_bl I q (by simp))
    | _ => exact absurd (show false = true from hs) Bool.false_ne_true
  | bl i =>
    cases rx
    cases y with
    | non => cases ry; exact PySem.EqNone.ne_bool_none (fin_bl I q (by simp))
    | bl j => cases ry; exact ne_bool (fin_bl I q (congrArg not dec_bl))
    | str j => obtain ⟨t', rfl⟩ := ry; exact PySem.EqMixed.ne_bool_str (fin_bl I q (by simp))
    | _ => exact absurd (show false = true from hs) Bool.false_ne_true
  | int i =>
    obtain ⟨t, rfl⟩ := rx
    cases y with
    | non => cases ry; exact PySem.EqNone.ne_int_none (fin_bl I q (by simp))
    | int j => obtain ⟨t', rfl⟩ := ry; exact ne_int (fin_bl I q (congrArg not dec_int))
    | str j => obtain ⟨t', rfl⟩ := ry; exact PySem.EqMixed.ne_int_str (fin_bl I q (by simp))
    | _ => exact absurd (show false = true from hs) Bool.false_ne_true
  | str i =>
    obtain ⟨t, rfl⟩ := rx
    cases y with
    | non => cases ry; exact PySem.EqNone.ne_str_none (fin_bl I q (by simp))
    | bl j => cases ry; exact PySem.EqMixed.ne_str_bool (fin_bl I q (by simp))
    | int j => obtain ⟨t', rfl⟩ := ry; exact PySem.EqMixed.ne_str_int (fin_bl I q (by simp))
    | str j => obtain ⟨t', rfl⟩ := ry; exact ne_str (fin_bl I q (congrArg not dec_str))
    | _ => exact absurd (show false = true from hs) Bool.false_ne_true
  | byt i =>
    obtain ⟨t, rfl⟩ := rx
    cases y with
    | byt j => obtain ⟨t', rfl⟩ := ry; exact W.ne_bytes (fin_bl I q (congrArg not dec_byt))
    | _ => exact absurd (show false = true from hs) Bool.false_ne_true
  | _ => cases y <;> exact absurd (show false = true from hs) Bool.false_ne_true
theorem op_lt:OpR X (compareOp .Lt) (rI0 fun i j=>.bl (decide (i < j))):=opB0 fun _ _ _ _ _ _ _ q=>lt_int q
theorem op_le:OpR X (compareOp .LtE) (rI0 fun i j=>.bl (decide (i≤j))):=opB0 fun _ _ _ _ _ _ _ q=>le_int q
theorem op_gt:OpR X (compareOp .Gt) (rI0 fun i j=>.bl (decide (j < i))):=opB0 fun _ _ _ _ _ _ _ q=>gt_int q
theorem op_ge:OpR X (compareOp .GtE) (rI0 fun i j=>.bl (decide (j≤i))):=opB0 fun _ _ _ _ _ _ _ q=>ge_int q
theorem op_lt_str:OpR X (compareOp .Lt) (fun x y H Q=>∃ i j,x = .str i∧y = .str j∧Q (.bl (decide (i.cps.toList < j.cps.toList))) H):=by
 intro pins s σ H x y v u Q I rx ry h
 obtain ⟨i,j,rfl,rfl,q⟩:=h
 obtain ⟨t,rfl⟩:=rx
 obtain ⟨t',rfl⟩:=ry
 exact lt_str (fin_bl I q rfl)
theorem op_in_str:OpR X (compareOp .In) (fun x y H Q=>∃ i j,x = .str i∧y = .str j∧Q (.bl (!(Builtin.Str.occurrences j i 0 j.length 1).isEmpty)) H):=by
 intro pins s σ H x y v u Q I rx ry h
 obtain ⟨i,j,rfl,rfl,q⟩:=h
 obtain ⟨t,rfl⟩:=rx
 obtain ⟨t',rfl⟩:=ry
 exact in_str (fin_bl I q rfl)
theorem op_isN:OpR X (compareOp .Is) (fun x y H Q=>y = .non∧Q (.bl (decide (x = .non))) H):=by
 intro pins s σ H x y v u Q I rx ry h
 obtain ⟨rfl,q⟩:=h
 cases ry
 refine is_none_gen (fin_bl I q ?_)
 cases x <;> first
  | (cases rx;rfl)
  | (obtain ⟨t,rfl⟩:=rx;rfl)
theorem op_notN:OpR X (compareOp .IsNot) (fun x y H Q=>y = .non∧Q (.bl (!decide (x = .non))) H):=by
 intro pins s σ H x y v u Q I rx ry h
 obtain ⟨rfl,q⟩:=h
 cases ry
 refine isnot_none_gen (fin_bl I q ?_)
 cases x <;> first
  | (cases rx;rfl)
  | (obtain ⟨t,rfl⟩:=rx;rfl)
theorem nomark (b:Expr) {op:CmpOp} (h:op ≠ .In:=by decide) (h2:op ≠ .NotIn:=by decide):behindInMarks op b=false:=by
 have e1:(op == CmpOp.In)=false:=by cases op <;> first | rfl | exact absurd rfl h
 have e2:(op == CmpOp.NotIn)=false:=by cases op <;> first | rfl | exact absurd rfl h2
 cases b <;> simp [behindInMarks,e1,e2]
theorem pe_cmpR {op:CmpOp} {r:R2} (ho:OpR X (compareOp op) r) (ha:PE X a ta) (hb:PE X b tb) (hm:behindInMarks op b=false):PE X (.Compare a [op] [b] pos) (tOp r ta tb):=by
 intro pins s σ H Q I h
 exact wpAny_Compare1 (binT ha hb I h fun v u s2 x y H2 I2 rx ry q=>ho pins s2 σ H2 x y v u Q I2 rx ry q) hm
def tTest (t:TE):TT:=fun σ H Q=>t σ H fun x H'=>∃ k,x = .bl k∧Q k H'
theorem pt_cmpR {op:CmpOp} {r:R2} (ho:OpR X (compareOp op) r) (ha:PE X a ta) (hb:PE X b tb) (hm:behindInMarks op b=false):PT X (.Compare a [op] [b] pos) (tTest (tOp r ta tb)):=by
 intro pins s σ H Q I h
 refine wpAny_isTrue_Compare1 (thn (ha pins s σ H _ I h) fun v s1 ⟨x,H1,I1,r1,q1⟩=>thn (hb pins s1 σ H1 _ I1 q1) fun u s2 ⟨y,H2,I2,r2,q2⟩ =>
  thn (ho pins s2 σ H2 x y v u _ I2 r1 r2 q2) fun c s3 ⟨z,H3,I3,r3,k,e,q3⟩=>?_) hm
 subst e
 cases r3
 exact wpAny_truthy_bool ⟨H3,I3,q3⟩
theorem line63:(sizeLine:Nat) < 2 ^ 63:=by rw [sizeLine_eq];decide
theorem op_add_str:OpR X (binaryOp .Add) (fun x y H Q=>∃ i j,x = .str i∧y = .str j∧i.length+j.length≤sizeLine∧Q (.str (i++j)) H):=by
 intro pins s σ H x y v u Q I rx ry h
 obtain ⟨i,j,rfl,rfl,hz,q⟩:=h
 obtain ⟨t,rfl⟩:=rx
 obtain ⟨t',rfl⟩:=ry
 exact add_str (fun t' tk=>⟨.str (i++j),H,I.tok _,⟨_,rfl⟩,q⟩) hz
theorem vals1 {x:V} {us:List Value} (r:Vals [x] us) : ∃ u,us=[u]∧RelV x u:=by
 cases r with
 | cons r1 r2=>cases r2;exact ⟨_,rfl,r1⟩
theorem vals2 {x y : V} {us : List Value} (r : Vals [x, y] us) : ∃ u w', us = [u, w'] ∧ RelV x u ∧ RelV y w' := by
  cases r with
  | cons r1 r2 =>
    cases r2 with
    | cons r3 r4 => cases r4; exact ⟨_, _, rfl, r1, r3⟩
theorem call_abs:CallR X (.builtin "abs") (fun xs H Q=>∃ i,xs=[.int i]∧Q (.int (if i < 0 then -i else i)) H):=by
 intro pins s σ H xs us Q I r h
 obtain ⟨i,rfl,q⟩:=h
 obtain ⟨u,rfl,t,rfl⟩:=vals1 r
 exact call_abs_int fun u tk=>⟨.int (if i < 0 then -i else i),H,I.tok _,⟨_,rfl⟩,q⟩
theorem call_max2 (hc:X.calm=true):CallR X (.builtin "max") (fun xs H Q=>∃ i j,xs=[.int i,.int j]∧Q (.int (if j > i then j else i)) H):=by
 intro pins s σ H xs us Q I r h
 obtain ⟨i,j,rfl,q⟩:=h
 obtain ⟨u,w',rfl,⟨t,rfl⟩,⟨t',rfl⟩⟩:=vals2 r
 refine max_two_ints (I.ok.hd hc) fun h' tk k=>⟨_,H,I.kept k,?_,q⟩
 by_cases hj:j > i
 ·rw [if_pos hj,if_pos hj];exact ⟨_,rfl⟩
 ·rw [if_neg hj,if_neg hj];exact ⟨_,rfl⟩
theorem call_min2 (hc:X.calm=true):CallR X (.builtin "min") (fun xs H Q=>∃ i j,xs=[.int i,.int j]∧Q (.int (if j < i then j else i)) H):=by
 intro pins s σ H xs us Q I r h
 obtain ⟨i,j,rfl,q⟩:=h
 obtain ⟨u,w',rfl,⟨t,rfl⟩,⟨t',rfl⟩⟩:=vals2 r
 refine min_two_ints (I.ok.hd hc) fun h' tk k=>⟨_,H,I.kept k,?_,q⟩
 by_cases hj:j < i
 ·rw [if_pos hj,if_pos hj];exact ⟨_,rfl⟩
 ·rw [if_neg hj,if_neg hj];exact ⟨_,rfl⟩
end
structure ObjM (h:Heap) (x dx C:Addr) (mA:Str→Option Value):Prop where
 obj:h.get? x=some (W.instObj C dx)
 ns:h.Ns1 dx mA
 ne:dx≠x
theorem lookIn_ns {h:Heap} {dx:Addr} {mA:Str→Option Value} (n:h.Ns1 dx mA) : ∃ od,h.get? dx=some od ∧ ∀ name,W.lookIn name od=some (mA name):=by
 obtain ⟨o,es,ep,ho,hd,hk,_,hm⟩:=n
 refine ⟨o,ho,fun name=>?_⟩
 have e:=hm name
 unfold nsFind findBy at e
 rw [← Array.find?_toList] at e
 unfold W.lookIn
 rw [hd]
 dsimp only
 split
 ·rename_i y q
  rw [q] at e
  exact congrArg some e
 ·rename_i q
  rw [q] at e
  have a:es.toList.any (·.refKey)=false:=by
   rw [List.any_eq_false]
   intro y hy
   obtain ⟨z,t,hkey⟩:=hk y (Array.mem_toList_iff.mp hy)
   simp [DictEntry.refKey,hkey]
  have a' : ¬ es.toList.any (·.refKey)=true:=by rw [a];exact Bool.false_ne_true
  rw [if_neg a']
  exact congrArg some e
theorem ObjM.look {h:Heap} {x dx C:Addr} {mA:Str→Option Value} (I:ObjM h x dx C mA) : ∃ od,W.InstAt h x (W.instObj C dx) C (some od) ∧ ∀ name,W.lookIn name od=some (mA name):=
 let ⟨od,ho,hl⟩:=lookIn_ns I.ns
 ⟨od,⟨I.obj,rfl,rfl,ho⟩,hl⟩
section
variable {prog : Program} {w : World} {A : Around} {E : Value → Shared → Prop} {s : Shared} {K : W.Frag} {x dx C f : Addr} {mA : Str → Option Value} {name : Str} {v : Value}
theorem get_map {expr:Bool} {Q:Value→Shared→Prop} (X:K.In s.heap) (I:ObjM s.heap x dx C mA) (hg:W.plainGet K C name=true) (hh:W.hasDictIn K C=true)
  (ha:W.findIn K (.ref C) name=some none) (hv:mA name=some v) (hv':W.handedIn v=true) (h:Q v { s with toks:=s.toks+1 }) :
  wpAny (model prog w) A (getAttr (.ref x) name expr) Q E s:=by
 obtain ⟨od,J,hl⟩:=I.look
 exact W.get_value X J (W.plainGet_of hg).1 (W.findObj_own hh ha rfl (by rw [hl,hv])) hv' h
theorem get_meth {pl:Sem Bool} {Q:Value × List Value→Shared→Prop} (X:K.In s.heap) (I:ObjM s.heap x dx C mA) (hg:W.plainGet K C name=true)
  (hf:W.findIn K (.ref C) name=some (some (.ref f))) (ht:W.isFn K (.ref f)=true) (hv:mA name=none) (h:Q (.ref f,[.ref x]) s) :
  wpAny (model prog w) A (getMethod (.ref x) name pl) Q E s:=by
 obtain ⟨od,J,hl⟩:=I.look
 exact W.method_fn X J (W.plainGet_of hg).1 (W.plainGet_of hg).2 hf (beq_iff_eq.mp ht) (by show (W.lookIn name od).map (·.isSome)=some false;rw [hl,hv];rfl) h
theorem set_map {ns:List Str} {Q:Unit→Shared→Prop} (X:K.In s.heap) (I:ObjM s.heap x dx C mA)
  (hs:W.findIn K (.ref C) "__setattr__" = some (some (.builtin "object.__setattr__"))) (hp:W.plainOver K C=true) (ht:W.takerIn K C name=some none) (hh:W.hasDictIn K C=true)
  (hw:PySem.Within mA ns) (hsz:ns.length≤sizeLine)
  (h : ∀ h',ObjM h' x dx C (fun y=>if y=name then some v else mA y)→Heap.SameBut dx s.heap h'→Q () { s with heap:=h',toks:=s.toks+2 }) :
  wpAny (model prog w) A (setAttr (.ref x) name v) Q E s:=by
 obtain ⟨od,J,hl⟩:=I.look
 refine W.set_plain X J hs (W.osa_open (s:={ s with toks:=s.toks+1 }) (r:=none) X J hp ht fun b=>?_)
 obtain ⟨cd,hc,hd'⟩:=W.any_some hh
 have hx:s.heap.get? x=some ⟨.ref C,some dx,.plain,#[]⟩:=I.obj
 refine wpAny_bind (wpAny_pure (wpAny_bind (wpAny_bind (wpAny_loadPart hx (wpAny_bind (W.Looks.here (s:={ s with toks:=s.toks+1 }) (W.looks_clsIn X hc) ?_))))))
 rw [hd']
 refine wpAny_pure (a:=some dx) (wpAny_bind (wpAny_pure (wpAny_bind ?_)))
 refine wpAny_nsSet1 (s:={ s with toks:=s.toks+1 }) I.ns fun h' hn2 hs2=>?_
 obtain ⟨oD,esD,epD,hoD,hdD,hcD⟩:=hn2.count (PySem.Within.cons name v hw)
 refine wpAny_bind (wpAny_lookBehind hoD (by rw [hdD];exact pastItsLine_dict (Nat.le_trans hcD (by rw [List.length_cons];omega))) ?_)
 exact wpAny_pure (h _ ⟨(hs2.2 _ (Ne.symm I.ne)).trans I.obj,hn2,I.ne⟩ hs2)
theorem make_map {R:Result→Shared→Prop} {vs:List Value} {kw:List (Str × Value)} (X:K.In s.heap) (hm:W.makesIn K C=true)
  (hi:W.findIn K (.ref C) "__init__" = some (some (.ref f))) (hf:W.typeIn K (.ref f)=some (.type "function"))
  (h:codeAny (model prog w) (A.under (.builtin "type.__call__" ⟨.ref C::vs,kw⟩)) (.call (.ref f) ⟨.ref (s.heap.objs.size+1)::vs,kw⟩) (W.InitBack (s.heap.objs.size+1) R)
   { s with heap:=(s.heap.push W.emptyDict).push (W.instObj C s.heap.objs.size) }) :
  codeAny (model prog w) A (.call (.ref C) ⟨vs,kw⟩) R s:=by
 obtain ⟨hh,g,d,t,os⟩:=s
 exact W.make_core (W.makes_of X hm) (W.looks_findIn X hi) (fun self=>W.bind_fn X self hf) (.inl rfl) h
end
def putF (f:Str) (v:V):List (Str × V)→List (Str × V)
 | []=>[(f,v)]
 | (g,x)::r=>if g=f then (g,v)::r else (g,x)::putF f v r
theorem lookup_putF (f g : Str) (v : V) : ∀ fs : List (Str × V), (putF f v fs).lookup g = if g = f then some v else fs.lookup g
  | [] => by
    show List.lookup g [(f, v)] = _
    by_cases h : g = f
    · have hb : (g == f) = true := beq_iff_eq.mpr h
      simp only [List.lookup, hb, if_pos h]
    · have hb : (g == f) = false := beq_eq_false_iff_ne.mpr h
      simp only [List.lookup, hb, if_neg h]
  | (k, x) :: r => by
    have ih := lookup_putF f g v r
    rw [show putF f v ((k, x) :: r) = (if k = f then (k, v) :: r else (k, x) :: putF f v r) from rfl]
    by_cases hk : k = f
    · rw [if_pos hk]
      by_cases h : g = k
      · have hb : (g == k) = true := beq_iff_eq.mpr h
        simp only [List.lookup, hb, if_pos (h.trans hk)]
      · have hb : (g == k) = false := beq_eq_false_iff_ne.mpr h
        simp only [List.lookup, hb, if_neg (fun e : g = f => h (e.trans hk.symm))]
    · rw [if_neg hk]
      by_cases h : g = k
      · have hb : (g == k) = true := beq_iff_eq.mpr h
        simp only [List.lookup, hb, if_neg (fun e : g = f => hk (h.symm.trans e))]
      · have hb : (g == k) = false := beq_eq_false_iff_ne.mpr h
        simp only [List.lookup, hb]
        exact ih
theorem keys_putF (f : Str) (v : V) : ∀ fs : List (Str × V), f ∈ (putF f v fs).map (·.1) ∧ ∀ g, g ∈ fs.map (·.1) → g ∈ (putF f v fs).map (·.1)
  | [] => ⟨by simp [putF], fun g h => by simp at h⟩
  | (k, x) :: r => by
    obtain ⟨i1, i2⟩ := keys_putF f v r
    rw [show putF f v ((k, x) :: r) = (if k = f then (k, v) :: r else (k, x) :: putF f v r) from rfl]
    by_cases hk : k = f
    · rw [if_pos hk]
      subst hk
      exact ⟨by simp, fun g h => by simpa using h⟩
    · rw [if_neg hk]
      refine ⟨?_, fun g h => ?_⟩
      · rw [List.map_cons]
        exact List.mem_cons_of_mem _ i1
      · rw [List.map_cons] at h ⊢
        rcases List.mem_cons.mp h with e | e
        · exact List.mem_cons.mpr (.inl e)
        · exact List.mem_cons_of_mem _ (i2 g e)
theorem length_putF (f : Str) (v : V) : ∀ fs : List (Str × V), (putF f v fs).length ≤ fs.length + 1
  | [] => by simp [putF]
  | (k, x) :: r => by
    have ih := length_putF f v r
    rw [show putF f v ((k, x) :: r) = (if k = f then (k, v) :: r else (k, x) :: putF f v r) from rfl]
    by_cases hk : k = f
    · rw [if_pos hk, List.length_cons, List.length_cons]; omega
    · rw [if_neg hk, List.length_cons, List.length_cons]; omega
theorem RelO.some_of {v:V} {o:Option Value} (r:RelO (some v) o) : ∃ u,o=some u∧RelV v u:=by
 cases o with
 | none=>exact (show False from r).elim
 | some u=>exact ⟨u,rfl,r⟩
theorem RelO.none_of {o:Option Value} (r:RelO none o):o=none:=by
 cases o with
 | none=>rfl
 | some u=>exact (show False from r).elim
theorem handed_of {v:V} {u:Value} (r:RelV v u):W.handedIn u=true:=by
 cases v with
 | non=>cases (show u=Value.none from r);rfl
 | bl b=>cases (show u=Value.bool b from r);rfl
 | int i=>obtain ⟨t,e⟩:=(show ∃ t,u=Value.int i t from r);cases e;rfl
 | str x=>obtain ⟨t,e⟩:=(show ∃ t,u=Value.str x t from r);cases e;rfl
 | byt b=>obtain ⟨t,e⟩:=(show ∃ t,u=Value.bytes b t from r);cases e;rfl
 | flt b=>obtain ⟨t,e⟩:=(show ∃ t,u=Value.float b t from r);cases e;rfl
 | ref a=>cases (show u=Value.ref a from r);rfl
 | ty n=>cases (show u=Value.type n from r);rfl
section
variable {P : Program} {w : World} {H H' : Hp} {h h' : Heap} {a C dx : Addr} {fs fs' : List (Str × V)}
theorem ins_get (hok:HOk P w H h) (e:H a=some (.ins C dx fs)) : ∃ mA,ObjM h a dx C mA∧(∀ f,RelO (fs.lookup f) (mA f))∧PySem.Within mA (fs.map (·.1))∧fs.length≤1000∧H dx=some (.own a):=by
 obtain ⟨d,z,ne,ob,mA,n,r,q⟩:=(show ObjOk P w H h a (.ins C dx fs) from hok a _ e)
 exact ⟨mA,⟨ob,n,ne⟩,r,q,z,d⟩
end
structure Cls (K:W.Frag) (C:Addr):Prop where
 pg:W.plainGet K C Str.empty=true
 hd:W.hasDictIn K C=true
 po:W.plainOver K C=true
 sa:W.findIn K (.ref C) "__setattr__" = some (some (.builtin "object.__setattr__"))
theorem Cls.get {K:W.Frag} {C:Addr} (c:Cls K C) (f:Str):W.plainGet K C f=true:=c.pg
def NoAttr (K:W.Frag) (C:Addr) (f:Str):Prop:=W.findIn K (.ref C) f=some none
theorem NoAttr.taker {K:W.Frag} {C:Addr} {f:Str} (n:NoAttr K C f):W.takerIn K C f=some none:=by
 unfold W.takerIn
 rw [show W.findIn K (.ref C) f=some none from n]
 rfl
structure Con (K:W.Frag) (C:Addr) (f:Str) (v:V) (u:Value):Prop where
 at_:W.findIn K (.ref C) f=some (some u)
 rel:RelV v u
 get:W.specialIn K u "__get__" = some none
 cp:W.copiedNames.contains f=false
structure Meth (K:W.Frag) (C:Addr) (m:Str) (f:Addr):Prop where
 at_:W.findIn K (.ref C) m=some (some (.ref f))
 fn:W.isFn K (.ref f)=true
 kp:W.keepIn K (.ref f)=true
section
variable {X : Cx} {pins : List (Addr × Obj)} {σ : St} {H : Hp} {s : Shared} {a C dx : Addr} {fs : List (Str × V)} {f : Str} {v : V} {A : Around} {E : Value → Shared → Prop}
theorem getattr_ok {b:Bool} {Q:Value→Shared→Prop} (I:Inv X pins σ H s) (e:H a=some (.ins C dx fs)) (c:Cls X.K C) (n:NoAttr X.K C f) (l:fs.lookup f=some v)
  (h : ∀ u s',Inv X pins σ H s'→RelV v u→Q u s'):wpAny (model X.prog X.w) A (getAttr (.ref a) f b) Q E s:=by
 obtain ⟨mA,O,r,_,_,_⟩:=ins_get I.hok e
 obtain ⟨u,hu,ru⟩:=RelO.some_of (v:=v) (o:=mA f) (by rw [← l];exact r f)
 exact get_map I.kIn O (c.get f) c.hd n hu (handed_of ru) (h u _ (I.tok _) ru)
theorem getmeth_ok {m:Str} {g:Addr} {pl:Sem Bool} {Q:Value × List Value→Shared→Prop} (I:Inv X pins σ H s) (e:H a=some (.ins C dx fs)) (c:Cls X.K C) (k:Meth X.K C m g) (l:fs.lookup m=none)
  (h:Q (.ref g,[.ref a]) s):wpAny (model X.prog X.w) A (getMethod (.ref a) m pl) Q E s:=by
 obtain ⟨mA,O,r,_,_,_⟩:=ins_get I.hok e
 have hn:mA m=none:=RelO.none_of (by rw [← l];exact r m)
 exact get_meth I.kIn O (c.get m) k.at_ k.fn hn h
theorem setattr_ok {y:V} {u:Value} {Q:Unit→Shared→Prop} (I:Inv X pins σ H s) (e:H a=some (.ins C dx fs)) (c:Cls X.K C) (n:NoAttr X.K C f) (hl:fs.length < 1000) (ry:RelV y u)
  (h : ∀ s',Inv X pins σ (upd H a (.ins C dx (putF f y fs))) s'→Q () s'):wpAny (model X.prog X.w) A (setAttr (.ref a) f u) Q E s:=by
 obtain ⟨mA,O,r,wi,_,ho⟩:=ins_get I.hok e
 have hz:(fs.map (·.1)).length≤sizeLine:=by rw [List.length_map,sizeLine_eq];omega
 refine set_map I.kIn O c.sa c.po n.taker c.hd wi hz fun h' O' sb=>h _ ?_
 have hd : ∃ o,h'.get? dx=some o:=let ⟨o,_,_,e',_⟩:=O'.ns;⟨o,e'⟩
 refine I.write (x:=a) (e:=dx) (by rw [e];exact True.intro) (.inr ho) (fun b q hb z=>(sb.2 b hb).trans z) hd ?_
 refine ⟨by rw [upd_ne O.ne];exact ho,?_,O.ne,O'.obj,_,O'.ns,fun g=>?_,fun g hg=>?_⟩
 ·have:=length_putF f y fs;omega
 ·show RelO ((putF f y fs).lookup g) (if g=f then some u else mA g)
  rw [lookup_putF]
  by_cases q:g=f
  ·rw [if_pos q,if_pos q];exact ry
  ·rw [if_neg q,if_neg q];exact r g
 ·by_cases q:g=f
  ·rw [q];exact (keys_putF f y fs).1
  ·refine (keys_putF f y fs).2 g (wi g fun z=>hg ?_)
   show (if g=f then some u else mA g)=none
   rw [if_neg q];exact z
theorem Inv.made (I:Inv X pins σ H s):Inv X pins σ (upd (upd H s.heap.objs.size (.own (s.heap.objs.size+1))) (s.heap.objs.size+1) (.ins C s.heap.objs.size []))
  { s with heap:=(s.heap.push W.emptyDict).push (W.instObj C s.heap.objs.size) }:=by
 have e1:(s.heap.push W.emptyDict).get? s.heap.objs.size=some W.emptyDict:=Heap.get?_push_size s.heap rfl
 have e2:((s.heap.push W.emptyDict).push (W.instObj C s.heap.objs.size)).get? (s.heap.objs.size+1)=some (W.instObj C s.heap.objs.size):=by
  have:=Heap.get?_push_size (s.heap.push W.emptyDict) (o:=W.instObj C s.heap.objs.size) rfl
  rwa [Heap.size_push] at this
 have e3:(s.heap.push W.emptyDict).Ns s.heap.objs.size (fun _=>none):=⟨W.emptyDict,#[],_,e1,rfl,(fun e he=>absurd he (by simp)),fun _=>rfl⟩
 have I1:=I.laid (a:=s.heap.objs.size) (o:=.own (s.heap.objs.size+1)) (h':=s.heap.push W.emptyDict) (t':=s.toks) (fun b u q=>Heap.get?_push_of_some _ q) (Nat.le_refl _) ⟨_,e1⟩
 refine I1.laid (a:=s.heap.objs.size+1) (o:=.ins C s.heap.objs.size []) (t':=s.toks) (fun b u q=>Heap.get?_push_of_some _ q) (Nat.le_of_eq (Heap.size_push _ _)) ?_
 have ne:s.heap.objs.size≠s.heap.objs.size+1:=Nat.ne_of_lt (Nat.lt_succ_self _)
 refine ⟨by rw [upd_ne ne,upd_same],Nat.zero_le _,ne,e2,fun _=>none,(Heap.Ns1.of_empty e3).at fun o q=>Heap.get?_push_of_some _ q,fun _=>True.intro,fun y hy=>absurd rfl hy⟩
theorem attr_of {prog:Program} {w:World} {env:Env} {e:Expr} {f:Str} {pos:Pos} {s:Shared} {Q:Value→Shared→Prop} (hb:attributeBase e f env (eval e env)=eval e env)
  (h:wpAny (model prog w) A (eval e env) (fun o s₁=>wpAny (model prog w) A (getAttr o f true) Q E s₁) E s):wpAny (model prog w) A (eval (.Attribute e f pos) env) Q E s:=
 Attribute_any_ h (by rw [arm_eval_Attribute,hb])
end
def tFld (K:W.Frag) (ta:TE) (f:Str):TE:=fun σ H Q=>ta σ H fun x H1=>∃ a C dx fs v,x = .ref a∧H1 a=some (.ins C dx fs)∧Cls K C∧NoAttr K C f∧fs.lookup f=some v∧Q v H1
def sFld (K:W.Frag) (ta tv:TE) (f:Str):TS:=fun D σ H=>tv σ H fun y H1=>ta σ H1 fun x H2=>∃ a C dx fs,x = .ref a∧H2 a=some (.ins C dx fs)∧Cls K C∧NoAttr K C f∧fs.length < 1000 ∧
 D.nx σ (upd H2 a (.ins C dx (putF f y fs)))
section
variable {X : Cx} {o e value : Expr} {f : Str} {pos pos' tpos : Pos} {ta tv : TE}
theorem pe_fld (he:PE X e ta) (hb:attributeBase e f X.env (eval e X.env)=eval e X.env):PE X (.Attribute e f pos) (tFld X.K ta f):=by
 intro pins s σ H Q I h
 refine attr_of hb (thn (he pins s σ H _ I h) fun u s1 ⟨x,H1,I1,rx,a,C,dx,fs,v,ex,ea,c,n,l,q⟩=>?_)
 subst ex
 obtain rfl:u=Value.ref a:=rx
 exact getattr_ok I1 ea c n l fun u' s2 I2 ru=>⟨v,H1,I2,ru,q⟩
theorem ps_fld (ha:PE X o ta) (hv:PE X value tv) (hs:swapsWith value (some (.Attribute o f pos')) pos.line X.env=pure false):PS X (.Assign [.Attribute o f pos'] value pos) (sFld X.K ta tv f):=by
 intro pins s σ H D I h
 refine plainObj_wpAny_Assign_Attribute (thn (hv pins s σ H _ I h) fun u s1 ⟨y,H1,I1,ry,q⟩=>thn (ha pins s1 σ H1 _ I1 q) fun ov s2 ⟨x,H2,I2,rx,a,C,dx,fs,ex,ea,c,n,l,q2⟩=>?_) hs
 subst ex
 obtain rfl:ov=Value.ref a:=rx
 exact setattr_ok I2 ea c n l ry fun s3 I3=>⟨σ,_,I3,q2⟩
theorem methcall_of {pl:Sem Bool} {m:Str} {apos:Pos} {args:List Expr} {pins:List (Addr × Obj)} {s:Shared} {σ:St} {H:Hp} {Q:Value→Shared→Prop} {te:TE} (he:PE X e te) (I:Inv X pins σ H s)
  (h:te σ H fun x H1=>∃ a C dx fs g,x = .ref a∧H1 a=some (.ins C dx fs)∧Cls X.K C∧Meth X.K C m g∧fs.lookup m=none ∧
   ∀ s1,Inv X pins σ H1 s1→wpAny (model X.prog X.w) X.A (callWith pos (.ref g) [.ref a] (backTo pos (starEach args X.env)) (backToKw pos (keywordEach [] X.env))) Q X.xe s1)
  (ht:eval (.Call (.Attribute e m apos) args [] pos) X.env=(do
   let ov ← eval e X.env
   standAt apos.atName
   let (f,first) ← holding [ov] (getMethod ov m pl)
   callWith pos f first (backTo pos (starEach args X.env)) (backToKw pos (keywordEach [] X.env)))) :
  wpAny (model X.prog X.w) X.A (eval (.Call (.Attribute e m apos) args [] pos) X.env) Q X.xe s:=by
 refine W.methodCall_KW (pl:=pl) (thn (he pins s σ H _ I h) fun u s1 ⟨x,H1,I1,rx,a,C,dx,fs,g,ex,ea,c,k,l,q⟩=>?_) ht
 subst ex
 obtain rfl:u=Value.ref a:=rx
 exact getmeth_ok I1 ea c k l (q s1 I1)
end
section
variable {X : Cx} {pins : List (Addr × Obj)} {σ : St} {H : Hp} {s : Shared} {A : Around} {E : Value → Shared → Prop} {Q : Value → Shared → Prop} {c : Value} {b : Bool}
inductive TyOf (K:W.Frag) (H:Hp):V→Value→Prop where
 | non:TyOf K H .non (.type "NoneType")
 | bl (x:Bool):TyOf K H (.bl x) (.type "bool")
 | int (i:Int):TyOf K H (.int i) (.type "int")
 | str (x:Str):TyOf K H (.str x) (.type "str")
 | flt (x:UInt64):TyOf K H (.flt x) (.type "float")
 | lst {a:Addr} {xs:List V} (e:H a=some (.lst xs)):TyOf K H (.ref a) (.type "list")
 | frz {a:Addr} {o:Obj} {xs:List V} (e:H a=some (.frz o (.lst xs))):TyOf K H (.ref a) (.type "list")
 | tup {a:Addr} {xs:List V} (e:H a=some (.tup xs)):TyOf K H (.ref a) (.type "tuple")
 | dK {a:Addr} {kvs:List (Key × V)} (e:H a=some (.dK kvs)):TyOf K H (.ref a) (.type "dict")
 | dT {a:Addr} {kvs:List (List Key × V)} (e:H a=some (.dT kvs)):TyOf K H (.ref a) (.type "dict")
 | ins {a C dx:Addr} {fs:List (Str × V)} (e:H a=some (.ins C dx fs)) (cl:Cls K C) (ha:W.findIn K (.ref C) "__class__" = some (some (.builtin "object.__class__")))
   (hn:W.specialIn K (.builtin "object.__class__") "__get__" = some (some (.builtin "getset_descriptor.__get__"))) (htk:W.takesIn K (.builtin "object.__class__")=some true)
   (hm:W.mroIn K C (.type "object")=some true):TyOf K H (.ref a) (.ref C)
theorem isinst_ok {x : V} {u t : Value} (I : Inv X pins σ H s) (rx : RelV x u) (ty : TyOf X.K H x t) (e : W.kitOne X.K t c = some b) (h : ∀ tk, Q (.bool b) { s with toks := tk }) :
    wpAny (model X.prog X.w) A (call (.builtin "isinstance") [u, c]) Q E s := by
  cases ty with
  | non => cases (show u = Value.none from rx); exact W.kia_one W.kitx_none I.kIn True.intro e (fun z => nomatch z) h
  | bl y => cases (show u = Value.bool y from rx); exact W.kia_one W.kitx_bool I.kIn True.intro e (fun z => nomatch z) h
  | int i => obtain ⟨t, q⟩ := (show ∃ t, u = Value.int i t from rx); cases q; exact W.kia_one W.kitx_int I.kIn True.intro e (fun z => nomatch z) h
  | str y => obtain ⟨t, q⟩ := (show ∃ t, u = Value.str y t from rx); cases q; exact W.kia_one W.kitx_str I.kIn True.intro e (fun z => nomatch z) h
  | flt y => obtain ⟨t, q⟩ := (show ∃ t, u = Value.float y t from rx); cases q; exact W.kia_one W.kitx_float I.kIn True.intro e (fun z => nomatch z) h
  | @lst a xs ea =>
    cases (show u = Value.ref a from rx)
    obtain ⟨_, _, n, _, h1⟩ := (show ObjOk X.prog X.w H s.heap a (.lst xs) from I.hok a _ ea)
    exact W.kia_one W.kitx_list I.kIn ⟨_, h1, rfl⟩ e (fun z => nomatch z) h
  | @frz a ob xs ea =>
    cases (show u = Value.ref a from rx)
    obtain ⟨_, _, _, n, _, h1⟩ := (show ObjOk X.prog X.w H s.heap a (.frz ob (.lst xs)) from I.hok a _ ea)
    exact W.kia_one W.kitx_list I.kIn ⟨_, h1, rfl⟩ e (fun z => nomatch z) h
  | @tup a xs ea =>
    cases (show u = Value.ref a from rx)
    obtain ⟨_, _, _, p⟩ := (show ObjOk X.prog X.w H s.heap a (.tup xs) from I.hok a _ ea)
    obtain ⟨o, h1, h2, _⟩ := p
    exact W.kia_one W.kitx_tuple I.kIn ⟨o, h1, h2⟩ e (fun z => nomatch z) h
  | @dK a kvs ea =>
    cases (show u = Value.ref a from rx)
    obtain ⟨_, _, vs, _, p⟩ := (show ObjOk X.prog X.w H s.heap a (.dK kvs) from I.hok a _ ea)
    obtain ⟨o, es, ep, h1, h2, _⟩ := p
    exact W.kia_one W.kitx_dict I.kIn ⟨o, h1, h2.1⟩ e (fun z => nomatch z) h
  | @dT a kvs ea =>
    cases (show u = Value.ref a from rx)
    obtain ⟨_, _, xs, _, o, es, ep, h1, h2, _⟩ := (show ObjOk X.prog X.w H s.heap a (.dT kvs) from I.hok a _ ea)
    exact W.kia_one W.kitx_dict I.kIn ⟨o, h1, h2.1⟩ e (fun z => nomatch z) h
  | @ins a C dx fs ea cl ha hn htk hm =>
    cases (show u = Value.ref a from rx)
    obtain ⟨mA, O, _⟩ := ins_get I.hok ea
    obtain ⟨od, J, _⟩ := O.look
    exact W.kia_one (W.kitx_own (cl.get _) cl.hd ha hn htk hm) I.kIn J e (fun z => nomatch z) h
end
structure Room (k:Nat) (A:Around):Prop where
 hd:A.handled=none
 dp:A.depth+3*k+5 < recursionLimit
 un:A.units+16*k+200 < cLine
theorem Room.mono {j k:Nat} {A:Around} (r:Room k A) (h:j≤k):Room j A:=⟨r.hd,by have:=r.dp;omega,by have:=r.un;omega⟩
theorem Room.deeper {k:Nat} {A:Around} (r:Room (k+1) A) (env:Env):Room k (A.deeper env):=
 ⟨r.hd,by have:=r.dp;show A.depth+1+3*k+5 < _;omega,by have:=r.un;show A.units+3+16*k+200 < _;omega⟩
theorem Room.in1 {k:Nat} {A:Around} (r:Room (k+1) A):Room k A.in1:=
 ⟨r.hd,by have:=r.dp;show A.depth+3*k+5 < _;omega,by have:=r.un;show A.units+1+16*k+200 < _;omega⟩
theorem make_depth {A:Around} {C:Addr} {us:List Value} {kw:List (Str × Value)}:(A.under (.builtin "type.__call__" ⟨.ref C::us,kw⟩)).depth=A.depth+1:=by
 first | rfl | simp [Around.under,Code.weight,Code.isCreation,Code.isGuard,Code.isCaller,Code.frames,Code.isFrame,guardIds]
theorem make_units {A:Around} {C:Addr} {us:List Value} {kw:List (Str × Value)}:(A.under (.builtin "type.__call__" ⟨.ref C::us,kw⟩)).units=A.units+1:=by
 first | rfl | simp [Around.under,Code.cUnits,Code.frames,Code.isFrame]
theorem Room.make {k:Nat} {A:Around} (r:Room (k+1) A) (C:Addr) (us:List Value) (kw:List (Str × Value)):Room k (A.under (.builtin "type.__call__" ⟨.ref C::us,kw⟩)):=
 ⟨r.hd,by have:=r.dp;rw [make_depth];omega,by have:=r.un;rw [make_units];omega⟩
theorem Room.depth {k:Nat} {A:Around} (r:Room k A):A.depth < recursionLimit:=by have:=r.dp;omega
theorem Room.units {k:Nat} {A:Around} (r:Room k A):A.units+64 < cLine:=by have:=r.un;omega
def tNil:TA:=fun _ H Q=>Q [] H
def tCons (ta:TE) (tr:TA):TA:=fun σ H Q=>ta σ H fun x H1=>tr σ H1 fun xs H2=>Q (x::xs) H2
section
variable {X : Cx} {e : Expr} {es : List Expr} {te : TE} {t : TA} {pos : Pos}
theorem pa_nil:PA X [] tNil:=fun _ _ _ _ H Q I h=>Calls.spliced_nil ⟨[],H,I,.nil,h⟩
theorem pa_cons (ha:PE X e te) (hr:PA X es t) (hs:starEach (e::es) X.env=(false,eval e X.env)::starEach es X.env:=by rfl):PA X (e::es) (tCons te t):=by
 intro pos pins s σ H Q I h
 rw [hs]
 show wpAny _ _ (spliced ((false,eval e X.env)::backTo pos (starEach es X.env))) _ _ s
 refine Calls.spliced_cons (thn (ha pins s σ H _ I h) fun u s1 ⟨x,H1,I1,r1,q1⟩=>?_)
 exact thn (hr pos pins s1 σ H1 _ I1 q1) fun us s2 ⟨xs,H2,I2,r2,q2⟩=>⟨x::xs,H2,I2,.cons r1 r2,q2⟩
def tTup (t:TA):TE:=fun σ H Q=>t σ H fun xs H1=>xs.length≤sizeLine ∧ ∀ p,H1 p=none→Q (.ref p) (upd H1 p (.tup xs))
def tLst (t:TA):TE:=fun σ H Q=>t σ H fun xs H1=>xs.length≤sizeLine ∧ ∀ p,H1 p=none→Q (.ref p) (upd H1 p (.lst xs))
theorem pe_tup {x1} (h:PA X es t):PE X (.Tuple es x1 pos) (tTup t):=by
 intro pins s σ H Q I hq
 refine wpAny_Tuple_spliced (thn (h pos pins s σ H _ I hq) fun us s1 ⟨xs,H1,I1,r,z,q⟩=>⟨by rw [← r.length];exact z,?_⟩)
 have hf:H1 s1.heap.objs.size=none:=I1.hok.fresh (Nat.le_refl _)
 refine ⟨.ref s1.heap.objs.size,upd H1 s1.heap.objs.size (.tup xs),I1.laid (t':=s1.toks) (fun b u e=>Heap.get?_push_of_some _ e) (Nat.le_refl _) ?_,rfl,q _ hf⟩
 exact ⟨z,us,r,⟨_,Heap.get?_push_size _ rfl,rfl,_,rfl⟩⟩
theorem pe_lst (h:PA X es t):PE X (.List es pos) (tLst t):=by
 intro pins s σ H Q I hq
 refine wpAny_List_spliced (thn (h pos pins s σ H _ I hq) fun us s1 ⟨xs,H1,I1,r,z,q⟩=>⟨by rw [← r.length];exact z,?_⟩)
 have hf:H1 s1.heap.objs.size=none:=I1.hok.fresh (Nat.le_refl _)
 refine ⟨.ref s1.heap.objs.size,upd H1 s1.heap.objs.size (.lst xs),I1.laid (t':=s1.toks) (fun b u e=>Heap.get?_push_of_some _ e) (Nat.le_refl _) ?_,rfl,q _ hf⟩
 exact ⟨z,us,0,r,Heap.get?_push_size _ rfl⟩
end
abbrev Sp:=List V→Hp→VK→XK→Prop
abbrev CXT:=List Env→Hp→Shared→XK→Value→Shared→Prop
structure Env0 (P:Program) (w:World) (K:W.Frag) (mg:Str→Option Value) (base:Heap) (A:Around) (outer:List Env) (s:Shared) (H:Hp):Prop where
 frames:A.frames=some outer
 mod:Mod K mg base
 bs : ∀ b o,base.get? b=some o→s.heap.get? b=some o∧H b=none
 bsz:base.objs.size≤s.heap.objs.size
 funs:s.heap.FunFrames base outer
 frf : ∀ b ∈ frs outer,H b=none
 hok:HOk P w H s.heap
 bare:AllBare s.gens
def CE (outer:List Env) (P:Program) (w:World) (H:Hp) (s:Shared) (Q:VK) (u:Value) (s':Shared):Prop:=
 ∃ v H',s'.os=s.os∧AllBare s'.gens∧Un (frs outer) [] H H' s.heap s'.heap∧HOk P w H' s'.heap∧RelV v u∧Q v H'
def CR (CX:CXT) (outer:List Env) (P:Program) (w:World) (H:Hp) (s:Shared) (Q:VK) (E:XK) (r:Result) (s':Shared):Prop:=
 match r with
 | .ok (.ret u)=>CE outer P w H s Q u s'
 | .ok _=>False
 | .error e=>CX outer H s E e s'
structure FnOk (P:Program) (w:World) (K:W.Frag) (mg:Str→Option Value) (base:Heap) (CX:CXT) (k:Nat) (f:Addr) (fd:FuncData) (ps:List Str) (sp:Sp):Prop where
 len : ∀ vs H Q E,sp vs H Q E→vs.length=ps.length
 run : ∀ (A:Around) (outer:List Env) (s:Shared) (H:Hp) (args:Args) (us:List Value) (vs:List V) (Q:VK) (E:XK),Room k A→Env0 P w K mg base A outer s H→BindsTo s fd args (ps.zip us)→Vals vs us→sp vs H Q E →
  codeAny (model P w) A (.call (.ref f) args) (CR CX outer P w H s Q E) s
theorem FnOk.mono {P:Program} {w:World} {K:W.Frag} {mg:Str→Option Value} {base:Heap} {CX:CXT} {j k:Nat} {f:Addr} {fd:FuncData} {ps:List Str} {sp:Sp} (F:FnOk P w K mg base CX j f fd ps sp) (h:j≤k) :
  FnOk P w K mg base CX k f fd ps sp:=⟨F.len,fun A outer s H args us vs Q E hr=>F.run A outer s H args us vs Q E (hr.mono h)⟩
theorem FnOk.imp {P:Program} {w:World} {K:W.Frag} {mg:Str→Option Value} {base:Heap} {CX:CXT} {k:Nat} {f:Addr} {fd:FuncData} {ps:List Str} {sp sp':Sp} (F:FnOk P w K mg base CX k f fd ps sp)
  (h : ∀ vs H Q E,sp' vs H Q E→sp vs H Q E):FnOk P w K mg base CX k f fd ps sp':=
 ⟨fun vs H Q E q=>F.len vs H Q E (h _ _ _ _ q),fun A outer s H args us vs Q E hr he hb hv hs=>F.run A outer s H args us vs Q E hr he hb hv (h _ _ _ _ hs)⟩
theorem Env0.make {P:Program} {w:World} {K:W.Frag} {mg:Str→Option Value} {base:Heap} {A:Around} {outer:List Env} {s:Shared} {H:Hp} (e:Env0 P w K mg base A outer s H) (C:Addr) (us:List Value) (kw:List (Str × Value)) :
  Env0 P w K mg base (A.under (.builtin "type.__call__" ⟨.ref C::us,kw⟩)) outer s H:=⟨by first | exact e.frames | (simpa [Around.under,Code.envs,Code.isFrame,pushEnvs] using e.frames),e.mod,e.bs,e.bsz,e.funs,e.frf,e.hok,e.bare⟩
theorem Env0.in1 {P:Program} {w:World} {K:W.Frag} {mg:Str→Option Value} {base:Heap} {A:Around} {outer:List Env} {s:Shared} {H:Hp} (e:Env0 P w K mg base A outer s H) :
  Env0 P w K mg base A.in1 outer s H:=⟨e.frames,e.mod,e.bs,e.bsz,e.funs,e.frf,e.hok,e.bare⟩
section
variable {X : Cx} {pins : List (Addr × Obj)} {σ : St} {H : Hp} {s s' : Shared}
theorem Inv.env0 (I:Inv X pins σ H s):Env0 X.prog X.w X.K X.mg X.base X.A X.stack s H:=
 ⟨I.ok.frames,I.ok.mod,I.bs,Nat.le_trans I.ok.bsz I.sz,I.stack,I.stkFree,I.hok,I.bare⟩
theorem Inv.after {Q:VK} {u:Value} (I:Inv X pins σ H s) (h:CE X.stack X.prog X.w H s Q u s'):EP X pins σ Q u s':=by
 obtain ⟨v,H',os,bare,un,hok,r,q⟩:=h
 obtain ⟨hh,g,d,t,os'⟩:=s'
 obtain rfl:os'=s.os:=os
 exact ⟨v,H',I.call (h':=hh) (g':=g) (d':=d) (t':=t) (ch:=[]) un hok bare (fun b z=>absurd z (by simp)),r,q⟩
end
def tCall (sp:Sp) (dvs:List V) (E:XK) (t:TA):TE:=fun σ H Q=>t σ H fun vs H1=>sp (vs++dvs) H1 Q E
def tMeth (C:Addr) (m:Str) (sp:Sp) (dvs:List V) (E:XK) (ta:TE) (t:TA):TE:=fun σ H Q=>ta σ H fun x H1=>∃ a dx fs,x = .ref a∧H1 a=some (.ins C dx fs)∧fs.lookup m=none ∧
 t σ H1 fun vs H2=>sp (x::(vs++dvs)) H2 Q E
def tMake (C:Addr) (sp:Sp) (dvs:List V) (E:XK) (t:TA):TE:=fun σ H Q=>t σ H fun vs H1=>∀ x dx,H1 x=none→H1 dx=none→dx≠x →
 sp (.ref x::(vs++dvs)) (upd (upd H1 dx (.own x)) x (.ins C dx [])) (fun v H2=>v = .non∧Q (.ref x) H2) E
def Binds (K:W.Frag) (fd:FuncData) (ps:List Str) (ds:List Value):Prop:=
 ∀ (s:Shared) (us:List Value),K.In s.heap→(us++ds).length=ps.length→BindsTo s fd ⟨us,[]⟩ (ps.zip (us++ds))
theorem Binds.all {K:W.Frag} {fd:FuncData} {ps:List Str} (h : ∀ us:List Value,us.length=ps.length→bindArgs fd ⟨us,[]⟩=pure (ps.zip us)):Binds K fd ps []:=fun s us _ hl=>by
 rw [List.append_nil] at hl ⊢
 exact .of_eq (h us hl)
def Passes (CX:CXT) (X:Cx) (E:XK):Prop:=∀ (pins:List (Addr × Obj)) (σ:St) (H:Hp) (s:Shared) (e:Value) (s':Shared),Inv X pins σ H s→CX X.stack H s E e s'→X.xe e s'
section
variable {X : Cx} {CX : CXT} {k : Nat} {f C : Addr} {fd : FuncData} {ps : List Str} {sp : Sp} {dvs : List V} {ds : List Value} {E : XK} {x m : Str} {p pos apos : Pos} {e o : Expr} {es : List Expr} {ta : TE} {t : TA}
theorem run_fn {pins : List (Addr × Obj)} {σ : St} {H : Hp} {s : Shared} {Q : VK} {us : List Value} {vs : List V} (F : FnOk X.prog X.w X.K X.mg X.base CX k f fd ps sp) (hr : Room k X.A) (hb : Binds X.K fd ps ds) (hd : Vals dvs ds) (hx : Passes CX X E)
    (I : Inv X pins σ H s) (r : Vals vs us) (h : sp (vs ++ dvs) H Q E) : wpAny (model X.prog X.w) X.A (call (.ref f) us) (EP X pins σ Q) X.xe s := by
  have r2 : Vals (vs ++ dvs) (us ++ ds) := r.append hd
  have hl : (us ++ ds).length = ps.length := by rw [← r2.length]; exact F.len _ _ _ _ h
  refine wpAny_call (codeAny_mono (F.run X.A X.stack s H ⟨us, []⟩ (us ++ ds) (vs ++ dvs) Q E hr I.env0 (hb s us I.kIn hl) r2 h) fun r s' hq => ?_)
  cases r with
  | error e => exact hx pins σ H s e s' I hq
  | ok fl =>
    cases fl with
    | ret u => exact I.after hq
    | next => exact False.elim hq
    | brk => exact False.elim hq
    | cont => exact False.elim hq
theorem pe_call (F:FnOk X.prog X.w X.K X.mg X.base CX k f fd ps sp) (hr:Room k X.A) (hg:Gl X x) (hm:X.mg x=some (.ref f)) (hk:W.keepIn X.K (.ref f)=true) (hb:Binds X.K fd ps ds) (hd:Vals dvs ds) (hx:Passes CX X E)
  (ha:PA X (e::es) t) (hdb:(x == ("__debug__" : Str))=false:=by decide) (he:starEach (e::es) X.env=(false,eval e X.env)::starEach es X.env:=by rfl) (hpl:(backTo pos (starEach es X.env)).any (·.1)=false:=by rfl) :
  PE X (.Call (.Name x p) (e::es) [] pos) (tCall sp dvs E t):=by
 intro pins s σ H Q I h
 refine wpAny_Call_Name_kw (ld_glob I hg hm ?_ hdb)
 refine W.callWith_K (h₀:=X.base) I.ok.mod.kin hk (thn (ha pos pins s σ H _ I h) fun us s1 ⟨vs,H1,I1,r,q⟩=>⟨I1.kIn,?_⟩) he hpl
 exact run_fn F hr hb hd hx I1 r q
theorem pe_call0 (F:FnOk X.prog X.w X.K X.mg X.base CX k f fd ps sp) (hr:Room k X.A) (hg:Gl X x) (hm:X.mg x=some (.ref f)) (hk:W.keepIn X.K (.ref f)=true) (hb:Binds X.K fd ps ds) (hd:Vals dvs ds) (hx:Passes CX X E)
  (hdb:(x == ("__debug__" : Str))=false:=by decide):PE X (.Call (.Name x p) [] [] pos) (tCall sp dvs E tNil):=by
 intro pins s σ H Q I h
 refine wpAny_Call_Name_kw (ld_glob I hg hm ?_ hdb)
 exact W.callWith_K0 I.kIn hk (run_fn (us:=[]) F hr hb hd hx I .nil h)
theorem pe_meth {pl:Sem Bool} (he:PE X o ta) (c:Cls X.K C) (hm:Meth X.K C m f) (F:FnOk X.prog X.w X.K X.mg X.base CX k f fd ps sp) (hr:Room k X.A) (hb:Binds X.K fd ps ds) (hd:Vals dvs ds) (hx:Passes CX X E) (ha:PA X (e::es) t)
  (hst:starEach (e::es) X.env=(false,eval e X.env)::starEach es X.env:=by rfl) (hpl:(backTo pos (starEach es X.env)).any (·.1)=false:=by rfl)
  (ht:eval (.Call (.Attribute o m apos) (e::es) [] pos) X.env=(do
   let ov ← eval o X.env
   standAt apos.atName
   let (f,first) ← holding [ov] (getMethod ov m pl)
   callWith pos f first (backTo pos (starEach (e::es) X.env)) (backToKw pos (keywordEach [] X.env))):=by rfl) :
  PE X (.Call (.Attribute o m apos) (e::es) [] pos) (tMeth C m sp dvs E ta t):=by
 intro pins s σ H Q I h
 refine W.methodCall_KW (pl:=pl) (thn (he pins s σ H _ I h) fun u s1 ⟨x,H1,I1,rx,a,dx,fs,ex,ea,l,q⟩=>?_) ht
 subst ex
 obtain rfl:u=Value.ref a:=rx
 refine getmeth_ok I1 ea c hm l ?_
 refine W.callWith_K (first:=[.ref a]) (h₀:=X.base) I.ok.mod.kin hm.kp (thn (ha pos pins s1 σ H1 _ I1 q) fun us s2 ⟨vs,H2,I2,r,q2⟩=>⟨I2.kIn,?_⟩) hst hpl
 exact run_fn (us:=.ref a::us) (vs:=.ref a::vs) F hr hb hd hx I2 (.cons rfl r) q2
structure Mk (K:W.Frag) (C f:Addr):Prop where
 makes:W.makesIn K C=true
 init:W.findIn K (.ref C) "__init__" = some (some (.ref f))
 fn:W.isFn K (.ref f)=true
 kp:W.keepIn K (.ref C)=true
theorem run_make {pins : List (Addr × Obj)} {σ : St} {H : Hp} {s : Shared} {Q : VK} {us : List Value} {vs : List V} (M : Mk X.K C f) (F : FnOk X.prog X.w X.K X.mg X.base CX k f fd ps sp) (hr : Room (k + 1) X.A) (hb : Binds X.K fd ps ds) (hd : Vals dvs ds)
    (hx : Passes CX X E) (I : Inv X pins σ H s) (r : Vals vs us)
    (h : ∀ x dx, H x = none → H dx = none → dx ≠ x → sp (.ref x :: (vs ++ dvs)) (upd (upd H dx (.own x)) x (.ins C dx [])) (fun v H2 => v = .non ∧ Q (.ref x) H2) E) :
    wpAny (model X.prog X.w) X.A (call (.ref C) us) (EP X pins σ Q) X.xe s := by
  have hq := h (s.heap.objs.size + 1) s.heap.objs.size (I.hok.fresh (Nat.le_succ _)) (I.hok.fresh (Nat.le_refl _)) (Nat.ne_of_lt (Nat.lt_succ_self _))
  have I2 := Inv.made (C := C) I
  have r2 : Vals (V.ref (s.heap.objs.size + 1) :: (vs ++ dvs)) (Value.ref (s.heap.objs.size + 1) :: (us ++ ds)) := .cons rfl (r.append hd)
  have hl : (Value.ref (s.heap.objs.size + 1) :: us ++ ds).length = ps.length := by
    have e := r2.length
    rw [F.len _ _ _ _ hq] at e
    exact e.symm
  refine wpAny_call (make_map (f := f) I.kIn M.makes M.init (beq_iff_eq.mp M.fn) (codeAny_mono (F.run _ X.stack _ _ ⟨Value.ref (s.heap.objs.size + 1) :: us, []⟩ (Value.ref (s.heap.objs.size + 1) :: (us ++ ds)) _ _ E (hr.make C us [])
    (I2.env0.make C us []) (hb _ (Value.ref (s.heap.objs.size + 1) :: us) I2.kIn hl) r2 hq) fun r s' hq' => ?_))
  cases r with
  | error e => exact hx pins σ _ _ e s' I2 hq'
  | ok fl =>
    cases fl with
    | ret u =>
      obtain ⟨v, H', I3, rv, ev, q3⟩ := I2.after hq'
      subst ev
      exact ⟨rv, ⟨V.ref (s.heap.objs.size + 1), H', I3, rfl, q3⟩⟩
    | next => exact False.elim hq'
    | brk => exact False.elim hq'
    | cont => exact False.elim hq'
theorem pe_make (M:Mk X.K C f) (F:FnOk X.prog X.w X.K X.mg X.base CX k f fd ps sp) (hr:Room (k+1) X.A) (hg:Gl X x) (hm:X.mg x=some (.ref C)) (hb:Binds X.K fd ps ds) (hd:Vals dvs ds) (hx:Passes CX X E)
  (ha:PA X (e::es) t) (hdb:(x == ("__debug__" : Str))=false:=by decide) (he:starEach (e::es) X.env=(false,eval e X.env)::starEach es X.env:=by rfl) (hpl:(backTo pos (starEach es X.env)).any (·.1)=false:=by rfl) :
  PE X (.Call (.Name x p) (e::es) [] pos) (tMake C sp dvs E t):=by
 intro pins s σ H Q I h
 refine wpAny_Call_Name_kw (ld_glob I hg hm ?_ hdb)
 refine W.callWith_K (h₀:=X.base) I.ok.mod.kin M.kp (thn (ha pos pins s σ H _ I h) fun us s1 ⟨vs,H1,I1,r,q⟩=>⟨I1.kIn,?_⟩) he hpl
 exact run_make M F hr hb hd hx I1 r q
end
section
variable {X : Cx} {CX : CXT} {k : Nat} {f C : Addr} {fd : FuncData} {ps ks : List Str} {sp : Sp} {E : XK} {x m : Str} {p pos apos kpos : Pos} {e o : Expr} {es : List Expr} {kws : List Keyword} {te ta : TE} {t tk : TA} {nm : Option Str}
structure KBinds (K:W.Frag) (fd:FuncData) (ps ks:List Str) (g:List Value→List Value→List Value) (gV:List V→List V→List V):Prop where
 to : ∀ (s:Shared) (us ws:List Value),K.In s.heap→(g us ws).length=ps.length→BindsTo s fd ⟨us,ks.zip ws⟩ (ps.zip (g us ws))
 rel : ∀ {vs:List V} {us:List Value} {zs:List V} {ws:List Value},Vals vs us→Vals zs ws→Vals (gV vs zs) (g us ws)
variable {g : List Value → List Value → List Value} {gV : List V → List V → List V}
end
structure FnScope (N P:List Str) (sc:Scope):Prop where
 kind:sc.kind = .function
 co:sc.isCoroutine=false
 gen:sc.isGenerator=false
 nd:N.Nodup
 pre:N.take P.length=P
 par : ∀ x ∈ P,sc.names.lookup x=some .local∨sc.names.lookup x=some .cell
 nofree : ∀ y ∈ sc.names,y.2 ≠ .free
theorem bindL_out {kindOf : Str → Option NameKind} {x : Str} : ∀ {binds : List (Str × Value)} {m : Str → Option Value}, (∀ v, (x, v) ∉ binds) → bindL kindOf binds m x = m x
  | [], _, _ => rfl
  | (n, v) :: r, m, h => by
    unfold bindL
    rw [bindL_out fun w hw => h w (List.mem_cons_of_mem _ hw)]
    split
    · have : x ≠ n := by rintro rfl; exact h v List.mem_cons_self
      simp [this]
    · rfl
theorem bindC_out {kindOf : Str → Option NameKind} {x : Str} : ∀ {binds : List (Str × Value)} {m : Str → Option Value}, (∀ v, (x, v) ∉ binds) → bindC kindOf binds m x = m x
  | [], _, _ => rfl
  | (n, v) :: r, m, h => by
    unfold bindC
    rw [bindC_out fun w hw => h w (List.mem_cons_of_mem _ hw)]
    split
    · rfl
    · have : x ≠ n := by rintro rfl; exact h v List.mem_cons_self
      simp [this]
theorem bindL_get {kindOf : Str → Option NameKind} {x : Str} {v : Value} : ∀ {P : List Str} {vs : List Value} {i : Nat} {m : Str → Option Value}, P.Nodup → P[i]? = some x → vs[i]? = some v → kindOf x = some .local →
    bindL kindOf (P.zip vs) m x = some v
  | [], _, _, _, _, h, _, _ => by simp at h
  | _ :: _, [], _, _, _, _, h, _ => by simp at h
  | p :: P, w :: vs, 0, m, nd, h1, h2, hk => by
    simp at h1 h2; subst h1; subst h2
    show bindL kindOf ((p, w) :: P.zip vs) m p = _
    unfold bindL
    rw [bindL_out fun v hv => (List.nodup_cons.mp nd).1 (List.of_mem_zip hv).1, if_pos hk]
    simp
  | p :: P, w :: vs, i + 1, m, nd, h1, h2, hk => by
    show bindL kindOf ((p, w) :: P.zip vs) m x = _
    unfold bindL
    exact bindL_get (i := i) (List.nodup_cons.mp nd).2 (by simpa using h1) (by simpa using h2) hk
theorem bindC_get {kindOf : Str → Option NameKind} {x : Str} {v : Value} : ∀ {P : List Str} {vs : List Value} {i : Nat} {m : Str → Option Value}, P.Nodup → P[i]? = some x → vs[i]? = some v → kindOf x ≠ some .local →
    bindC kindOf (P.zip vs) m x = some v
  | [], _, _, _, _, h, _, _ => by simp at h
  | _ :: _, [], _, _, _, _, h, _ => by simp at h
  | p :: P, w :: vs, 0, m, nd, h1, h2, hk => by
    simp at h1 h2; subst h1; subst h2
    show bindC kindOf ((p, w) :: P.zip vs) m p = _
    unfold bindC
    rw [bindC_out fun v hv => (List.nodup_cons.mp nd).1 (List.of_mem_zip hv).1, if_neg hk]
    simp
  | p :: P, w :: vs, i + 1, m, nd, h1, h2, hk => by
    show bindC kindOf ((p, w) :: P.zip vs) m x = _
    unfold bindC
    exact bindC_get (i := i) (List.nodup_cons.mp nd).2 (by simpa using h1) (by simpa using h2) hk
def start (N:List Str) (vs:List V):St:=vs.map some++List.replicate (N.length - vs.length) none
def cxOf (CX:CXT) (P:Program) (w:World) (K:W.Frag) (mg:Str→Option Value) (base:Heap) (N:List Str) (qual:Str) (scope:Scope) (f:Addr) (cd:Value) (A:Around) (outer:List Env) (s:Shared) (H:Hp) (E:XK):Cx where
 prog:=P
 w:=w
 K:=K
 mg:=mg
 base:=base
 A:=A.deeper (envOfC qual scope s.heap.objs.size f cd)
 N:=N
 s₀:=s
 H₀:=H
 env:=envOfC qual scope s.heap.objs.size f cd
 outer:=outer
 stack:=envOfC qual scope s.heap.objs.size f cd::outer
 ex:=[]
 calm:=true
 fn:=fun _=>true
 pn:=[]
 xe:=fun e s'=>wpAny (model P w) (A.deeper (envOfC qual scope s.heap.objs.size f cd)) (leaving (envOfC qual scope s.heap.objs.size f cd) e) (fun _ s''=>CX outer H s E e s'') (fun e' s''=>CX outer H s E e' s'') s'
theorem cell_has {sc:Scope} {n:Nat} {x:Str} (h:sc.names.lookup x=some .cell) : ∃ c,(cellsFrom n sc.names []).lookup x=some c:=by
 have q:=W.cellsFrom_some sc.names n [] (.inl h)
 exact Option.isSome_iff_exists.mp q
theorem inv_start {CX:CXT} {P:Program} {w:World} {K:W.Frag} {mg:Str→Option Value} {base:Heap} {N ps:List Str} {qual:Str} {scope:Scope} {f:Addr} {cd:Value} {A:Around} {outer:List Env} {s s1:Shared} {H:Hp} {E:XK} {us:List Value} {vs:List V}
  (S:FnScope N ps scope) (hd:A.handled=none) (e0:Env0 P w K mg base A outer s H) (hl:vs.length=ps.length) (r:Vals vs us)
  (x:InCallC s s.heap.objs.size (bindL (envOfC qual scope s.heap.objs.size f cd).kindOf (ps.zip us) fun _=>none) (cellsFrom (s.heap.objs.size+1) scope.names []) (bindC (envOfC qual scope s.heap.objs.size f cd).kindOf (ps.zip us) fun _=>none) s1) :
  Inv (cxOf CX P w K mg base N qual scope f cd A outer s H E) [] (start N vs) H s1:=by
 have hpl:ps.length≤N.length:=by have:=congrArg List.length S.pre;rw [List.length_take] at this;omega
 obtain ⟨h1,tk,rfl,hk⟩:=x.done
 have noA : ∀ b:Addr,b ∉ (cxOf CX P w K mg base N qual scope f cd A outer s H E).ex:=fun b z=>absurd (show b ∈ ([]:List Addr) from z) (by simp)
 refine ⟨⟨e0.mod,S.kind,rfl,rfl,Nat.le_refl _,fun y z c h1 h2=>?_,fun y hy=>?_,fun y c _ h=>?_,fun _=>hd,Around.frames_deeper e0.frames,.inr ⟨rfl,rfl⟩,fun b z=>absurd z (noA b),e0.bs,e0.bsz,fun b _ _=>noA b,fun b z=>absurd z (noA b),e0.funs,e0.frf⟩,
  rfl,e0.bare,Un.kept hk,⟨_,x.toInCall.ns,fun i y v h1 h2 h3=>?_⟩,fun y c h=>⟨_,x.cell y c h⟩,e0.hok.fresh (Nat.le_refl _),fun y c h=>?_,fun p hp=>absurd (show p ∈ ([]:List (Addr × Obj)) from hp) (by simp),e0.hok.kept hk,?_⟩
 ·exact name_of_addr x.apart (PySem.mem_of_lookup h1) (PySem.mem_of_lookup h2)
 ·have hy:scope.names.lookup y=some .cell∨scope.names.lookup y=some .free:=hy
  rcases hy with hy | hy
  ·exact cell_has hy
  ·exact absurd rfl (S.nofree _ (PySem.mem_of_lookup hy))
 ·exact Nat.le_of_lt (x.above y c (PySem.mem_of_lookup h))
 ·have hi:i < vs.length:=by
   unfold start at h2
   by_cases hi:i < vs.length
   ·exact hi
   ·rw [List.getElem?_append_right (by simpa using hi)] at h2
    rw [List.getElem?_replicate] at h2
    split at h2 <;> cases h2
  have ha:vs[i]? = some v:=by
   unfold start at h2
   rw [List.getElem?_append_left (by simpa using hi),List.getElem?_map] at h2
   cases e:vs[i]? with
   | none=>rw [e] at h2;cases h2
   | some a=>rw [e] at h2;cases h2;rfl
  obtain ⟨u,hu,rv⟩:=r.get ha
  have hp:ps[i]? = some y:=by
   rw [← S.pre,List.getElem?_take_of_lt (by omega)];exact h1
  have ndP:ps.Nodup:=by rw [← S.pre];exact S.nd.sublist (List.take_sublist _ _)
  refine ⟨u,rv,?_⟩
  rcases S.par y (List.mem_of_getElem? hp) with k | k
  ·exact .inl ⟨k,bindL_get ndP hp hu k⟩
  ·obtain ⟨c,e⟩:=cell_has (n:=s.heap.objs.size+1) k
   refine .inr ⟨.inl k,c,e,?_⟩
   have q:=x.cell y c e
   rw [bindC_get ndP hp hu (by show scope.names.lookup y≠_;rw [k];decide)] at q
   exact q
 ·exact e0.hok.fresh (Nat.le_of_lt (x.above y c (PySem.mem_of_lookup h)))
 ·unfold start
  show _=N.length
  rw [List.length_append,List.length_map,List.length_replicate]
  omega
theorem fn_of {CX : CXT} {P : Program} {w : World} {K : W.Frag} {mg : Str → Option Value} {base : Heap} {k : Nat} {f : Addr} {name qual : Str} {params : Arguments} {body : List Stmt} {scope : Scope} {dV kV doc pm cdv ct oc : Value} {an od : Option Addr}
    {osl : Array (Option Value)} {N ps : List Str} {sp : Sp} (lk : K.lookup f = some ⟨oc, od, .func (W.fnOf name qual params body scope dV kV doc pm an cdv ct), osl⟩) (hcd : W.codeIn K cdv qual = true) (S : FnScope N ps scope)
    (len : ∀ vs H Q E, sp vs H Q E → vs.length = ps.length)
    (hbody : ∀ (A : Around) (outer : List Env) (s : Shared) (H : Hp) (vs : List V) (Q : VK) (E : XK), Room k (A.deeper (envOfC qual scope s.heap.objs.size f cdv)) → sp vs H Q E →
      ∃ t, PSs (cxOf CX P w K mg base N qual scope f cdv A outer s H E) body t ∧ t { nx := fun _ H' => Q .non H', rt := Q } (start N vs) H) :
    FnOk P w K mg base CX (k + 1) f (W.fnOf name qual params body scope dV kV doc pm an cdv ct) ps sp := by
  refine ⟨len, fun A outer s H args us vs Q E hr e0 hb r hsp => ?_⟩
  have hl := len _ _ _ _ hsp
  have KX : K.In s.heap := e0.mod.kin.keeps fun b o e => (e0.bs b o e).1
  have lim : s.heap.NoLimit := e0.mod.nolimit.keeps fun b o e => (e0.bs b o e).1
  have hkind : ∀ y ∈ ps.zip us, scope.names.lookup y.1 = some .local ∨ (scope.names.lookup y.1 = some .cell ∧ ((cellsFrom (s.heap.objs.size + 1) scope.names []).lookup y.1).isSome = true) := fun ⟨n, v⟩ hy => by
    rcases S.par n (List.of_mem_zip hy).1 with q | q
    · exact .inl q
    · exact .inr ⟨q, W.cellsFrom_some _ _ _ (.inl q)⟩
  refine codeAny_call_function hr.depth (KX _ _ lk) rfl S.co S.gen rfl (W.codeRec_of KX hcd) (hb _ _ _ _ ?_)
  refine wpAny_newFunctionEnv_cells S.kind hkind fun env he s1 x => ?_
  subst he
  refine ⟨lim.keeps x.toInCall.keep, codeAny_func ?_⟩
  obtain ⟨t, ht, hq⟩ := hbody A outer s H vs Q E (hr.deeper _) hsp
  have I : Inv (cxOf CX P w K mg base N qual scope f cdv A outer s H E) [] (start N vs) H s1 := inv_start S hr.hd e0 hl r x
  refine wpAny_mono (ht [] s1 (start N vs) H _ I hq) (fun fl s' hs => ?_) fun e s' hs => hs
  have fin : ∀ {σ' : St} {H' : Hp} {v : V} {u : Value}, Inv (cxOf CX P w K mg base N qual scope f cdv A outer s H E) [] σ' H' s' → RelV v u → Q v H' → CE outer P w H s Q u s' :=
    fun {σ' H' v u} J rv q => ⟨v, H', J.os, J.bare, J.base, J.hok, rv, q⟩
  cases fl with
  | ret u =>
    obtain ⟨v, σ', H', J, rv, q⟩ := hs
    exact fin J rv q
  | next =>
    obtain ⟨σ', H', J, q⟩ := hs
    exact fin (v := V.non) (u := Value.none) J rfl q
  | brk =>
    obtain ⟨_, _, _, q⟩ := hs
    exact False.elim q
  | cont =>
    obtain ⟨_, _, _, q⟩ := hs
    exact False.elim q
section
variable {X : Cx} {x : Str} {p pos : Pos} {e : Expr} {es : List Expr} {t : TA} {id T : String} {r : List V → Hp → VK → Prop}
def tCB (r:List V→Hp→VK→Prop) (t:TA):TE:=fun σ H Q=>t σ H fun vs H1=>r vs H1 Q
theorem pe_callB (hc:CallR X (.builtin id) r) (hg:Gl X x) (hm:X.mg x=none) (hv:bootBuiltins x=some (.builtin id)) (ha:PA X (e::es) t) (hn:x ≠ "__name__" := by decide) (hdb:(x == ("__debug__" : Str))=false:=by decide)
  (he:starEach (e::es) X.env=(false,eval e X.env)::starEach es X.env:=by rfl) (hpl:(backTo pos (starEach es X.env)).any (·.1)=false:=by rfl):PE X (.Call (.Name x p) (e::es) [] pos) (tCB r t):=by
 intro pins s σ H Q I h
 refine wpAny_Call_Name_kw (ld_blt I hg hm hv ?_ hn hdb)
 exact PyProof.Rows.callWith_builtin1 (thn (ha pos pins s σ H _ I h) fun us s1 ⟨vs,H1,I1,r1,q1⟩=>hc pins s1 σ H1 vs us Q I1 r1 q1) he hpl
theorem pe_callTy (hc:CallR X (.type T) r) (hg:Gl X x) (hm:X.mg x=none) (hv:bootBuiltins x=some (.type T)) (ha:PA X (e::es) t) (hn:x ≠ "__name__" := by decide) (hdb:(x == ("__debug__" : Str))=false:=by decide)
  (he:starEach (e::es) X.env=(false,eval e X.env)::starEach es X.env:=by rfl) (hpl:(backTo pos (starEach es X.env)).any (·.1)=false:=by rfl):PE X (.Call (.Name x p) (e::es) [] pos) (tCB r t):=by
 intro pins s σ H Q I h
 refine wpAny_Call_Name_kw (ld_blt I hg hm hv ?_ hn hdb)
 exact PyProof.Rows.callWith_type1 (thn (ha pos pins s σ H _ I h) fun us s1 ⟨vs,H1,I1,r1,q1⟩=>hc pins s1 σ H1 vs us Q I1 r1 q1) he hpl
end
end L2
namespace HT
open PySem PyProof.Rows
section
open PySem.SeqAt
open PySem.AutoSeq1 (wpAny_loadPart')
open PySem.MeetsSeq PySem.MeetsSeq2 PySem.MeetsSeq3
end
section
variable {prog : Program} {w : World} {A : Around} {E : Value → Shared → Prop} {s : Shared}
def sIx (n d:Nat):Option Int→Nat
 | none=>d
 | some v=>if v < 0 then (v+(n:Int)).toNat else min v.toNat n
theorem sIx_le (n d : Nat) (hd : d ≤ n) (o : Option Int) : sIx n d o ≤ n := by
  cases o with
  | none => exact hd
  | some v =>
    show (if v < 0 then (v + (n : Int)).toNat else min v.toNat n) ≤ n
    by_cases hv : v < 0
    · rw [if_pos hv]; omega
    · rw [if_neg hv]; exact Nat.min_le_right _ _
theorem clip_eq (v:Int) (n d:Nat):(if v < 0 then max (v+(n:Int)) 0 else min v (n:Int))=((sIx n d (some v):Nat):Int):=by
 show (if v < 0 then max (v+(n:Int)) 0 else min v (n:Int))=(((if v < 0 then (v+(n:Int)).toNat else min v.toNat n):Nat):Int)
 by_cases hv:v < 0
 ·simp only [if_pos hv];omega
 ·simp only [if_neg hv];omega
theorem adjust_gen (lo hi:Option Int) (n:Nat):Builtin.Slice.sliceAdjust lo hi 1 (n:Int)=(((sIx n 0 lo:Nat):Int),((sIx n n hi:Nat):Int)):=by
 have h1 : ¬ ((1:Int) < 0):=by omega
 unfold Builtin.Slice.sliceAdjust
 simp only [h1,if_false]
 refine Prod.ext ?_ ?_
 ·cases lo with
  | none=>rfl
  | some v=>exact clip_eq v n 0
 ·cases hi with
  | none=>rfl
  | some v=>exact clip_eq v n n
theorem places_gen (i j:Nat):Builtin.Slice.slicePlaces (i:Int) (j:Int) 1=j - i:=by
 unfold Builtin.Slice.slicePlaces
 have h1:(1:Int) > 0:=by omega
 simp only [h1,if_true,Int.ediv_one]
 split <;> omega
theorem slicePart_ {v:Value} {o:Option Int} {Q:Option Int→Shared→Prop} (p:IsPart v o) (h:Q o s):wpAny (model prog w) A (Builtin.Slice.slicePartIndex v) Q E s:=by
 cases p with
 | none=>exact slicePart_none h
 | int i t=>exact slicePart_int h
theorem sliceApplied_gen {sl:Addr} {vl vu:Value} {lo hi:Option Int} {n:Nat} {Q:Int × Int × Nat→Shared→Prop} (hs:s.heap.IsSliceOf sl vl vu .none) (pl:IsPart vl lo) (pu:IsPart vu hi)
  (h:Q (((sIx n 0 lo:Nat):Int),1,sIx n n hi - sIx n 0 lo) s):wpAny (model prog w) A (Builtin.Slice.sliceApplied (.ref sl) (pure (n:Int))) Q E s:=by
 obtain ⟨os,hos,hcs,hds⟩:=id hs
 unfold Builtin.Slice.sliceApplied Builtin.Slice.sliceFields
 refine wpAny_bind (wpAny_bind (wpAny_field hos hds (x:=vl) rfl (wpAny_bind (wpAny_field hos hds (x:=vu) rfl (wpAny_bind (wpAny_field hos hds (x:=.none) rfl (wpAny_pure ?_)))))))
 refine wpAny_bind (slicePart_none ?_)
 show wpAny _ _ (if ((1:Int) == 0)=true then _ else _) _ _ s
 rw [if_neg (by decide)]
 refine wpAny_bind (slicePart_ pl (wpAny_bind (slicePart_ pu (wpAny_bind (wpAny_pure ?_)))))
 show wpAny _ _ (match Builtin.Slice.sliceAdjust lo hi 1 (n:Int) with | (lo,hi)=>pure (lo,(1:Int),Builtin.Slice.slicePlaces lo hi 1)) _ _ s
 rw [adjust_gen lo hi n]
 show wpAny _ _ (pure (((sIx n 0 lo:Nat):Int),(1:Int),Builtin.Slice.slicePlaces ((sIx n 0 lo:Nat):Int) ((sIx n n hi:Nat):Int) 1)) _ _ s
 rw [places_gen]
 exact wpAny_pure h
theorem pick_gen (xs:Array Value) (i k:Nat):((List.range k).filterMap fun (m:Nat)=>xs[((i:Int)+(m:Int)*1).toNat]?).toArray=((xs.toList.drop i).take k).toArray:=by
 have e:(fun (m:Nat)=>xs[((i:Int)+(m:Int)*1).toNat]?)=fun m=>xs[i+m]?:=by
  funext m
  have:((i:Int)+(m:Int)*1).toNat=i+m:=by omega
  rw [this]
 rw [e]
 have:=pick_run xs i k
 rw [List.filterMap_map] at this
 have e2:((fun x=>xs[x]?) ∘ fun x=>i+x)=fun m=>xs[i+m]?:=rfl
 rw [e2] at this
 rw [this]
theorem getItem_tuple_cut {t sl:Addr} {items:Array Value} {vl vu:Value} {lo hi:Option Int} {Q:Value→Shared→Prop} (ht:IsTup s.heap t items) (hs:s.heap.IsSliceOf sl vl vu .none) (pl:IsPart vl lo) (pu:IsPart vu hi)
  (hw : ¬ (sIx items.size 0 lo=0∧sIx items.size items.size hi=items.size))
  (h:Q (.ref s.heap.objs.size) { s with heap:=s.heap.push { cls:=.type "tuple", data:=.seq ((items.toList.drop (sIx items.size 0 lo)).take (sIx items.size items.size hi - sIx items.size 0 lo)).toArray } })
  (hsz:items.size≤sizeLine):wpAny (model prog w) A (getItem (.ref t) (.ref sl)) Q E s:=by
 have htake:sizeOk (.seq ((items.toList.drop (sIx items.size 0 lo)).take (sIx items.size items.size hi - sIx items.size 0 lo)).toArray):=by
  show ((items.toList.drop (sIx items.size 0 lo)).take (sIx items.size items.size hi - sIx items.size 0 lo)).toArray.size≤sizeLine
  rw [List.size_toArray,List.length_take,List.length_drop,Array.length_toList]
  omega
 have hj:sIx items.size items.size hi≤items.size:=sIx_le _ _ (Nat.le_refl _) hi
 obtain ⟨os,hos,hcs,hds⟩:=id hs
 have hTs:s.TypeIs (.ref sl) "slice" := ⟨os,hos,hcs⟩
 unfold getItem
 try with_reducible refine wpAny_holding ?_
 first | refine wpAny_bind (wpAny_pure ?_) | skip
 refine wpAny_bind (wpAny_sequenceKey ht.typeIs (by decide) ?_)
 refine wpAny_bind (wpAny_callSpecial?_slot (name:=Str.ofString "__getitem__") ht.typeIs PyProof.Rows.slot_tuple_getitem
  (wpAny_call_entry PyProof.Rows.slot_tuple_getitem ht.typeIs entry_tuple_getitem ?_ (args_tuple_getitem _ _)))
 show wpAny _ _ (Builtin.Tuple.tupleItemsOf (.ref t) >>= _) _ _ s
 refine wpAny_bind (tupleItemsOf_ ht ?_)
 refine wpAny_bind (wpAny_typeOf hTs ?_)
 rw [if_pos (by decide)]
 refine wpAny_bind (sliceApplied_gen hs pl pu ?_)
 have hno : ¬ ((((sIx items.size 0 lo:Nat):Int) == 0 && (1:Int) == 1 && (sIx items.size items.size hi - sIx items.size 0 lo) == items.size)=true):=by
  intro q
  rw [Bool.and_eq_true,Bool.and_eq_true] at q
  have q1:((sIx items.size 0 lo:Nat):Int)=0:=eq_of_beq q.1.1
  have q2:sIx items.size items.size hi - sIx items.size 0 lo=items.size:=eq_of_beq q.2
  exact hw ⟨by omega,by omega⟩
 show wpAny _ _ (if (((sIx items.size 0 lo:Nat):Int) == 0 && (1:Int) == 1 && (sIx items.size items.size hi - sIx items.size 0 lo) == items.size)=true then _ else _) _ _ s
 rw [if_neg hno,pick_gen]
 first
  | exact wpAny_bind (m:=Builtin.Tuple.tupleExact _) (wpAny_newObj_type (wpAny_pure ⟨_,rfl,wpAny_pure h⟩) htake)
  | exact wpAny_bind (m:=Builtin.Tuple.tupleExact _) (wpAny_newObj_type (wpAny_bind (wpAny_pure (wpAny_pure ⟨_,rfl,wpAny_pure h⟩))) htake)
  | exact wpAny_bind (wpAny_bind (m:=Builtin.Tuple.tupleExact _) (wpAny_newObj_type (wpAny_pure (wpAny_pure ⟨_,rfl,wpAny_pure h⟩)) htake))
  | exact wpAny_bind (wpAny_bind (m:=Builtin.Tuple.tupleExact _) (wpAny_newObj_type (wpAny_pure ⟨_,rfl,wpAny_pure h⟩) htake))
end
end HT
namespace L2
open PySem PySem.Spec PyProof.Rows
abbrev TO:=St→Hp→(Option Int→Hp→Prop)→Prop
def PO (X:Cx) (e:Option Expr) (t:TO):Prop:=
 ∀ (pins:List (Addr × Obj)) (s:Shared) (σ:St) (H:Hp) (Q:Option Int→Hp→Prop),Inv X pins σ H s→t σ H Q →
  wpAny (model X.prog X.w) X.A (evalPart e X.env) (fun u s'=>∃ o H',Inv X pins σ H' s'∧IsPart u o∧Q o H') X.xe s
def tNoPart:TO:=fun _ H Q=>Q none H
def tPart (t:TE):TO:=fun σ H Q=>t σ H fun x H1=>∃ i,x = .int i∧Q (some i) H1
theorem intsAre_of {ns : List Int} : ∀ {us : List Value}, Vals (ns.map V.int) us → IntsAre us ns := by
  induction ns with
  | nil => intro us r; rw [List.map_nil] at r; cases r; exact .nil
  | cons n ns ih =>
    intro us r
    rw [List.map_cons] at r
    cases r with
    | cons r1 r2 =>
      obtain ⟨t, e⟩ := r1
      subst e
      exact .cons n t (ih r2)
section
variable {X : Cx} {e : Expr} {te : TE} {lo hi : Option Expr} {tl th : TO} {pos p2 : Pos}
theorem po_none:PO X none tNoPart:=by
 intro pins s σ H Q I h
 rw [evalPart_none]
 exact wpAny_pure ⟨none,H,I,.none,h⟩
theorem po_some (h:PE X e te):PO X (some e) (tPart te):=by
 intro pins s σ H Q I hw
 rw [evalPart_some]
 refine thn (h pins s σ H _ I hw) fun u s1 ⟨x,H1,I1,r1,q1⟩=>?_
 obtain ⟨i,rfl,q⟩:=q1
 obtain ⟨t,rfl⟩:=r1
 exact ⟨some i,H1,I1,.int i t,q⟩
def SlR (X:Cx) (r:V→Option Int→Option Int→Hp→VK→Prop):Prop:=
 ∀ (pins:List (Addr × Obj)) (s:Shared) (σ:St) (H:Hp) (x:V) (v vl vu:Value) (lo hi:Option Int) (sl:Addr) (Q:VK),Inv X pins σ H s→RelV x v→s.heap.IsSliceOf sl vl vu .none→IsPart vl lo→IsPart vu hi→r x lo hi H Q →
  ∃ T id,typeLookup (.type T) "__getitem__" = pure (some (.builtin id))∧s.TypeIs v T∧wpAny (model X.prog X.w) X.A (getItem v (.ref sl)) (EP X pins σ Q) X.xe s
def tSl (r:V→Option Int→Option Int→Hp→VK→Prop) (te:TE) (tl th:TO):TE:=fun σ H Q=>te σ H fun x H1=>tl σ H1 fun l H2=>th σ H2 fun u H3=>r x l u H3 Q
theorem pe_slice {r:V→Option Int→Option Int→Hp→VK→Prop} (hr:SlR X r) (he:PE X e te) (hl:PO X lo tl) (hu:PO X hi th):PE X (.Subscript e (.Slice lo hi none p2) pos) (tSl r te tl th):=by
 intro pins s σ H Q I h
 refine Subscript_ (thn (he pins s σ H _ I h) fun v s1 ⟨x,H1,I1,r1,q1⟩=>?_)
 refine wpAny_Slice (thn (hl pins s1 σ H1 _ I1 q1) fun vl s2 ⟨l,H2,I2,pl,q2⟩=>thn (hu pins s2 σ H2 _ I2 q2) fun vu s3 ⟨u,H3,I3,pu,q3⟩=>?_)
 rw [evalPart_none]
 refine wpAny_pure ?_
 have I4:Inv X pins σ H3 { s3 with heap:=s3.heap.push { cls:=.type "slice", data:=.fields #[vl,vu,.none] } }:=I3.kept (t':=s3.toks) fun b ob q=>Heap.get?_push_of_some _ q
 obtain ⟨T,id,hT,ht,hg⟩:=hr pins { s3 with heap:=s3.heap.push { cls:=.type "slice", data:=.fields #[vl,vu,.none] } } σ H3 x v vl vu l u s3.heap.objs.size Q I4 r1 (Heap.IsSliceOf.new ..) pl pu q3
 show wpAny (model X.prog X.w) X.A (subscriptTail e (.Slice lo hi none p2) v (.ref s3.heap.objs.size)) (EP X pins σ Q) X.xe { s3 with heap:=s3.heap.push { cls:=.type "slice", data:=.fields #[vl,vu,.none] } }
 exact tail_any (ops:=[.ref s3.heap.objs.size,v]) ht hT hg (by with_unfolding_all rfl)
def cutV (xs:List V) (lo hi:Option Int):List V:=(xs.drop (HT.sIx xs.length 0 lo)).take (HT.sIx xs.length xs.length hi - HT.sIx xs.length 0 lo)
theorem cutV_length (xs:List V) (lo hi:Option Int):(cutV xs lo hi).length≤xs.length:=by
 unfold cutV
 rw [List.length_take,List.length_drop]
 omega
def rSlT (K:W.Frag):V→Option Int→Option Int→Hp→VK→Prop:=fun x lo hi H Q=>∃ a xs,x = .ref a∧SqT K H a xs ∧
 ¬ (HT.sIx xs.length 0 lo=0∧HT.sIx xs.length xs.length hi=xs.length) ∧ ∀ p,H p=none→Q (.ref p) (upd H p (.tup (cutV xs lo hi)))
theorem sl_tup:SlR X (rSlT X.K):=by
 intro pins s σ H x v vl vu lo hi sl Q I rx hs pl pu h
 obtain ⟨a,xs,rfl,hx,hw,q⟩:=h
 cases rx
 obtain ⟨its,r,ht,hz⟩:=I.tuple hx
 have hlen:its.toArray.size=xs.length:=by rw [List.size_toArray];exact r.length.symm
 refine ⟨"tuple", _,PyProof.Rows.slot_tuple_getitem.lookup,ht.typeIs,?_⟩
 refine HT.getItem_tuple_cut ht hs pl pu (by rw [hlen];exact hw) ?_ (by rw [hlen];exact hz)
 rw [hlen]
 refine ⟨.ref s.heap.objs.size,_,I.laid (t':=s.toks) (o:=.tup (cutV xs lo hi)) (fun b ob q=>Heap.get?_push_of_some _ q) (Nat.le_refl _) ?_,rfl,q _ (I.hok.fresh (Nat.le_refl _))⟩
 exact ⟨Nat.le_trans (cutV_length xs lo hi) hz,_,(r.drop (HT.sIx xs.length 0 lo)).take (HT.sIx xs.length xs.length hi - HT.sIx xs.length 0 lo),IsTup.new _ _⟩
end
def ixN (n:Nat) (i:Int):Option Nat:=if 0≤i then (if i < n then some i.toNat else none) else if -(n:Int)≤i then some (i+n).toNat else none
def atI {α:Type} (xs:List α) (i:Int):Option α:=(ixN xs.length i).bind fun j=>xs[j]?
theorem ixN_seq {n:Nat} {i:Int} {j:Nat} (h:ixN n i=some j):seqIndex? i n=some j∧j < n ∧ -(n:Int)≤i∧i < n:=by
 unfold ixN at h
 by_cases h0:0≤i
 ·rw [if_pos h0] at h
  by_cases h1:i < n
  ·rw [if_pos h1] at h
   have e:i.toNat=j:=Option.some.inj h
   exact ⟨by rw [seqIndex_of h0 h1,e],by omega,by omega,h1⟩
  ·rw [if_neg h1] at h;cases h
 ·rw [if_neg h0] at h
  by_cases h1 : -(n:Int)≤i
  ·rw [if_pos h1] at h
   have e:(i+n).toNat=j:=Option.some.inj h
   exact ⟨by rw [seqIndex_neg (by omega) h1,e],by omega,h1,by omega⟩
  ·rw [if_neg h1] at h;cases h
theorem atI_get {α : Type} {xs : List α} {i : Int} {v : α} (h : atI xs i = some v) : ∃ j, seqIndex? i xs.length = some j ∧ xs[j]? = some v ∧ j < xs.length ∧ -(xs.length : Int) ≤ i ∧ i < xs.length := by
  unfold atI at h
  cases e : ixN xs.length i with
  | none => rw [e] at h; cases h
  | some j =>
    rw [e] at h
    obtain ⟨h1, h2, h3, h4⟩ := ixN_seq e
    exact ⟨j, h1, h, h2, h3, h4⟩
theorem atI_nat {α:Type} {xs:List α} {j:Nat} {v:α} (h:xs[j]? = some v):atI xs (j:Int)=some v:=by
 have hj:j < xs.length:=(List.getElem?_eq_some_iff.mp h).1
 have e:ixN xs.length (j:Int)=some j:=by
  unfold ixN
  rw [if_pos (by omega),if_pos (by omega)];simp
 unfold atI;rw [e];exact h
def PlainIx (b:Expr):Prop:=∀ o i,subscripted b false o i=operate [o,i] (getItem o i)
def IxR (X:Cx) (r:R2):Prop:=
 ∀ (value slice:Expr) (pins:List (Addr × Obj)) (s:Shared) (σ:St) (H:Hp) (x y:V) (v u:Value) (Q:VK),Inv X pins σ H s→RelV x v→RelV y u→r x y H Q →
  subscripted slice false v u=operate [v,u] (getItem v u)→wpAny (model X.prog X.w) X.A (subscriptTail value slice v u) (EP X pins σ Q) X.xe s
def MtR (X:Cx) (id:String) (r:V→List V→Hp→VK→Prop):Prop:=
 ∀ (pins:List (Addr × Obj)) (s:Shared) (σ:St) (H:Hp) (x:V) (xs:List V) (v:Value) (us:List Value) (Q:VK),Inv X pins σ H s→RelV x v→Vals xs us→r x xs H Q →
  wpAny (model X.prog X.w) X.A (call (.builtin id) (v::us)) (EP X pins σ Q) X.xe s
section
variable {X : Cx} {a b : Expr} {ta tb : TE} {pos : Pos}
theorem pe_ix {r:R2} (hr:IxR X r) (ha:PE X a ta) (hb:PE X b tb) (hs:PlainIx b):PE X (.Subscript a b pos) (tOp r ta tb):=by
 intro pins s σ H Q I h
 exact Subscript_ (binT ha hb I h fun v u s2 x y H2 I2 rx ry q=>hr a b pins s2 σ H2 x y v u Q I2 rx ry q (hs _ _))
def rIxL (K:W.Frag):R2:=fun x y H Q=>∃ p xs i v,x = .ref p∧y = .int i∧SqL K H p xs∧atI xs i=some v∧Q v H
def rIxT (K:W.Frag):R2:=fun x y H Q=>∃ p xs i v,x = .ref p∧y = .int i∧SqT K H p xs∧atI xs i=some v∧Q v H
def rIxS:R2:=fun x y H Q=>∃ z i c,x = .str z∧y = .int i∧z.length≤sizeLine∧atI z.cps.toList i=some c∧Q (.str ⟨#[c]⟩) H
theorem ix_list:IxR X (rIxL X.K):=by
 intro value slice pins s σ H x y v u Q I rx ry h hs
 obtain ⟨p,xs,i,z,rfl,rfl,hq,he,q⟩:=h
 cases rx
 obtain ⟨t,rfl⟩:=ry
 obtain ⟨its,r,pl,hz⟩:=I.list hq
 obtain ⟨j,h1,h2,h3,h4,h5⟩:=atI_get he
 obtain ⟨w,ew,rw'⟩:=r.get h2
 have hl:=r.length
 have hn:=line63
 have fin:EP X pins σ Q w s:=⟨z,H,I,rw',q⟩
 by_cases h0:0≤i
 ·have hj:i.toNat=j:=by
   rw [seqIndex_of h0 h5] at h1
   exact Option.some.inj h1
  exact item_listR pl.isList h0 (by omega) (by rw [hj];simpa using ew) fin hs
 ·have hj:(i+(its.toArray.size:Int)).toNat=j:=by
   rw [seqIndex_neg (by omega) h4] at h1
   rw [List.size_toArray,← hl]
   exact Option.some.inj h1
  exact subscriptTail_builtinR (x:=w) pl.isList.typeIs slot_list_getitem.lookup
   (wpAny_getItem_list_neg (Q:=fun r s'=>r=w∧EP X pins σ Q r s') pl.isList (by omega) (by rw [List.size_toArray] <;> omega) (by omega) (by rw [hj];simpa using ew) ⟨rfl,fin⟩) hs
theorem ix_tup:IxR X (rIxT X.K):=by
 intro value slice pins s σ H x y v u Q I rx ry h hs
 obtain ⟨p,xs,i,z,rfl,rfl,hq,he,q⟩:=h
 cases rx
 obtain ⟨t,rfl⟩:=ry
 obtain ⟨its,r,pl,hz⟩:=I.tuple hq
 obtain ⟨j,h1,h2,h3,h4,h5⟩:=atI_get he
 obtain ⟨w,ew,rw'⟩:=r.get h2
 have hl:=r.length
 have hn:=line63
 have fin:EP X pins σ Q w s:=⟨z,H,I,rw',q⟩
 exact subscriptTail_builtinR (x:=w) pl.typeIs slot_tuple_getitem.lookup
  (getItem_tuple (j:=j) (Q:=fun r s'=>r=w∧EP X pins σ Q r s') pl (by omega) (by omega) (by rw [List.size_toArray,← hl];exact h1) (by simpa using ew) ⟨rfl,fin⟩) hs
theorem ix_str:IxR X rIxS:=by
 intro value slice pins s σ H x y v u Q I rx ry h hs
 obtain ⟨z,i,c,rfl,rfl,hz,he,q⟩:=h
 obtain ⟨t,rfl⟩:=rx
 obtain ⟨t',rfl⟩:=ry
 obtain ⟨j,h1,h2,h3,h4,h5⟩:=atI_get he
 have hl:z.cps.toList.length=z.length:=by simp [Str.length]
 rw [hl] at h1 h4 h5
 have hn:=line63
 exact tail_any (typeIs_str s z t) slot_str_getitem.lookup (getItem_str (c:=c) (by
  have e1:decide (i < -(2 ^ 63:Int))=false:=decide_eq_false (by omega)
  have e2:decide (i ≥ 2 ^ 63)=false:=decide_eq_false (by omega)
  rw [e1,e2,Bool.or_false]) (by rw [h1];simpa using h2) ⟨.str ⟨#[c]⟩,H,I.tok _,⟨_,rfl⟩,q⟩) hs
theorem Inv.lst {pins:List (Addr × Obj)} {σ:St} {H:Hp} {s:Shared} {p:Addr} {xs:List V} (I:Inv X pins σ H s) (h:H p=some (.lst xs)) :
  ∃ (its:List Value) (n:Nat),Vals xs its∧s.heap.get? p=some { cls:=.type "list", data:=.seq its.toArray n }∧xs.length≤sizeLine:=by
 obtain ⟨z,its,n,r,e⟩:=I.hok p _ h
 exact ⟨its,n,r,e,z⟩
def flatV:V→Bool
 | .non=>true
 | .bl _=>true
 | .int _=>true
 | .str _=>true
 | _=>false
def eqV:V→V→Bool
 | .non,.non=>true
 | .bl a,.bl b=>a == b
 | .bl a,.int b=>(if a then 1 else 0) == b
 | .int a,.bl b=>a == (if b then 1 else 0)
 | .int a,.int b=>a == b
 | .str a,.str b=>a == b
 | _,_=>false
theorem eqAt_V {A : Around} {s : Shared} {y x : V} {u v : Value} (ry : RelV y u) (rx : RelV x v) (fy : flatV y = true) (fx : flatV x = true) : SeqAt.EqAt A s u v (eqV y x) := by
  cases y with
  | non =>
    cases ry
    cases x with
    | non => cases rx; exact SeqAt.EqAt.same _
    | bl b => cases rx; exact SeqAt.EqAt.none_bool b
    | int b => obtain ⟨t, rfl⟩ := rx; exact SeqAt.EqAt.none_int b t
    | str b => obtain ⟨t, rfl⟩ := rx; exact SeqAt.EqAt.none_str b t
    | _ => exact absurd (show false = true from fx) Bool.false_ne_true
  | bl a =>
    cases ry
    cases x with
    | non => cases rx; exact SeqAt.EqAt.bool_none a
    | bl b => cases rx; exact SeqAt.EqAt.bool_bool a b
    | int b => obtain ⟨t, rfl⟩ := rx; exact SeqAt.EqAt.bool_int a b t
    | str b => obtain ⟨t, rfl⟩ := rx; exact SeqAt.EqAt.bool_str a b t
    | _ => exact absurd (show false = true from fx) Bool.false_ne_true
  | int a =>
    obtain ⟨t', rfl⟩ := ry
    cases x with
    | non => cases rx; exact SeqAt.EqAt.int_none a t'
    | bl b => cases rx; exact SeqAt.EqAt.int_bool a t' b
    | int b => obtain ⟨t, rfl⟩ := rx; exact SeqAt.EqAt.int_int a t' b t
    | str b => obtain ⟨t, rfl⟩ := rx; exact SeqAt.EqAt.int_str a t' b t
    | _ => exact absurd (show false = true from fx) Bool.false_ne_true
  | str a =>
    obtain ⟨t', rfl⟩ := ry
    cases x with
    | non => cases rx; exact SeqAt.EqAt.str_none a t'
    | bl b => cases rx; exact SeqAt.EqAt.str_bool a t' b
    | int b => obtain ⟨t, rfl⟩ := rx; exact SeqAt.EqAt.str_int a t' b t
    | str b => obtain ⟨t, rfl⟩ := rx; exact SeqAt.EqAt.str_str a t' b t
    | _ => exact absurd (show false = true from fx) Bool.false_ne_true
  | _ => exact absurd (show false = true from fy) Bool.false_ne_true
def eqU (x:V) (u:Value):Bool:=match u with
 | .none=>eqV .non x
 | .bool b=>eqV (.bl b) x
 | .int i _=>eqV (.int i) x
 | .str z _=>eqV (.str z) x
 | _=>false
theorem eqU_of {x y:V} {u:Value} (r:RelV y u) (f:flatV y=true):eqU x u=eqV y x:=by
 cases y with
 | non=>cases r;rfl
 | bl b=>cases r;rfl
 | int i=>obtain ⟨t,rfl⟩:=r;rfl
 | str z=>obtain ⟨t,rfl⟩:=r;rfl
 | _=>exact absurd (show false=true from f) Bool.false_ne_true
theorem any_eqU {x : V} : ∀ {xs : List V} {us : List Value}, Vals xs us → xs.all flatV = true → us.any (eqU x) = xs.any fun y => eqV y x
  | _, _, .nil, _ => rfl
  | y :: xs, u :: us, .cons r t, f => by
    rw [List.all_cons, Bool.and_eq_true] at f
    rw [List.any_cons, List.any_cons, eqU_of r f.1, any_eqU t f.2]
theorem mem_eqAt {A : Around} {s : Shared} {x : V} {v : Value} (rx : RelV x v) (fx : flatV x = true) : ∀ {xs : List V} {us : List Value}, Vals xs us → xs.all flatV = true → ∀ u ∈ us, SeqAt.EqAt A s u v (eqU x u)
  | _, _, .nil, _ => fun u hu => by cases hu
  | y :: xs, u :: us, .cons r t, f => fun u' hu => by
    rw [List.all_cons, Bool.and_eq_true] at f
    rcases List.mem_cons.mp hu with rfl | hu
    · rw [eqU_of r f.1]; exact eqAt_V r rx f.1 fx
    · exact mem_eqAt rx fx t f.2 u' hu
def inV (x:V) (xs:List V):Bool:=xs.any fun y=>eqV y x
def rIn (K:W.Frag) (neg:Bool):R2:=fun x y H Q=>∃ p xs,y = .ref p∧(SqL K H p xs∨SqT K H p xs)∧flatV x=true∧xs.all flatV=true∧Q (.bl (if neg then !inV x xs else inV x xs)) H
theorem op_notIn_seq:OpR X (compareOp .NotIn) (rIn X.K true):=by
 intro pins s σ H x y v u Q I rx ry h
 obtain ⟨p,xs,rfl,hq,fx,fs,q⟩:=h
 cases ry
 rcases hq with hq | hq
 ·obtain ⟨its,r,pl,hz⟩:=I.list hq
  refine SeqAt.notIn_listAt (eqU x) pl.isList (fun w hw=>mem_eqAt rx fx r fs w (by simpa using hw)) ⟨.bl _,H,I,rfl,?_⟩
  rw [show its.toArray.any (eqU x)=its.any (eqU x) by simp,any_eqU r fs]
  exact q
 ·obtain ⟨its,r,pl,hz⟩:=I.tuple hq
  refine SeqAt.notIn_tupleAt (eqU x) pl (fun w hw=>mem_eqAt rx fx r fs w (by simpa using hw)) ⟨.bl _,H,I,rfl,?_⟩
  rw [show its.toArray.any (eqU x)=its.any (eqU x) by simp,any_eqU r fs]
  exact q
theorem call_len_seq:CallR X (.builtin "len") (fun xs H Q=>∃ p ys,xs=[.ref p]∧(SqL X.K H p ys∨SqT X.K H p ys)∧Q (.int ys.length) H):=by
 intro pins s σ H xs us Q I r h
 obtain ⟨p,ys,rfl,hq,q⟩:=h
 obtain ⟨u,rfl,rx⟩:=vals1 r
 cases rx
 have hn:=line63
 rcases hq with hq | hq
 ·obtain ⟨its,r',pl,hz⟩:=I.list hq
  have hlen:=r'.length
  exact Calls.call_len_list pl.isList (by simp only [List.size_toArray] <;> omega) ⟨.int ys.length,H,I.tok _,⟨s.toks+1,by rw [List.size_toArray,hlen]⟩,q⟩
 ·obtain ⟨its,r',pl,hz⟩:=I.tuple hq
  have hlen:=r'.length
  exact len_tuple pl (by simp only [List.size_toArray] <;> omega) ⟨.int ys.length,H,I.tok _,⟨s.toks+1,by rw [List.size_toArray,hlen]⟩,q⟩
theorem call_len_str:CallR X (.builtin "len") (fun xs H Q=>∃ z,xs=[.str z]∧z.length≤sizeLine∧Q (.int z.length) H):=by
 intro pins s σ H xs us Q I r h
 obtain ⟨z,rfl,hz,q⟩:=h
 obtain ⟨u,rfl,t,rfl⟩:=vals1 r
 have hn:=line63
 exact len_str (by omega) ⟨.int z.length,H,I.tok _,⟨_,rfl⟩,q⟩
def tyV (K:W.Frag) (T:String) (x:V) (H:Hp):Prop:=match x with
 | .str _=>T = "str"
 | .int _=>T = "int"
 | .ref p=>(T = "list" ∧ ∃ xs,SqL K H p xs)∨(T = "tuple" ∧ ∃ o,K.lookup p=some o∧o.cls = .type "tuple" ∧ o.dict=none) ∨
   (T = "dict" ∧ ((∃ kvs,H p=some (.dK kvs)) ∨ ∃ kvs,H p=some (.dT kvs)))∨(T = "set" ∧ ∃ S n,H p=some (.set S n))
 | _=>False
theorem tyV_is {pins : List (Addr × Obj)} {σ : St} {H : Hp} {s : Shared} {T : String} {x : V} {v : Value} (I : Inv X pins σ H s) (r : RelV x v) (ty : tyV X.K T x H) :
    s.TypeIs v T ∧ ∀ a, v = .ref a → ∃ ob, s.heap.get? a = some ob ∧ ob.dict = none := by
  cases x with
  | str z =>
    obtain ⟨t, rfl⟩ := r
    cases (show T = "str" from ty)
    exact ⟨typeIs_str s z t, fun _ e => nomatch e⟩
  | int i =>
    obtain ⟨t, rfl⟩ := r
    cases (show T = "int" from ty)
    exact ⟨typeIs_int s i t, fun _ e => nomatch e⟩
  | ref p =>
    cases r
    rcases ty with ⟨rfl, xs, hq⟩ | ⟨rfl, o, hk, hc, hd⟩ | ⟨rfl, hk⟩ | ⟨rfl, S, n, hk⟩
    · obtain ⟨its, _, pl, _⟩ := I.list hq
      refine ⟨pl.isList.typeIs, fun a e => ?_⟩
      cases e
      obtain ⟨o, n, e, c, hd, _⟩ := pl
      exact ⟨o, e, hd⟩
    · refine ⟨⟨o, I.kIn p o hk, hc⟩, fun a e => ?_⟩
      cases e
      exact ⟨o, I.kIn _ o hk, hd⟩
    · have z : ∃ o, s.heap.get? p = some o ∧ o.ExactDict := by
        rcases hk with ⟨kvs, hk⟩ | ⟨kvs, hk⟩
        · obtain ⟨_, _, _, _, o, _, _, e, ex, _⟩ := I.hok p _ hk
          exact ⟨o, e, ex⟩
        · obtain ⟨_, _, _, _, o, _, _, e, ex, _⟩ := I.hok p _ hk
          exact ⟨o, e, ex⟩
      obtain ⟨o, e, ex⟩ := z
      refine ⟨⟨o, e, ex.1⟩, fun a e2 => ?_⟩
      cases e2
      exact ⟨o, e, ex.2.1⟩
    · obtain ⟨o, _, _, _, e, ex, _⟩ := I.hok p _ hk
      refine ⟨⟨o, e, ex.1⟩, fun a e2 => ?_⟩
      cases e2
      exact ⟨o, e, ex.2.1⟩
  | _ => exact False.elim ty
def tBM0 (K:W.Frag) (T:String) (r:V→List V→Hp→VK→Prop) (to:TE):TE:=fun σ H Q=>to σ H fun x H1=>tyV K T x H1∧r x [] H1 Q
def tBM (K:W.Frag) (T:String) (r:V→List V→Hp→VK→Prop) (to:TE) (t:TA):TE:=fun σ H Q=>to σ H fun x H1=>tyV K T x H1∧t σ H1 fun xs H2=>r x xs H2 Q
variable {o e : Expr} {es : List Expr} {to : TE} {t : TA} {name : Str} {apos cpos : Pos} {T id : String} {r : V → List V → Hp → VK → Prop}
theorem pe_bm0 (pa:PlainAttrs T) (slot:Slot T name id) (hty:typeOf (.builtin id)=pure (.type "method_descriptor")) (hm:MtR X id r) (ho:PE X o to)
  (hbase:attributeBase o name X.env (eval o X.env)=eval o X.env:=by rfl) (hline:(apos.endLine == cpos.line)=true:=by rfl):PE X (.Call (.Attribute o name apos) [] [] cpos) (tBM0 X.K T r to):=by
 intro pins s σ H Q I h
 refine wpAny_Call_method0_late hbase hline (thn (ho pins s σ H _ I h) fun v s1 ⟨x,H1,I1,r1,ty,q1⟩=>?_)
 obtain ⟨h1,h2⟩:=tyV_is I1 r1 ty
 exact ⟨T,id,pa,slot,hty,h1,h2,Calls.callWith_builtin rfl (PySem.evalArgs_none (hm pins s1 σ H1 x [] v [] Q I1 r1 .nil q1))⟩
theorem pe_bm (pa:PlainAttrs T) (slot:Slot T name id) (hty:typeOf (.builtin id)=pure (.type "method_descriptor")) (hm:MtR X id r) (ho:PE X o to) (ha:PA X (e::es) t)
  (hbase:attributeBase o name X.env (eval o X.env)=eval o X.env:=by rfl)
  (hfew:((backTo cpos (starEach (e::es) X.env)).all (fun x=>!x.1) && (backToKw cpos (keywordEach [] X.env)).all (fun x=>x.1.isSome)
   && decide ((e::es).length+([]:List Keyword).length+(if ([]:List Keyword).isEmpty then 0 else 1) < 30))=true:=by rfl)
  (hline:(apos.endLine == cpos.line)=true:=by rfl) (hs:starEach (e::es) X.env=(false,eval e X.env)::starEach es X.env:=by rfl) (hplain:(backTo cpos (starEach es X.env)).any (·.1)=false:=by rfl) :
  PE X (.Call (.Attribute o name apos) (e::es) [] cpos) (tBM X.K T r to t):=by
 intro pins s σ H Q I h
 refine wpAny_Call_method_late hbase hfew hline rfl (thn (ho pins s σ H _ I h) fun v s1 ⟨x,H1,I1,r1,ty,q1⟩=>?_)
 obtain ⟨h1,h2⟩:=tyV_is I1 r1 ty
 refine ⟨T,id,pa,slot,hty,h1,h2,?_⟩
 have hA:=ha cpos pins s1 σ H1 _ I1 q1
 rw [hs] at hA ⊢
 refine Calls.callWith_builtin (by show (false || (backTo cpos (starEach es X.env)).any (·.1))=false;rw [hplain] <;> rfl) (Calls.evalArgs_plain ?_)
 exact thn hA fun us s2 ⟨vs,H2,I2,r2,q2⟩=>hm pins s2 σ H2 x vs v us Q I2 r1 r2 q2
end
def MtM (X:Cx) (id:String) (r:V→List V→Hp→VK→Prop):Prop:=
 ∀ (pins:List (Addr × Obj)) (s:Shared) (σ:St) (H:Hp) (x:V) (xs:List V) (v:Value) (us:List Value) (Q:VK),Inv X pins σ H s→RelV x v→Vals xs us→r x xs H Q →
  wpAny (model X.prog X.w) X.A (call (.builtin id) (v::us)) (EP X pins σ Q) X.xe s
theorem Vals.one : ∀ {x:V} {us:List Value},Vals [x] us → ∃ u,us=[u]∧RelV x u
 | _,_,.cons r .nil=>⟨_,rfl,r⟩
theorem Vals.zero : ∀ {us:List Value},Vals [] us→us=[]
 | _,.nil=>rfl
theorem Vals.dropLast {xs : List V} {us : List Value} (h : Vals xs us) : Vals xs.dropLast us.dropLast := by
  induction h with
  | nil => exact .nil
  | cons r t ih =>
    cases t with
    | nil => exact .nil
    | cons q t' => exact .cons r ih
theorem Vals.eraseIdx : ∀ {xs:List V} {us:List Value} (i:Nat),Vals xs us→Vals (xs.eraseIdx i) (us.eraseIdx i)
 | _,_,_,.nil=>.nil
 | _,_,0,.cons _ t=>t
 | _,_,i+1,.cons r t=>.cons r (Vals.eraseIdx i t)
theorem Vals.reverse {xs:List V} {us:List Value} (h:Vals xs us):Vals xs.reverse us.reverse:=by
 induction h with
 | nil=>exact .nil
 | cons r t ih=>rw [List.reverse_cons,List.reverse_cons];exact Vals.append ih (.cons r .nil)
theorem Vals.rep {xs : List V} {us : List Value} (h : Vals xs us) : ∀ k : Nat, Vals (List.replicate k xs).flatten (List.replicate k us).flatten
  | 0 => .nil
  | k + 1 => by
    rw [List.replicate_succ, List.replicate_succ, List.flatten_cons, List.flatten_cons]
    exact Vals.append h (Vals.rep h k)
theorem erase_last {α : Type} (l : List α) : l.eraseIdx (l.length - 1) = l.dropLast := by
  induction l with
  | nil => rfl
  | cons a r ih =>
    cases r with
    | nil => rfl
    | cons b r =>
      have e : (a :: b :: r).length - 1 = ((b :: r).length - 1) + 1 := by
        have h1 : (a :: b :: r).length = r.length + 2 := rfl
        have h2 : (b :: r).length = r.length + 1 := rfl
        omega
      rw [e, List.eraseIdx_cons_succ, ih]
      all_goals rfl
section
variable {X : Cx} {pins : List (Addr × Obj)} {σ : St} {H : Hp} {s : Shared} {l b : Addr} {xs ys zs : List V}
theorem Inv.lset {its its':List Value} {n:Nat} {f:Array Value→Array Value} {t':Nat} (I:Inv X pins σ H s) (hH:H l=some (.lst xs))
  (e:s.heap.get? l=some { cls:=.type "list", data:=.seq its.toArray n }) (hf:f its.toArray=its'.toArray) (hv:Vals ys its') (hz:ys.length≤sizeLine) :
  Inv X pins σ (upd H l (.lst ys)) { s with heap:=s.heap.update l (Obj.mapSeq f),toks:=t' }:=by
 have q:=PySem.IsL.update e f
 rw [hf] at q
 refine I.write (x:=l) (e:=l) (by rw [hH];exact trivial) (.inl rfl) (fun b' u hb hu=>(Heap.get?_update_other s.heap (Obj.mapSeq f) (Ne.symm hb)).trans hu) ⟨_,q⟩ ?_
 exact ⟨hz,its',_,hv,q⟩
theorem Inv.lnew {its:List Value} {t':Nat} (I:Inv X pins σ H s) (hv:Vals ys its) (hz:ys.length≤sizeLine) :
  Inv X pins σ (upd H s.heap.objs.size (.lst ys)) { s with heap:=s.heap.push { cls:=.type "list", data:=.seq its.toArray },toks:=t' }:=
 I.laid (fun _ _ q=>Heap.get?_push_of_some _ q) (Nat.le_refl _) ⟨hz,its,0,hv,Heap.get?_push_size _ rfl⟩
theorem Inv.fresh (I:Inv X pins σ H s):H s.heap.objs.size=none:=I.hok.fresh (Nat.le_refl _)
theorem Inv.lstM (I:Inv X pins σ H s) (hH:H l=some (.lst xs)):xs.length≤sizeLine ∧ ∃ (its:List Value) (n:Nat),Vals xs its∧xs.length=its.length∧s.heap.get? l=some { cls:=.type "list", data:=.seq its.toArray n }:=by
 obtain ⟨z,its,n,r,e⟩:=I.hok l _ hH
 exact ⟨z,its,n,r,r.length,e⟩
theorem notLongL {n:Nat} (h:n≤sizeLine):Builtin.List.listTooLong n=false:=by
 unfold Builtin.List.listTooLong
 exact decide_eq_false (by omega)
end
section
variable {X : Cx}
def rAppend:V→List V→Hp→VK→Prop:=fun x vs H Q=>∃ l xs y,x = .ref l∧vs=[y]∧H l=some (.lst xs)∧xs.length < sizeLine∧Q .non (upd H l (.lst (xs++[y])))
theorem mt_append:MtM X "list.append" rAppend:=by
 intro pins s σ H x vs v us Q I rx rv h
 obtain ⟨l,xs,y,rfl,rfl,hH,hz,q⟩:=h
 cases rx
 obtain ⟨u,rfl,ru⟩:=rv.one
 obtain ⟨z,its,n,r,hl,e⟩:=I.lstM hH
 refine call_meets F.slot_list_append ⟨_,e,rfl⟩ F.entry_list_append (F.args_list_append_2 _ _) (PySem.list_append l its.toArray n u (by rw [List.size_toArray];omega)) ⟨e,?_⟩
 refine ⟨.non,_,I.lset (its':=its++[u]) hH e (by simp) (r.append (.cons ru .nil)) ?_,rfl,q⟩
 rw [List.length_append,List.length_singleton]
 omega
def rExtend:V→List V→Hp→VK→Prop:=fun x vs H Q=>∃ l b xs zs,x = .ref l∧vs=[.ref b]∧H l=some (.lst xs)∧H b=some (.lst zs)∧xs.length+zs.length≤sizeLine∧Q .non (upd H l (.lst (xs++zs)))
theorem mt_extend:MtM X "list.extend" rExtend:=by
 intro pins s σ H x vs v us Q I rx rv h
 obtain ⟨l,b,xs,zs,rfl,rfl,hH,hB,hz,q⟩:=h
 cases rx
 obtain ⟨u,rfl,ru⟩:=rv.one
 cases ru
 obtain ⟨z,its,n,r,hl,e⟩:=I.lstM hH
 obtain ⟨z2,its2,n2,r2,hl2,e2⟩:=I.lstM hB
 have hsz:its.toArray.size+its2.toArray.size≤sizeLine:=by rw [List.size_toArray,List.size_toArray];omega
 have hlong : ¬ (!its.toArray.isEmpty && Builtin.List.listTooLong (its.toArray.size+its2.toArray.size))=true:=by
  rw [notLongL hsz,Bool.and_false]
  exact Bool.false_ne_true
 refine call_meets F.slot_list_extend ⟨_,e,rfl⟩ F.entry_list_extend (F.args_list_extend_2 _ _)
  (AutoSeq1.list_extend_list_list_0 l its.toArray n b its2.toArray n2 hlong (by rw [List.size_toArray];omega) (by omega)) ⟨e,e2,?_⟩
 refine ⟨.non,_,I.lset (its':=its++its2) hH e (by simp) (r.append r2) ?_,rfl,q⟩
 rw [List.length_append]
 omega
def rPop:V→List V→Hp→VK→Prop:=fun x vs H Q=>∃ l xs y,x = .ref l∧vs=[]∧H l=some (.lst xs)∧xs[xs.length - 1]? = some y∧Q y (upd H l (.lst xs.dropLast))
theorem mt_pop:MtM X "list.pop" rPop:=by
 intro pins s σ H x vs v us Q I rx rv h
 obtain ⟨l,xs,y,rfl,rfl,hH,hy,q⟩:=h
 cases rx
 have hus:=rv.zero
 subst hus
 obtain ⟨z,its,n,r,hl,e⟩:=I.lstM hH
 obtain ⟨u,hu,ru⟩:=r.get hy
 have hy':its.toArray[its.toArray.size - 1]? = some u:=by
  show its.toArray[its.length - 1]? = some u
  rw [← Array.getElem?_toList,← hl]
  exact hu
 refine call_meets F.slot_list_pop ⟨_,e,rfl⟩ F.entry_list_pop (F.args_list_pop_1 _) (MeetsSeq.list_pop_last l its.toArray n u hy' (by rw [List.size_toArray];omega)) ⟨e,?_⟩
 refine ⟨y,_,I.lset (its':=its.dropLast) hH e ?_ r.dropLast ?_,ru,q⟩
 ·show its.toArray.eraseIdxIfInBounds (its.toArray.size - 1)=its.dropLast.toArray
  rw [List.size_toArray,List.eraseIdxIfInBounds_toArray,erase_last]
 ·rw [List.length_dropLast]
  omega
def rReverse:V→List V→Hp→VK→Prop:=fun x vs H Q=>∃ l xs,x = .ref l∧vs=[]∧H l=some (.lst xs)∧Q .non (upd H l (.lst xs.reverse))
theorem mt_reverse:MtM X "list.reverse" rReverse:=by
 intro pins s σ H x vs v us Q I rx rv h
 obtain ⟨l,xs,rfl,rfl,hH,q⟩:=h
 cases rx
 have hus:=rv.zero
 subst hus
 obtain ⟨z,its,n,r,hl,e⟩:=I.lstM hH
 refine call_meets F.slot_list_reverse ⟨_,e,rfl⟩ F.entry_list_reverse (F.args_list_reverse_1 _) (AutoSeq1.list_reverse_list_0 l its.toArray n (by rw [List.size_toArray];omega)) ⟨e,?_⟩
 refine ⟨.non,_,I.lset (its':=its.reverse) hH e (by simp) r.reverse ?_,rfl,q⟩
 rw [List.length_reverse]
 omega
def rCat:R2:=fun x y H Q=>∃ l b xs zs,x = .ref l∧y = .ref b∧H l=some (.lst xs)∧H b=some (.lst zs)∧xs.length+zs.length≤sizeLine ∧ ∀ p,H p=none→Q (.ref p) (upd H p (.lst (xs++zs)))
theorem op_cat:OpR X (binaryOp .Add) rCat:=by
 intro pins s σ H x y v u Q I rx ry h
 obtain ⟨l,b,xs,zs,rfl,rfl,hH,hB,hz,q⟩:=h
 cases rx
 cases ry
 obtain ⟨z,its,n,r,hl,e⟩:=I.lstM hH
 obtain ⟨z2,its2,n2,r2,hl2,e2⟩:=I.lstM hB
 refine PySem.P.add_list e e2 ?_ (by rw [List.size_toArray,List.size_toArray];omega)
 have ea:its.toArray++its2.toArray=(its++its2).toArray:=by simp
 rw [ea]
 exact ⟨.ref _,_,I.lnew (t':=s.toks) (r.append r2) (by rw [List.length_append];omega),rfl,q _ I.fresh⟩
end
section
variable {prog : Program} {w : World} {A : Around} {E : Value → Shared → Prop} {s : Shared}
set_option maxRecDepth 100000 in
end
end L2
namespace Att
open PySem PySem.W PySem.Calls PyProof.Rows
theorem ints_of_wellAll {P : Params} {h : Heap} : ∀ (ns : List Int) (vs : List Value), WellAll P h vs (ns.map WData.int) → IntsAre vs ns := by
  intro ns
  induction ns with
  | nil =>
    intro vs w
    rw [List.map_nil] at w
    cases w
    exact .nil
  | cons n ns ih =>
    intro vs w
    rw [List.map_cons] at w
    cases w with
    | cons a b =>
      cases a
      exact .cons _ _ (ih _ b)
theorem script_of {l : OpenLaw} {n : Nat} (hn : l.most = some n) {P : Params} {h : Heap} {args : List WData} {vals : List Value}
    (hpre : l.row.toRowW.claim.pre args = true) (hwl : WellAll P h vals args) :
    ∃ a vs ns, vals = [Value.ref a] ∧ args = [WData.list (ns.map WData.int)] ∧ h.get? a = some { cls := .type "list", data := .seq vs.toArray } ∧ IntsAre vs ns ∧ ns.length ≤ n := by
  have hsh : WShape.hasAll [] args [.list .int] = true := (pre_splitW hpre).1
  have hc : l.pre.holds [] { args := args } = true := (pre_splitW hpre).2
  obtain ⟨d, r, rfl, h1, h2⟩ := hasAllW_cons hsh
  obtain rfl := hasAllW_nil h2
  obtain ⟨xs, rfl, h3⟩ := hasW_list h1
  obtain ⟨ns, rfl⟩ := items_int h3
  have hlen : ns.length ≤ n := by
    unfold OpenLaw.pre at hc
    have h4 : (WTm.not (.lt (.lit (.int (n : Int))) (.len (.arg 0)))).holds [] { args := [.list (ns.map .int)] } = true := by
      have h4 := (holds_andW hc).1
      rw [hn] at h4
      exact h4
    have h5 := condW_of h4 (w_not (w_lt w_lit (w_len_list (w_arg rfl))))
    rw [List.length_map] at h5
    refine Nat.le_of_not_lt fun q => ?_
    have q' : (n : Int) < ((ns.length : Nat) : Int) := by omega
    first
      | (rw [decide_eq_true q'] at h5; exact absurd h5 (by decide))
      | (simp at h5; omega)
  cases hwl with
  | cons w1 w2 =>
    cases w2
    cases w1 with
    | list ho hall => exact ⟨_, _, ns, rfl, rfl, ho, ints_of_wellAll ns _ hall, hlen⟩
theorem post_true (l:OpenLaw) (args:List WData):l.row.toRowW.claim.post args (.bool true) args=true:=
 postW_of (r:=l.row.toRowW) (X:=(true == true))
  (show WShape.has [] (.bool true) .bool=true by first | rfl | decide | simp [WShape.has,WShape.arms,WShape.armsAll])
  (show (WTm.eq .res (.lit (.bool true))).value [] { args:=args,res:=some (.bool true),after:=args }=some (.bool (true == true)) from w_eq_bool (w_res rfl) w_lit) rfl
theorem attach_call {l:OpenLaw} {n:Nat} {q:Program} {loose:List Str} {XP:(Str→Option Value)→Heap→Prop} {YP:World→Heap→Prop} {d:DefRec}
  (hn:l.most=some n) (hdf:d.params.defaults=[])
  (call : ∀ (w:World) (s₀ s₁:Shared) (mg mb:Str→Option Value) (fa:Addr) (o:Obj) (pm cd doc:Value) (a:Addr) (vs:List Value) (ns:List Int),
   Ground q loose [] XP w s₀ mg mb s₁.heap→YP w s₁.heap →
   s₁.heap.get? fa=some o→o.data = .func (docDef d.name d.params d.body d.scope pm cd doc)→s₁.heap.CodeRec cd d.name→mg d.name=some (.ref fa) →
   s₁.heap.get? a=some { cls:=.type "list", data:=.seq vs.toArray }→IntsAre vs ns→ns.length≤n→s₁.gens = #[] →
   codeAny (model l.prog w) callerA (.call (.ref fa) ⟨[.ref a],[]⟩) (fun r s'=>r = .ok (.ret (.bool true))∧OldK s₁.heap s'.heap∧s'.os=s₁.os∧AllBare s'.gens) s₁) :
  WalkO q loose XP YP l.row.toRowW d [] (fun f vs=>PySem.call f vs):=by
 intro w s₀ s₁ mg mb G Y fa o pm cd doc dV kV ho hd hcd hD hmg hg args vals as hpre hlay hrd hwl hlo
 obtain rfl:dV = .none:=Dflts.none hD hdf
 obtain rfl:kV = .none:=Dflts.noKw hD
 obtain ⟨a,vs,ns,rfl,rfl,hobj,hints,hlen⟩:=script_of hn hpre hwl
 refine enter_call (codeAny_mono (call w s₀ s₁ mg mb fa o pm cd doc a vs ns G Y ho (fd_plain hd) hcd hmg hobj hints hlen hg) fun r s' hq=>?_)
 obtain ⟨rfl,h2,h3,h4⟩:=hq
 exact ⟨.inl ⟨.bool true,.bool true,[],rfl,fun _=>rfl,.bool true,post_true l _,fun _=>⟨List.Pairwise.nil,fun _ hm=>(nomatch hm)⟩⟩,h2,h3,h4⟩
end Att
namespace L2
open PySem PySem.Spec PyProof.Rows
theorem vals_ints : ∀ {vs:List Value} {ns:List Int},IntsAre vs ns→Vals (ns.map V.int) vs
 | _,_,.nil=>.nil
 | _,_,.cons n t h=>.cons ⟨t,rfl⟩ (vals_ints h)
def Only (H:Hp):Prop:=∀ b,H b=none ∨ ∃ o xs,H b=some (.frz o (.lst xs))
theorem law_call {P : Program} {w : World} {K : W.Frag} {mg mb : Str → Option Value} {CX : CXT} {k : Nat} {fa a : Addr} {fd : FuncData} {x : Str} {sp : Sp} {s₁ : Shared} {vs : List Value} {ns : List Int}
    (KX : K.In s₁.heap) (hns : s₁.heap.Ns mainGlobals mg) (hb : s₁.heap.Ns builtinsNs mb) (hbb : ∀ x : Str, x ≠ "__name__" → mb x = bootBuiltins x) (hlim : s₁.heap.NoLimit) (hg : s₁.gens = #[])
    (ha : s₁.heap.get? a = some { cls := .type "list", data := .seq vs.toArray }) (hi : IntsAre vs ns) (hl : ns.length ≤ sizeLine) (hr : Room k callerA)
    (F : ∀ base : Heap, K.In base → base.Ns mainGlobals mg → FnOk P w K mg base CX k fa fd [x] sp) (hbind : ∀ (s : Shared) (u : Value), BindsTo s fd ⟨[u], []⟩ [(x, u)])
    (hsp : ∀ H : Hp, Only H → SqL K H a (ns.map V.int) → sp [.ref a] H (fun v _ => v = .bl true) fun _ _ _ => False)
    (hCX : ∀ H e s', CX [] H s₁ (fun _ _ _ => False) e s' → False) :
    codeAny (model P w) callerA (.call (.ref fa) ⟨[.ref a], []⟩) (fun r s' => r = .ok (.ret (.bool true)) ∧ OldK s₁.heap s'.heap ∧ s'.os = s₁.os ∧ AllBare s'.gens) s₁ := by
  have rv := vals_ints hi
  have lenV := hi.length
  have core : ∀ H : Hp, Only H → SqL K H a (ns.map V.int) → HOk P w H s₁.heap → (∀ b, H b ≠ none → b = a) → (H a ≠ none → K.lookup a = none) →
      codeAny (model P w) callerA (.call (.ref fa) ⟨[.ref a], []⟩) (fun r s' => r = .ok (.ret (.bool true)) ∧ OldK s₁.heap s'.heap ∧ s'.os = s₁.os ∧ AllBare s'.gens) s₁ := by
    intro H hO hS hok hA hK
    have base_of : ∀ {b : Addr} {o : Obj}, s₁.heap.get? b = some o → H b = none → (hidT s₁.heap H).get? b = some o := fun e n => hidT_get e n
    have noA : ∀ {b : Addr} {o : Obj} {es : Array DictEntry} {ep : Nat}, s₁.heap.get? b = some o → o.data = .dict es ep → H b = none := fun {b o es ep} e d => by
      cases q : H b with
      | none => rfl
      | some u =>
        have e' : b = a := hA b (by rw [q]; simp)
        subst e'
        rw [ha] at e; cases e
        have d' : Data.seq vs.toArray _ = Data.dict es ep := d
        cases d'
    have nsK : ∀ {b : Addr} {m : Str → Option Value}, s₁.heap.Ns b m → (hidT s₁.heap H).Ns b m := fun {b m} ⟨o, es, ep, e, d, r⟩ => ⟨o, es, ep, base_of e (noA e d), d, r⟩
    have hKb : K.In (hidT s₁.heap H) := fun b o e => base_of (KX b o e) (by
      cases q : H b with
      | none => rfl
      | some u =>
        have e' : b = a := hA b (by rw [q]; simp)
        subst e'
        rw [hK (by rw [q]; simp)] at e; cases e)
    have hM : Mod K mg (hidT s₁.heap H) := ⟨hKb, nsK hns, ⟨mb, nsK hb, hbb⟩, let ⟨mc, h1, h2⟩ := hlim; ⟨mc, nsK h1, h2⟩⟩
    have e0 : Env0 P w K mg (hidT s₁.heap H) callerA [] s₁ H := ⟨rfl, hM, fun b o e => of_hidT e, Nat.le_of_eq (hidT_size _ _), trivial, fun b hb => absurd (show b ∈ ([] : List Addr) from hb) (by simp), hok, .of_eq hg⟩
    refine codeAny_mono ((F _ hKb (nsK hns)).run callerA [] s₁ H ⟨[.ref a], []⟩ [.ref a] [.ref a] _ _ hr e0 (hbind s₁ (.ref a)) (.cons rfl .nil) (hsp H hO hS)) fun r s' h => ?_
    cases r with
    | error e => exact (hCX H e s' h).elim
    | ok fl =>
      cases fl with
      | next => exact False.elim h
      | brk => exact False.elim h
      | cont => exact False.elim h
      | ret u =>
        obtain ⟨v, H', os, bare, un, hok', r', q⟩ := h
        have q' : v = .bl true := q
        subst q'
        obtain rfl : u = Value.bool true := r'
        refine ⟨rfl, OldK.of_keep fun b o e => ?_, os, bare⟩
        cases q : H b with
        | none => exact un.keep b o e q (by intro z; exact absurd (show b ∈ ([] : List Addr) from z) (by simp)) (by simp)
        | some u =>
          rcases hO b with z | ⟨ob, xs, z⟩
          · rw [q] at z; cases z
          · have z2 := un.frzs b ob _ z
            obtain ⟨e1, _⟩ := hok b _ z
            obtain ⟨e2, _⟩ := hok' b _ z2
            rw [e] at e1; cases e1
            exact e2
  cases hk : K.lookup a with
  | some o =>
    have e := KX a o hk
    rw [ha] at e
    cases e
    refine core (fun _ => none) (fun _ => .inl rfl) (.inr ⟨_, vs.toArray, _, hk, rfl, rfl, rfl, by rw [List.size_toArray, lenV]; exact hl, by simpa using rv⟩) (fun b u z => by have z' : (none : Option HO) = some u := z; cases z') (fun b z => absurd rfl z) fun z => absurd rfl z
  | none =>
    refine core (fun b => if b = a then some (.frz { cls := .type "list", data := .seq vs.toArray } (.lst (ns.map V.int))) else none) (fun b => ?_) (.inl (.inr ⟨{ cls := .type "list", data := .seq vs.toArray }, if_pos rfl⟩)) (fun b u z => ?_) (fun b z => ?_) fun _ => hk
    · by_cases hb : b = a
      · exact .inr ⟨_, _, if_pos hb⟩
      · exact .inl (if_neg hb)
    · by_cases hb : b = a
      · have z' := (if_pos hb).symm.trans z
        cases z'
        subst hb
        exact ⟨ha, by rw [List.length_map]; exact hl, vs, _, rv, ha⟩
      · have z' := (if_neg hb).symm.trans z
        cases z'
    · by_cases hb : b = a
      · exact hb
      · exact absurd (if_neg hb) z
theorem walk_of {l:W.OpenLaw} {n k:Nat} {q:Program} {loose:List Str} {XP:(Str→Option Value)→Heap→Prop} {YP:World→Heap→Prop} {d:DefRec} {K:Params→W.Frag} {CX:World→CXT} {sp:World→Sp} {x:Str}
  (hn:l.most=some n) (hn2:n≤sizeLine) (hdf:d.params.defaults=[]) (hr:Room k callerA)
  (hY : ∀ (w:World) (h:Heap),YP w h→(K w.params).In h)
  (F : ∀ (w:World) (mg:Str→Option Value) (fa:Addr) (h:Heap),(K w.params).In h→h.Ns mainGlobals mg→mg d.name=some (.ref fa) →
   ∃ fd:FuncData,(∀ (s:Shared) (u:Value),BindsTo s fd ⟨[u],[]⟩ [(x,u)]) ∧
    ∀ base:Heap,(K w.params).In base→base.Ns mainGlobals mg→FnOk l.prog w (K w.params) mg base (CX w) k fa fd [x] (sp w))
  (hsp : ∀ (w:World) (H:Hp) (a:Addr) (ns:List Int),ns.length≤n→Only H→SqL (K w.params) H a (ns.map V.int)→sp w [.ref a] H (fun v _=>v = .bl true) fun _ _ _=>False)
  (hCX : ∀ (w:World) (H:Hp) (s:Shared) (e:Value) (s':Shared),CX w [] H s (fun _ _ _=>False) e s'→False) :
  W.WalkO q loose XP YP l.row.toRowW d [] (fun f vs=>PySem.call f vs):=by
 refine Att.attach_call hn hdf fun w s₀ s₁ mg mb fa o pm cd doc a vs ns G Y ho hd hcd hmg hobj hints hlen hg=>?_
 have KX:=hY w _ Y
 obtain ⟨fd,hb,hF⟩:=F w mg fa _ KX G.T.g hmg
 exact law_call KX G.T.g G.T.b G.T.builtins G.T.nolimit hg hobj hints (Nat.le_trans hlen hn2) hr hF hb (fun H hO hS=>hsp w H a ns hlen hO hS) fun H e s'=>hCX w H s₁ e s'
def inClass (s:Stmt) (j:Nat):Stmt:=match s with
 | .ClassDef _ _ _ body _ _ _ _ _ _ _=>body.getD j (.Pass ⟨0,0,0,0⟩)
 | _=>.Pass ⟨0,0,0,0⟩
def defArgs (s:Stmt):Arguments:=match s with
 | .FunctionDef _ a _ _ _ _ _ _ _ _=>a
 | _=>{ posonlyargs:=[],args:=[],vararg:=none,kwonlyargs:=[],kw_defaults:=[],kwarg:=none,defaults:=[] }
def defBody (s:Stmt):List Stmt:=match s with
 | .FunctionDef _ _ b _ _ _ _ _ _ _=>b
 | _=>[]
def defScope (s:Stmt):Scope:=match s with
 | .FunctionDef _ _ _ _ _ _ sc _ _ _=>sc
 | _=>{ kind:=.function,names:=[],isGenerator:=false,isCoroutine:=false }
abbrev CX0:CXT:=fun _ _ _ _ _ _=>False
abbrev E0:XK:=fun _ _ _=>False
theorem pass0 {X:Cx}:Passes CX0 X E0:=fun _ _ _ _ _ _ _ h=>h.elim
structure Fun (K:W.Frag) (x qual:Str) (st:Stmt) (f:Addr) (fd:FuncData):Prop where
 ex : ∃ (oc:Value) (od:Option Addr) (kV doc pm:Value) (an:Option Addr) (cdv ct:Value) (osl:Array (Option Value)),
  fd=W.fnOf x qual (defArgs st) (defBody st) (defScope st) .none kV doc pm an cdv ct∧K.lookup f=some ⟨oc,od,.func fd,osl⟩∧W.codeIn K cdv qual=true
 kp:W.keepIn K (.ref f)=true
section
variable {P : Program} {w : World} {K : W.Frag} {mg : Str → Option Value} {base : Heap}
theorem Fun.ok {x qual:Str} {st:Stmt} {f:Addr} {fd:FuncData} {N ps:List Str} {k:Nat} {sp:Sp} (F:Fun K x qual st f fd) (S:FnScope N ps (defScope st)) (len : ∀ vs H Q E,sp vs H Q E→vs.length=ps.length)
  (hbody : ∀ (cdv:Value) (A:Around) (outer:List Env) (s:Shared) (H:Hp) (vs:List V) (Q:VK) (E:XK),Room k (A.deeper (envOfC qual (defScope st) s.heap.objs.size f cdv))→sp vs H Q E →
   ∃ t,PSs (cxOf CX0 P w K mg base N qual (defScope st) f cdv A outer s H E).nox (defBody st) t∧t { nx:=fun _ H'=>Q .non H',rt:=Q } (start N vs) H):FnOk P w K mg base CX0 (k+1) f fd ps sp:=by
 obtain ⟨oc,od,kV,doc,pm,an,cdv,ct,osl,rfl,lk,hcd⟩:=F.ex
 refine fn_of lk hcd S len fun A outer s H vs Q E hr hsp=>?_
 obtain ⟨t,h,q⟩:=hbody cdv A outer s H vs Q E hr hsp
 exact ⟨t,h.nox,q⟩
theorem Fun.binds {x qual:Str} {st:Stmt} {f:Addr} {fd:FuncData} {ps:List Str} (F:Fun K x qual st f fd)
  (h : ∀ (kV doc pm:Value) (an:Option Addr) (cdv ct:Value) (us:List Value),us.length=ps.length→bindArgs (W.fnOf x qual (defArgs st) (defBody st) (defScope st) .none kV doc pm an cdv ct) ⟨us,[]⟩=pure (ps.zip us)):Binds K fd ps []:=by
 obtain ⟨oc,od,kV,doc,pm,an,cdv,ct,osl,rfl,lk,hcd⟩:=F.ex
 exact .all (h kV doc pm an cdv ct)
theorem fun_mk {x qual:Str} {st:Stmt} {f:Addr} {oc:Value} {od an:Option Addr} {osl:Array (Option Value)} {kV doc pm cdv ct:Value} (l:K.lookup f=some ⟨oc,od,.func (W.fnOf x qual (defArgs st) (defBody st) (defScope st) .none kV doc pm an cdv ct),osl⟩)
  (c:W.codeIn K cdv qual=true) (k:W.keepIn K (.ref f)=true):Fun K x qual st f (W.fnOf x qual (defArgs st) (defBody st) (defScope st) .none kV doc pm an cdv ct):=⟨⟨oc,od,kV,doc,pm,an,cdv,ct,osl,rfl,l,c⟩,k⟩
end
theorem hu_of {A:Around} {k:Nat} (hr:Room k A):A.units+1 < cLine:=Nat.lt_of_le_of_lt (Nat.add_le_add_left (by decide:1≤64) _) hr.units
theorem small1000 {n:Nat} (h:n≤1000):n < sizeLine:=Nat.lt_of_le_of_lt h (by decide)
section
variable {X : Cx}
theorem pv (i:Nat) {x:Str} {pos:Pos} (hN:X.N[i]? = some x:=by rfl) (hv:Vis X.env.scope x:=by first | exact Or.inl rfl | exact Or.inr (Or.inl rfl) | exact Or.inr (Or.inr rfl)) (hd:(x == ("__debug__" : Str))=false:=by decide)
  (hcd:(x == ("__classdict__" : Str))=false:=by decide):PE X (.Name x pos) (tVar i):=pe_var hN hv hd hcd
end
theorem iteF {A B:Prop} (h:B):if false=true then A else B:=by
 rw [if_neg Bool.false_ne_true]
 exact h
theorem iteT {A B:Prop} (h:A):if true=true then A else B:=by
 rw [if_pos rfl]
 exact h
def Same (H H':Hp):Prop:=∀ b o,H b=some o→H' b=some o
theorem Same.refl (H:Hp):Same H H:=fun _ _ h=>h
theorem Same.trans {H H1 H2:Hp} (a:Same H H1) (b:Same H1 H2):Same H H2:=fun c o h=>b c o (a c o h)
theorem Same.free {H H' : Hp} (e : Same H H') {l : Addr} (h : H' l = Option.none) : H l = Option.none := by
  cases q : H l with
  | none => rfl
  | some o =>
    rw [e l o q] at h
    cases h
theorem Same.seq {K:W.Frag} {H H':Hp} {a:Addr} {xs:List V} (e:Same H H') (h:SqL K H a xs):SqL K H' a xs:=by
 rcases h with (h | ⟨o,h⟩) | h
 ·exact .inl (.inl (e _ _ h))
 ·exact .inl (.inr ⟨o,e _ _ h⟩)
 ·exact .inr h
set_option maxHeartbeats 4000000
abbrev GL:Int:=100000000000000000000000000000000000000000000000000000000000000000000000000000000000000000000000000000000000000000000000000000000000000000000000000000000000000000000000000000000000000000000000000000000
theorem bits_GL {k:Int} (h1 : -GL < k) (h2:k < GL):Builtin.Int.intBits k≤1000:=by
 unfold Builtin.Int.intBits
 split
 ·exact Nat.zero_le _
 ·have hn:k.natAbs < 100000000000000000000000000000000000000000000000000000000000000000000000000000000000000000000000000000000000000000000000000000000000000000000000000000000000000000000000000000000000000000000000000000000:=by
   unfold GL at h1 h2;omega
  have hp:(100000000000000000000000000000000000000000000000000000000000000000000000000000000000000000000000000000000000000000000000000000000000000000000000000000000000000000000000000000000000000000000000000000000:Nat)≤2 ^ 999:=by decide +kernel
  have:k.natAbs.log2 < 999:=by
   rcases Nat.eq_zero_or_pos k.natAbs with h0 | hp'
   ·rw [h0];decide
   ·exact (Nat.log2_lt (Nat.ne_of_gt hp')).mpr (Nat.lt_of_lt_of_le hn hp)
  omega
def CMulB (i j:Int):Prop:=(-GL < i∧i < GL)∧(-GL < j∧j < GL)
theorem CMulB.ok {i j:Int} (h:CMulB i j):IntMulOk i j:=PySem.IntMulOk.of_le (bits_GL h.1.1 h.1.2) (bits_GL h.2.1 h.2.2) (by decide)
def CMulA (i j:Int):Prop:=CMul i j∨CMulB i j
def CDivB (i j:Int):Prop:=0 < j∧j < GL
def CDivS (i j:Int):Prop:=j≠0 ∧ -GL < j∧j < GL
theorem noPy {i j:Int} (h1 : -GL < j) (h2:j < GL):Builtin.divisionGoesByPylong i j=false:=by
 refine PyProof.noPylong_of_log2 ?_
 have hn:j.natAbs < 100000000000000000000000000000000000000000000000000000000000000000000000000000000000000000000000000000000000000000000000000000000000000000000000000000000000000000000000000000000000000000000000000000000:=by
  unfold GL at h1 h2;omega
 have hp:(100000000000000000000000000000000000000000000000000000000000000000000000000000000000000000000000000000000000000000000000000000000000000000000000000000000000000000000000000000000000000000000000000000000:Nat)≤2 ^ 999:=by decide +kernel
 have:j.natAbs.log2 < 999:=by
  rcases Nat.eq_zero_or_pos j.natAbs with h0 | hp'
  ·rw [h0];decide
  ·exact (Nat.log2_lt (Nat.ne_of_gt hp')).mpr (Nat.lt_of_lt_of_le hn hp)
 omega
section
variable {X : Cx} {a b : Expr} {ta tb : TE} {pos : Pos}
theorem op_mulA:OpR X (binaryOp .Mult) (rI CMulA fun i j=>.int (i*j)):=opI fun _ _ _ _ _ _ _ hc q=>mul_int q (hc.elim CMul.ok CMulB.ok)
theorem op_fdivB:OpR X (binaryOp .FloorDiv) (rI CDivB fun i j=>.int (i / j)):=opI fun i j _ _ _ _ _ hc q=>by
 have h1:(0:Int) < j:=hc.1
 have h2:=hc.2
 exact floordiv_int (by omega) (by rw [Int.fdiv_eq_ediv_of_nonneg i (by omega)];exact q) (.inl (noPy (by unfold GL;omega) h2))
theorem pe_powK {i j k:Int} {n1 n2:Nat} {p1 p2:Pos} (hc:CPow i j) (e:i ^ j.toNat=k):PE X (.BinOp (.Constant (.int i) n1 p1) .Pow (.Constant (.int j) n2 p2) pos) (tC (.int k)):=by
 intro pins s σ H Q I h
 refine pe_op op_pow pe_int pe_int pins s σ H Q I ⟨i,j,rfl,rfl,hc,?_⟩
 show Q (.int (i ^ j.toNat)) H
 rw [e];exact h
def clsV:V→Value
 | .ty T=>.type T
 | .ref C=>.ref C
 | _=>.none
def rIsi (K:W.Frag):List V→Hp→VK→Prop:=fun xs H Q=>∃ x c t b,xs=[x,c]∧TyOf K H x t∧(∃ T,c = .ty T ∨ ∃ C,c = .ref C)∧W.kitOne K t (clsV c)=some b∧Q (.bl b) H
theorem call_isi:CallR X (.builtin "isinstance") (rIsi X.K):=by
 intro pins s σ H xs us Q I r h
 obtain ⟨x,c,t,b,rfl,ty,hc,e,q⟩:=h
 obtain ⟨v,w,rfl,rx,rw'⟩:=vals2 r
 have:w=clsV c:=by
  obtain ⟨T,rfl | ⟨C,rfl⟩⟩:=hc
  ·exact rw'
  ·exact rw'
 subst this
 exact isinst_ok I rx ty e fun tk=>⟨.bl b,H,I.tok _,rfl,q⟩
def eqVs (xs ys:List V):Bool:=(List.range (min xs.length ys.length)).all (fun j=>eqV (xs.getD j .non) (ys.getD j .non)) && xs.length == ys.length
theorem Vals.getD : ∀ {xs:List V} {us:List Value} (j:Nat) (h:j < us.length),Vals xs us→RelV (xs.getD j .non) us[j]
 | _,_,j,h,.nil=>absurd h (Nat.not_lt_zero _)
 | _,_,0,_,.cons r _=>r
 | _,_,j+1,h,.cons _ t=>Vals.getD j (Nat.lt_of_succ_lt_succ h) t
theorem flat_getD : ∀ {xs:List V} (j:Nat),xs.all flatV=true→flatV (xs.getD j .non)=true
 | [],j,_=>by simp [flatV]
 | x::xs,0,h=>by rw [List.all_cons,Bool.and_eq_true] at h;exact h.1
 | x::xs,j+1,h=>by rw [List.all_cons,Bool.and_eq_true] at h;simpa using flat_getD (xs:=xs) j h.2
def rEqT (K:W.Frag):R2:=fun x y H Q=>∃ p q xs ys,x = .ref p∧y = .ref q∧SqT K H p xs∧SqT K H q ys∧xs.all flatV=true∧ys.all flatV=true∧Q (.bl (eqVs xs ys)) H
theorem op_eqT (hu:X.A.units < cLine):OpR X (compareOp .Eq) (rEqT X.K):=by
 intro pins s σ H x y v u Q I rx ry h
 obtain ⟨p,q,xs,ys,rfl,rfl,hx,hy,fx,fy,k⟩:=h
 cases rx;cases ry
 obtain ⟨its,r,pl,hz⟩:=I.tuple hx
 obtain ⟨its2,r2,pl2,hz2⟩:=I.tuple hy
 refine SeqAt.eq_tupleAt (e:=fun j=>eqV (xs.getD j .non) (ys.getD j .non)) pl pl2 hu (fun j h1 h2=>?_) ⟨.bl _,H,I,rfl,?_⟩
 ·exact eqAt_V (by simpa using Vals.getD j (by simpa using h1) r) (by simpa using Vals.getD j (by simpa using h2) r2) (flat_getD j fx) (flat_getD j fy)
 ·have e1:its.toArray.size=xs.length:=by simp [r.length]
  have e2:its2.toArray.size=ys.length:=by simp [r2.length]
  rw [e1,e2]
  exact k
theorem eqVs_pair (a b c d:Int):eqVs [.int a,.int b] [.int c,.int d]=(decide (a=c) && decide (b=d)):=by
 unfold eqVs
 simp [List.range,List.range.loop,eqV]
 rw [Bool.eq_iff_iff]
 simp [and_comm]
end
def Has (P:Program) (w:World) (K:W.Frag) (mg:Str→Option Value) (base:Heap) (x:Str) (k:Nat) (ps:List Str) (sp:Sp):Prop:=
 ∃ (f:Addr) (fd:FuncData),FnOk P w K mg base CX0 k f fd ps sp∧mg x=some (.ref f)∧W.keepIn K (.ref f)=true∧Binds K fd ps []
theorem pe_callH {X:Cx} {x:Str} {k n:Nat} {ps:List Str} {sp:Sp} {p pos:Pos} {e:Expr} {es:List Expr} {t:TA} (F:Has X.prog X.w X.K X.mg X.base x k ps sp) (hr:Room n X.A) (hg:Gl X x) (ha:PA X (e::es) t) (hk:k≤n:=by decide)
  (hdb:(x == ("__debug__" : Str))=false:=by decide) (he:starEach (e::es) X.env=(false,eval e X.env)::starEach es X.env:=by rfl) (hpl:(backTo pos (starEach es X.env)).any (·.1)=false:=by rfl) :
  PE X (.Call (.Name x p) (e::es) [] pos) (tCall sp [] E0 t):=by
 obtain ⟨f,fd,G,hm,kp,hb⟩:=F
 exact pe_call G (hr.mono hk) hg hm kp hb .nil pass0 ha hdb he hpl
theorem pe_callBH {X:Cx} {x:Str} {id:String} {p pos:Pos} {e:Expr} {es:List Expr} {t:TA} {r:List V→Hp→VK→Prop} (hc:CallR X (.builtin id) r) (hm:X.mg x=none) (hg:Gl X x) (hv:bootBuiltins x=some (.builtin id)) (ha:PA X (e::es) t) (hn:x ≠ "__name__" := by decide) (hdb:(x == ("__debug__" : Str))=false:=by decide)
  (he:starEach (e::es) X.env=(false,eval e X.env)::starEach es X.env:=by rfl) (hpl:(backTo pos (starEach es X.env)).any (·.1)=false:=by rfl):PE X (.Call (.Name x p) (e::es) [] pos) (tCB r t):=
 pe_callB hc hg hm hv ha hn hdb he hpl
theorem same_new {H:Hp} {p:Addr} (h:H p=none) (o:HO):Same H (upd H p o):=fun b u q=>by rw [upd_ne (ne_of_none q h)];exact q
theorem Same.at {H H':Hp} (g:Same H H') {b:Addr} {o:HO} (h:H b=some o):H' b=some o:=g b o h
theorem small {n:Nat} (h:n≤1000):n≤sizeLine:=Nat.le_of_lt (small1000 h)
section
variable {σ : St} {H : Hp} {Q : VK} {D : Ends} {K : W.Frag}
theorem r_var {i:Nat} {v:V} (e:σ[i]? = some (some v)) (h:Q v H):tVar i σ H Q:=⟨v,e,h⟩
theorem r_c {v:V} (h:Q v H):tC v σ H Q:=h
theorem r_op {r:R2} {ta tb:TE} (h:ta σ H fun x H1=>tb σ H1 fun y H2=>r x y H2 Q):tOp r ta tb σ H Q:=h
theorem r_un {r:V→Hp→VK→Prop} {ta:TE} (h:ta σ H fun x H1=>r x H1 Q):tUn r ta σ H Q:=h
theorem r_I {C:Int→Int→Prop} {g:Int→Int→V} {i j:Int} (hc:C i j) (h:Q (g i j) H):rI C g (.int i) (.int j) H Q:=⟨i,j,rfl,rfl,hc,h⟩
theorem r_I0 {g:Int→Int→V} {i j:Int} (h:Q (g i j) H):rI0 g (.int i) (.int j) H Q:=⟨i,j,rfl,rfl,h⟩
theorem r_U {g:Int→V} {i:Int} (h:Q (g i) H):rU g (.int i) H Q:=⟨i,rfl,h⟩
theorem r_eqI {i j:Int} (h:Q (.bl (decide (i=j))) H):rEq (.int i) (.int j) H Q:=⟨rfl,by rw [show decide (V.int i=V.int j)=decide (i=j) by by_cases e:i=j <;> simp [e]];exact h⟩
theorem r_neI {i j:Int} (h:Q (.bl (!decide (i=j))) H):rNe (.int i) (.int j) H Q:=⟨rfl,by rw [show decide (V.int i=V.int j)=decide (i=j) by by_cases e:i=j <;> simp [e]];exact h⟩
theorem r_eqS {x y:Str} {b:Bool} (e:decide (x=y)=b) (h:Q (.bl b) H):rEq (.str x) (.str y) H Q:=⟨rfl,by rw [show decide (V.str x=V.str y)=decide (x=y) by by_cases e:x=y <;> simp [e],e];exact h⟩
theorem r_ne {x y:V} (hs:scal x y=true) (h:Q (.bl (!decide (x=y))) H):rNe x y H Q:=⟨hs,h⟩
theorem r_test {t:TE} {R:Bool→Hp→Prop} (h:t σ H fun x H'=>∃ k,x = .bl k∧R k H'):tTest t σ H R:=h
theorem r_tB {t:TE} {R:Bool→Hp→Prop} (h:t σ H fun x H'=>∃ k,x = .bl k∧R k H'):tB t σ H R:=h
theorem r_exbl {b:Bool} {R:Bool→Prop} (h:R b) : ∃ k,V.bl b = .bl k∧R k:=⟨b,rfl,h⟩
theorem r_and {t u:TT} {R:Bool→Hp→Prop} (h:t σ H fun c H1=>if c=true then u σ H1 R else R false H1):tAnd t u σ H R:=h
theorem r_or {t u:TT} {R:Bool→Hp→Prop} (h:t σ H fun c H1=>if c=true then R true H1 else u σ H1 R):tOr t u σ H R:=h
theorem r_not {t:TT} {R:Bool→Hp→Prop} (h:t σ H fun c H1=>R (!c) H1):tNot t σ H R:=h
theorem r_andV {ta tb:TE} (h:ta σ H fun x H1=>∃ c,x = .bl c∧if c=true then tb σ H1 Q else Q (.bl false) H1):tAndV ta tb σ H Q:=h
theorem r_orV {ta tb:TE} (h:ta σ H fun x H1=>∃ c,x = .bl c∧if c=true then Q (.bl true) H1 else tb σ H1 Q):tOrV ta tb σ H Q:=h
theorem r_notV {ta:TE} (h:ta σ H fun x H1=>∃ c,x = .bl c∧Q (.bl (!c)) H1):tNotV ta σ H Q:=h
theorem r_seq {t u:TS} (h:t { D with nx:=u D } σ H):tSeq t u D σ H:=h
theorem r_next (h:D.nx σ H):tNext D σ H:=h
theorem r_asg {te:TE} {g:TG} (h:te σ H fun x H1=>g x σ H1 D.nx):tAsg te g D σ H:=h
theorem r_name {i:Nat} {v:V} {R:St→Hp→Prop} (h:R (σ.set i (some v)) H):gName i v σ H R:=h
theorem r_ret {te:TE} (h:te σ H D.rt):tRet te D σ H:=h
theorem r_drop {te:TE} (h:te σ H fun _ H1=>D.nx σ H1):tDrop te D σ H:=h
theorem r_ifS {c:TT} {t u:TS} (h:c σ H fun b H1=>if b=true then t D σ H1 else u D σ H1):tIfS c t u D σ H:=h
theorem r_nil {R:List V→Hp→Prop} (h:R [] H):tNil σ H R:=h
theorem r_cons {ta:TE} {tr:TA} {R:List V→Hp→Prop} (h:ta σ H fun x H1=>tr σ H1 fun xs H2=>R (x::xs) H2):tCons ta tr σ H R:=h
theorem r_call {sp:Sp} {dvs:List V} {E:XK} {t:TA} (h:t σ H fun vs H1=>sp (vs++dvs) H1 Q E):tCall sp dvs E t σ H Q:=h
theorem r_cb {r:List V→Hp→VK→Prop} {t:TA} (h:t σ H fun vs H1=>r vs H1 Q):tCB r t σ H Q:=h
def kTup (Q:VK) (xs:List V) (H:Hp):Prop:=xs.length≤sizeLine ∧ ∀ p,H p=none→Q (.ref p) (upd H p (.tup xs))
def kLst (Q:VK) (xs:List V) (H:Hp):Prop:=xs.length≤sizeLine ∧ ∀ p,H p=none→Q (.ref p) (upd H p (.lst xs))
theorem r_tup {t:TA} (h:t σ H (kTup Q)):tTup t σ H Q:=h
theorem r_lst {t:TA} (h:t σ H (kLst Q)):tLst t σ H Q:=h
theorem r_kTup {xs:List V} (hz:xs.length≤sizeLine) (h : ∀ p H',Same H H'→H' p=some (.tup xs)→Q (.ref p) H'):kTup Q xs H:=⟨hz,fun p hp=>h p _ (same_new hp _) upd_same⟩
theorem r_kLst {xs:List V} (hz:xs.length≤sizeLine) (h : ∀ p H',Same H H'→H' p=some (.lst xs)→Q (.ref p) H'):kLst Q xs H:=⟨hz,fun p hp=>h p _ (same_new hp _) upd_same⟩
theorem r_ixT {p:Addr} {xs:List V} {i:Int} {v:V} (h:H p=some (.tup xs)) (e:atI xs i=some v) (q:Q v H):rIxT K (.ref p) (.int i) H Q:=⟨p,xs,i,v,rfl,rfl,SqT.of h,e,q⟩
theorem r_ixL {p:Addr} {xs:List V} {i:Int} {v:V} (h:SqL K H p xs) (e:atI xs i=some v) (q:Q v H):rIxL K (.ref p) (.int i) H Q:=⟨p,xs,i,v,rfl,rfl,h,e,q⟩
theorem r_isi {x c:V} {t:Value} {b:Bool} (ty:TyOf K H x t) (hc : ∃ T,c = .ty T ∨ ∃ C,c = .ref C) (e:W.kitOne K t (clsV c)=some b) (q:Q (.bl b) H):rIsi K [x,c] H Q:=⟨x,c,t,b,rfl,ty,hc,e,q⟩
theorem r_eqT {p q:Addr} {xs ys:List V} (h1:H p=some (.tup xs)) (h2:H q=some (.tup ys)) (f1:xs.all flatV=true) (f2:ys.all flatV=true) (k:Q (.bl (eqVs xs ys)) H):rEqT K (.ref p) (.ref q) H Q:=⟨p,q,xs,ys,rfl,rfl,SqT.of h1,SqT.of h2,f1,f2,k⟩
end
def CPos (_ j:Int):Prop:=0 < j
def CNn (_ j:Int):Prop:=0≤j
def CNz (_ j:Int):Prop:=j≠0
theorem op_modP {X:Cx}:OpR X (binaryOp .Mod) (rI CPos fun i j=>.int (i % j)):=op_mod
theorem op_shrP {X:Cx}:OpR X (binaryOp .RShift) (rI CNn fun i j=>.int (i / 2 ^ j.toNat)):=op_shr
section
variable {σ : St} {H : Hp} {Q : VK} {D : Ends} {K : W.Frag}
theorem r_par {i j:Nat} {ta:TA} (h:ta σ H fun vs H1=>∃ v w,vs=[v,w]∧D.nx ((σ.set i (some v)).set j (some w)) H1):tPar i j ta D σ H:=h
theorem r_two {v w:V} {R:V→V→Prop} (h:R v w) : ∃ v' w',[v,w]=[v',w']∧R v' w':=⟨v,w,rfl,h⟩
theorem r_exN {W:Nat→St→Hp→Prop} {m:Nat} {tb:TS} (h:tb { D with nx:=fun σ' H'=>∃ m',m' < m∧W m' σ' H',ct:=fun σ' H'=>∃ m',m' < m∧W m' σ' H',bk:=D.nx } σ H) :
  ∃ N:St→Hp→Prop,(∀ σ' H',N σ' H' → ∃ m',m' < m∧W m' σ' H')∧tb { D with nx:=N,ct:=N,bk:=D.nx } σ H:=⟨_,fun _ _ h=>h,h⟩
theorem r_while {c:TT} {tb:TS} (W:Nat→St→Hp→Prop) (h0 : ∃ m,W m σ H) (hs : ∀ m σ H,W m σ H→c σ H fun b H1=>if b=true then ∃ N:St→Hp→Prop,(∀ σ' H',N σ' H' → ∃ m',m' < m∧W m' σ' H')∧tb { D with nx:=N,ct:=N,bk:=D.nx } σ H1 else D.nx σ H1):tWhile c tb D σ H:=⟨W,h0,hs⟩
def kForR (g:TG) (tb:TS) (D:Ends) (σ:St) (vs:List V) (H:Hp):Prop:=∃ j:Int,vs=[.int j] ∧ -(2 ^ 62)≤j∧j < 2 ^ 62 ∧ ∃ W:Nat→Nat→St→Hp→Prop,(∃ m,W 0 m σ H) ∧ ∀ i m σ H,W i m σ H →
 ((Itr 0 j.toNat).stop i H∧D.nx σ H)∨((Itr 0 j.toNat).go i H ∧ ∃ N:St→Hp→Prop,(∀ σ' H',N σ' H' → ∃ m',m' < m∧W (i+1) m' σ' H') ∧ ∀ x H',(Itr 0 j.toNat).yld i H x H'→g x σ H' fun σ2 H2=>tb { D with nx:=N,ct:=N,bk:=D.nx } σ2 H2)
theorem r_forR {ta:TA} {g:TG} {tb:TS} (h:ta σ H (kForR g tb D σ)):tFor (iRng1 ta) g tb D σ H:=h
theorem r_kForR {g:TG} {tb:TS} {j:Int} (h1 : -(2 ^ 62)≤j) (h2:j < 2 ^ 62) (Pv:Nat→St→Hp→Prop) (h0:Pv 0 σ H)
  (hs : ∀ i σ H,i < j.toNat→Pv i σ H→g (.int (0+i)) σ H fun σ2 H2=>tb { D with nx:=Pv (i+1),ct:=Pv (i+1),bk:=D.nx } σ2 H2) (hd : ∀ σ H,Pv j.toNat σ H→D.nx σ H):kForR g tb D σ [.int j] H:=⟨j,rfl,h1,h2,for_range Pv h0 hs hd⟩
theorem r_gTup {n:Nat} {t:TGs} {a:Addr} {xs:List V} {R:St→Hp→Prop} (h:H a=some (.tup xs)) (hn:xs.length=n) (k:t xs σ H R):gTup K n t (.ref a) σ H R:=⟨a,xs,rfl,SqT.of h,hn,k⟩
theorem r_gCons {t:TG} {u:TGs} {v:V} {r:List V} {R:St→Hp→Prop} (h:t v σ H fun σ' H'=>u r σ' H' R):gCons t u (v::r) σ H R:=⟨v,r,rfl,h⟩
theorem r_gNil {R:St→Hp→Prop} (h:R σ H):gNil [] σ H R:=⟨rfl,h⟩
end
theorem hu_lt {A:Around} {k:Nat} (hr:Room k A):A.units < cLine:=Nat.lt_of_succ_lt (hu_of hr)
def rAbs:List V→Hp→VK→Prop:=fun xs H Q=>∃ i,xs=[.int i]∧Q (.int (if i < 0 then -i else i)) H
def rMax2:List V→Hp→VK→Prop:=fun xs H Q=>∃ i j,xs=[.int i,.int j]∧Q (.int (if j > i then j else i)) H
def rMin2:List V→Hp→VK→Prop:=fun xs H Q=>∃ i j,xs=[.int i,.int j]∧Q (.int (if j < i then j else i)) H
def rLenS (K:W.Frag):List V→Hp→VK→Prop:=fun xs H Q=>∃ p ys,xs=[.ref p]∧(SqL K H p ys∨SqT K H p ys)∧Q (.int ys.length) H
section
variable {X : Cx} {H : Hp} {Q : VK} {K : W.Frag}
theorem call_absN:CallR X (.builtin "abs") rAbs:=call_abs
theorem call_max2N (hc:X.calm=true):CallR X (.builtin "max") rMax2:=call_max2 hc
theorem call_min2N (hc:X.calm=true):CallR X (.builtin "min") rMin2:=call_min2 hc
theorem call_lenN:CallR X (.builtin "len") (rLenS X.K):=call_len_seq
theorem r_absA {i:Int} (h : ∀ k:Int,(0≤i∧k=i)∨(i < 0∧k = -i)→Q (.int k) H):rAbs [.int i] H Q:=⟨i,rfl,h _ (by split <;> omega)⟩
theorem r_max2A {i j:Int} (h : ∀ k:Int,(i < j∧k=j)∨(j≤i∧k=i)→Q (.int k) H):rMax2 [.int i,.int j] H Q:=⟨i,j,rfl,h _ (by split <;> omega)⟩
theorem r_min2A {i j:Int} (h : ∀ k:Int,(j < i∧k=j)∨(i≤j∧k=i)→Q (.int k) H):rMin2 [.int i,.int j] H Q:=⟨i,j,rfl,h _ (by split <;> omega)⟩
theorem r_lenT2 {p:Addr} {a b:V} (h:H p=some (.tup [a,b])) (q:Q (.int 2) H):rLenS K [.ref p] H Q:=⟨p,[a,b],rfl,.inr (SqT.of h),q⟩
theorem r_lenL {p:Addr} {ys:List V} (h:SqL K H p ys) (q:Q (.int ys.length) H):rLenS K [.ref p] H Q:=⟨p,ys,rfl,.inl h,q⟩
end
theorem bo_int:bootBuiltins "int" = some (.type "int"):=by decide +kernel
theorem bo_bool:bootBuiltins "bool" = some (.type "bool"):=by decide +kernel
theorem bo_tuple:bootBuiltins "tuple" = some (.type "tuple"):=by decide +kernel
theorem bo_list:bootBuiltins "list" = some (.type "list"):=by decide +kernel
theorem bo_isinstance:bootBuiltins "isinstance" = some (.builtin "isinstance"):=by decide +kernel
theorem bo_abs:bootBuiltins "abs" = some (.builtin "abs"):=by decide +kernel
theorem bo_max:bootBuiltins "max" = some (.builtin "max"):=by decide +kernel
theorem bo_min:bootBuiltins "min" = some (.builtin "min"):=by decide +kernel
theorem bo_len:bootBuiltins "len" = some (.builtin "len"):=by decide +kernel
def kitC (T T':String):Option Bool:=if (Value.type T == Value.type T')=true then some true else if W.kitMeta T'=true then (fastBuiltinMro T).map (·.contains (Value.type T')) else none
theorem kit_ty (K:W.Frag) (T T':String) {b:Bool} (h:kitC T T'=some b):W.kitOne K (.type T) (.type T')=some b:=h
theorem kit_int_int (K:W.Frag):W.kitOne K (.type "int") (.type "int")=some true:=kit_ty K _ _ (by decide +kernel)
theorem kit_int_bool (K:W.Frag):W.kitOne K (.type "int") (.type "bool")=some false:=kit_ty K _ _ (by decide +kernel)
theorem kit_bool_int (K:W.Frag):W.kitOne K (.type "bool") (.type "int")=some true:=kit_ty K _ _ (by decide +kernel)
theorem kit_tuple_tuple (K:W.Frag):W.kitOne K (.type "tuple") (.type "tuple")=some true:=kit_ty K _ _ (by decide +kernel)
theorem kit_str_int (K:W.Frag):W.kitOne K (.type "str") (.type "int")=some false:=kit_ty K _ _ (by decide +kernel)
theorem kit_list_int (K:W.Frag):W.kitOne K (.type "list") (.type "int")=some false:=kit_ty K _ _ (by decide +kernel)
theorem kit_tuple_int (K:W.Frag):W.kitOne K (.type "tuple") (.type "int")=some false:=kit_ty K _ _ (by decide +kernel)
theorem kit_NoneType_int (K:W.Frag):W.kitOne K (.type "NoneType") (.type "int")=some false:=kit_ty K _ _ (by decide +kernel)
theorem kit_dict_int (K:W.Frag):W.kitOne K (.type "dict") (.type "int")=some false:=kit_ty K _ _ (by decide +kernel)
section
variable {H : Hp} {Q : VK} {K : W.Frag}
theorem r_isi_ii {i:Int} (q:Q (.bl true) H):rIsi K [.int i,.ty "int"] H Q:=r_isi (.int i) ⟨_,.inl rfl⟩ (kit_int_int K) q
theorem r_isi_ib {i:Int} (q:Q (.bl false) H):rIsi K [.int i,.ty "bool"] H Q:=r_isi (.int i) ⟨_,.inl rfl⟩ (kit_int_bool K) q
theorem r_isi_tt {p:Addr} {xs:List V} (h:H p=some (.tup xs)) (q:Q (.bl true) H):rIsi K [.ref p,.ty "tuple"] H Q:=r_isi (.tup h) ⟨_,.inl rfl⟩ (kit_tuple_tuple K) q
end
theorem i_d {c:Prop} [Decidable c] {A B:Prop} (h1:c→A) (h2 : ¬ c→B):if decide c=true then A else B:=by
 by_cases h:c
 ·rw [if_pos (decide_eq_true h)];exact h1 h
 ·rw [if_neg (by rw [decide_eq_false h];decide)];exact h2 h
theorem i_nd {c:Prop} [Decidable c] {A B:Prop} (h1:c→B) (h2 : ¬ c→A):if (!decide c)=true then A else B:=by
 by_cases h:c
 ·rw [decide_eq_true h];exact h1 h
 ·rw [decide_eq_false h];exact h2 h
theorem i_dP {c:Prop} [Decidable c] {A B:Prop} (h:c) (h1:A):if decide c=true then A else B:=i_d (fun _=>h1) (fun n=>absurd h n)
theorem i_dN {c:Prop} [Decidable c] {A B:Prop} (h : ¬ c) (h1:B):if decide c=true then A else B:=i_d (fun n=>absurd n h) (fun _=>h1)
theorem i_ndP {c:Prop} [Decidable c] {A B:Prop} (h:c) (h1:B):if (!decide c)=true then A else B:=i_nd (fun _=>h1) (fun n=>absurd h n)
theorem i_b {b:Bool} {A B:Prop} (h1:b=true→A) (h2:b=false→B):if b=true then A else B:=by
 cases b with
 | true=>rw [if_pos rfl];exact h1 rfl
 | false=>rw [if_neg (by decide)];exact h2 rfl
theorem i_nT {A B:Prop} (h:B):if (!true)=true then A else B:=h
def cxComp (X:Cx) (scope:Scope) (cl:List (Str × Addr)) (N':List Str) (C:Addr) (s₂:Shared) (H₂:Hp) (fp:List Addr):Cx where
 prog:=X.prog
 w:=X.w
 K:=X.K
 mg:=X.mg
 base:=X.base
 A:=X.A
 N:=N'
 s₀:=s₂
 H₀:=H₂
 env:=compEnvC scope cl C X.env
 outer:=X.stack
 stack:=X.stack
 ex:=fp
 calm:=X.calm
 fn:=fun _=>false
 pn:=[]
 xe:=fun _ _=>False
def ClOk (cells:List (Str × Addr)):List (Str × Addr)→Prop
 | []=>True
 | p::r=>cells.lookup p.1=some p.2∧ClOk cells r
theorem ClOk.look {cells : List (Str × Addr)} : ∀ {cl : List (Str × Addr)} {x : Str} {c : Addr}, ClOk cells cl → cl.lookup x = some c → cells.lookup x = some c
  | [], _, _, _, h => by simp at h
  | (y, d) :: r, x, c, ⟨h1, h2⟩, h => by
    rw [List.lookup_cons] at h
    cases e : x == y with
    | true =>
      rw [e] at h
      have e' : x = y := eq_of_beq e
      cases h
      rw [e']; exact h1
    | false =>
      rw [e] at h
      exact ClOk.look h2 h
def FrOk (X:Cx) (scope:Scope):List Str→List Nat→Prop
 | [],[]=>True
 | y::r,j::js=>(X.N[j]? = some y∧scope.names.lookup y=some .free∧(X.env.kindOf y=some .cell∨X.env.kindOf y=some .free))∧FrOk X scope r js
 | _,_=>False
theorem FrOk.get {X : Cx} {scope : Scope} : ∀ {fr : List Str} {js : List Nat} {k : Nat} {y : Str}, FrOk X scope fr js → fr[k]? = some y → ∃ j, js[k]? = some j ∧ X.N[j]? = some y ∧ scope.names.lookup y = some .free ∧ (X.env.kindOf y = some .cell ∨ X.env.kindOf y = some .free)
  | [], _, _, _, _, h => by simp at h
  | _ :: _, [], _, _, h, _ => h.elim
  | y :: r, j :: js, 0, z, ⟨h1, _⟩, h => by simp at h; subst h; exact ⟨j, rfl, h1⟩
  | y :: r, j :: js, k + 1, z, ⟨_, h2⟩, h => by
    obtain ⟨j', e, q⟩ := FrOk.get (k := k) h2 (by simpa using h)
    exact ⟨j', by simpa using e, q⟩
theorem FrOk.len {X:Cx} {scope:Scope} : ∀ {fr:List Str} {js:List Nat},FrOk X scope fr js→fr.length=js.length
 | [],[],_=>rfl
 | [],_::_,h=>h.elim
 | _::_,[],h=>h.elim
 | _::r,_::js,h=>by rw [List.length_cons,List.length_cons,FrOk.len h.2]
theorem relabel_look {env : Env} : ∀ {names : List (Str × NameKind)} {x : Str}, (∀ y ∈ names, y.2 ≠ .cell) →
    ((names.map fun (n, k) => if (k == NameKind.free && env.scope.kind == .function && env.kindOf n == some .cell) then (n, NameKind.cell) else (n, k)).lookup x = some .cell ∨
     (names.map fun (n, k) => if (k == NameKind.free && env.scope.kind == .function && env.kindOf n == some .cell) then (n, NameKind.cell) else (n, k)).lookup x = some .free) → names.lookup x = some .free
  | [], _, _, h => by simp at h
  | (n, k) :: r, x, hc, h => by
    have ih := @relabel_look env r x (fun y hy => hc y (List.mem_cons_of_mem _ hy))
    rw [List.map_cons] at h
    dsimp only at h
    by_cases hb : (k == NameKind.free && env.scope.kind == .function && env.kindOf n == some .cell) = true
    · rw [if_pos hb] at h
      rw [List.lookup_cons] at h
      rw [List.lookup_cons]
      cases e : x == n with
      | true =>
        have : k = .free := by simp at hb; exact hb.1.1
        rw [this]
      | false =>
        rw [e] at h
        exact ih h
    · rw [if_neg hb] at h
      rw [List.lookup_cons] at h
      rw [List.lookup_cons]
      cases e : x == n with
      | true =>
        rw [e] at h
        have hk : k ≠ .cell := hc (n, k) List.mem_cons_self
        rcases h with h | h
        · exact absurd (Option.some.inj h) hk
        · exact h
      | false =>
        rw [e] at h
        exact ih h
theorem relabel_free {env : Env} (hk : env.scope.kind = .function) {x : Str} : ∀ {names : List (Str × NameKind)}, names.lookup x = some .free → (env.kindOf x = some .cell ∨ env.kindOf x = some .free) →
    ((names.map fun (n, k) => if (k == NameKind.free && env.scope.kind == .function && env.kindOf n == some .cell) then (n, NameKind.cell) else (n, k)).lookup x = some .cell ∨
     (names.map fun (n, k) => if (k == NameKind.free && env.scope.kind == .function && env.kindOf n == some .cell) then (n, NameKind.cell) else (n, k)).lookup x = some .free)
  | [], h, _ => by simp at h
  | (n, k) :: r, h, hx => by
    have ih := @relabel_free env hk x r
    rw [List.lookup_cons] at h
    rw [List.map_cons]
    dsimp only
    cases e : x == n with
    | true =>
      rw [e] at h
      have ek : k = .free := Option.some.inj h
      have en : x = n := eq_of_beq e
      subst ek
      rcases hx with hx | hx
      · left
        have hb : ((NameKind.free == NameKind.free) && env.scope.kind == .function && env.kindOf n == some .cell) = true := by rw [← en, hx, hk]; decide
        rw [if_pos hb, List.lookup_cons, e]
      · right
        have hb : ¬ ((NameKind.free == NameKind.free) && env.scope.kind == .function && env.kindOf n == some .cell) = true := by rw [← en, hx, hk]; decide
        rw [if_neg hb, List.lookup_cons, e]
    | false =>
      rw [e] at h
      rcases ih h hx with q | q
      · left
        split <;> rw [List.lookup_cons, e] <;> exact q
      · right
        split <;> rw [List.lookup_cons, e] <;> exact q
section
variable {X : Cx} {pins : List (Addr × Obj)} {σ : St} {H : Hp} {s : Shared}
theorem HOk.track {P:Program} {w:World} {H:Hp} {h:Heap} {a:Addr} {o:HO} (x:HOk P w H h) (hn:H a=none) (new:ObjOk P w (upd H a o) h a o):HOk P w (upd H a o) h:=fun b u e=>by
 by_cases hb:b=a
 ·subst hb;rw [upd_same] at e;cases e;exact new
 ·rw [upd_ne hb] at e
  exact (x b u e).stay (fun c v _ q=>q) (fun c q=>by rw [upd_ne (ne_of_none q hn)];exact q) fun c xs q=>by rw [upd_ne (ne_of_none q hn)];exact q
theorem Inv.track {a:Addr} {o:HO} (I:Inv X pins σ H s) (f:FpOk X pins H a) (new:ObjOk X.prog X.w (upd H a o) s.heap a o):Inv X pins σ (upd H a o) s:=by
 obtain ⟨f0,f1,f2,f3,f4,f5⟩:=f
 have up : ∀ b,H b=none→b≠a→upd H a o b=none:=fun b e n=>by rw [upd_ne n];exact e
 have st : ∀ {b u},H b=some u→upd H a o b=some u:=fun {b u} e=>by rw [upd_ne (ne_of_none e f0)];exact e
 have na : ∀ b ob,X.s₀.heap.get? b=some ob→b ∉ X.ex→b≠a:=fun b ob e hx z=>by
  rcases f3 with q | q
  ·exact hx (z ▸ q)
  ·exact absurd (Nat.lt_of_lt_of_le (Heap.lt_size e) (z ▸ q)) (Nat.lt_irrefl _)
 refine ⟨I.ok,I.os,I.bare,⟨I.base.keep,I.base.slot,fun b ob e n hx=>up b (I.base.free b ob e n hx) (na b ob e hx),I.base.there,fun b xs e=>st (I.base.tups b xs e),fun b ob u e=>st (I.base.frzs b ob u e),fun b ps e=>?_⟩,I.loc,I.cell,up _ I.free (Ne.symm f1),fun x c e=>up c (I.freeC x c e) (f4 x c e),fun p hp=>?_,I.hok.track f0 new,I.len⟩
 ·obtain ⟨m,q⟩:=I.base.tbls b ps e
  exact ⟨m,st q⟩
 ·obtain ⟨e,n,r⟩:=I.pin p hp
  exact ⟨e,up _ n (f5 p hp),r⟩
end
def PIfs (Y:Cx) (ifs:List Expr) (t:TT):Prop:=
 ∀ (pins:List (Addr × Obj)) (s:Shared) (σ:St) (H:Hp) (R:Bool→Hp→Prop),Inv Y pins σ H s→t σ H R →
  wpAny (model Y.prog Y.w) Y.A (forIn ifs true fun c r=>if r=true then do let ok ← isTrue c Y.env (eval c Y.env);pure (ForInStep.yield ok) else pure (ForInStep.yield r)) (TP Y pins σ R) Y.xe s
def tNoIf:TT:=fun _ H R=>R true H
theorem pifs_nil {Y:Cx}:PIfs Y [] tNoIf:=fun _ _ _ H _ I h=>wpAny_tests_nil ⟨H,I,h⟩
theorem pifs_one {Y:Cx} {c:Expr} {t:TT} (h:PT Y c t):PIfs Y [c] t:=fun pins s σ H R I q=>wpAny_tests_one (h pins s σ H R I q)
def kComp (is : List Nat) (tt : TT) (te : TE) (σ : St) (Q : VK) (J : It) (H1 : Hp) : Prop := ∃ W : Nat → Nat → List V → Hp → Prop, (∃ m, W 0 m [] H1) ∧ ∀ i m ys H, W i m ys H → ys.length ≤ sizeLine ∧
  ((J.stop i H ∧ ∀ p, H p = none → Q (.ref p) (upd H p (.lst ys))) ∨
   (J.go i H ∧ ys.length < sizeLine ∧ ∀ x H', J.yld i H x H' → tt (some x :: is.map fun j => (σ[j]?).getD none) H' fun ok H2 =>
     if ok = true then te (some x :: is.map fun j => (σ[j]?).getD none) H2 fun y H3 => ∃ m', m' < m ∧ W (i + 1) m' (ys ++ [y]) H3 else ∃ m', m' < m ∧ W (i + 1) m' ys H2))
def tComp (is:List Nat) (wi:TI) (tt:TT) (te:TE):TE:=fun σ H Q=>wi σ H fun J H1=>kComp is tt te σ Q J H1
section
variable {X : Cx} {elt iter : Expr} {ifs : List Expr} {x : Str} {px pos : Pos} {scope : Scope} {cl : List (Str × Addr)} {fr : List Str} {is : List Nat} {wi : TI} {tt : TT} {te : TE}
theorem cxComp_ok {pins : List (Addr × Obj)} {σ : St} {H₂ : Hp} {s₂ : Shared} {C : Addr} {fp : List Addr} {N' : List Str} (I : Inv X pins σ H₂ s₂) (hC : s₂.heap.objs.size ≤ C) (hf : ∀ b ∈ fp, FpOk X pins H₂ b) (hfl : ∀ b ∈ fp, b < s₂.heap.objs.size)
    (hcell : ∀ y ∈ scope.names, y.2 ≠ .cell) (hkind : scope.kind = .function) (hcl : ClOk X.env.cells cl) (hfree : (scope.names.all fun p => p.2 != .free || (cl.lookup p.1).isSome) = true) : (cxComp X scope cl N' C s₂ H₂ fp).Ok where
  mod := I.mod
  kind := hkind
  glob := I.ok.glob
  blt := I.ok.blt
  above := hC
  inj := fun x y c h1 h2 => I.ok.inj x y c (hcl.look h1) (hcl.look h2)
  has := fun y h => by
    have h' := relabel_look (env := X.env) hcell h
    have hm : (y, NameKind.free) ∈ scope.names := by
      have aux : ∀ {l : List (Str × NameKind)}, l.lookup y = some .free → (y, NameKind.free) ∈ l := by
        intro l
        induction l with
        | nil => intro z; simp at z
        | cons p r ih =>
          intro z
          obtain ⟨n, k⟩ := p
          rw [List.lookup_cons] at z
          cases e : y == n with
          | true => rw [e] at z; cases z; rw [eq_of_beq e]; exact List.mem_cons_self
          | false => rw [e] at z; exact List.mem_cons_of_mem _ (ih z)
      exact aux h'
    have q : ((NameKind.free != NameKind.free) || (cl.lookup y).isSome) = true := List.all_eq_true.mp hfree _ hm
    have q' : (cl.lookup y).isSome = true := by rw [bne_self_eq_false, Bool.false_or] at q; exact q
    exact Option.isSome_iff_exists.mp q'
  cab := fun _ _ h _ => by cases h
  hd := I.ok.hd
  frames := I.ok.frames
  stk := .inl rfl
  exf := fun b hb => ⟨Nat.ne_of_lt (Nat.lt_of_lt_of_le (hfl b hb) hC), fun y c e => (hf b hb).2.2.2.2.1 y c (hcl.look e)⟩
  bs := I.bs
  bsz := Nat.le_trans I.ok.bsz I.sz
  noex := fun b o e hb => by
    rcases (hf b hb).2.2.2.1 with q | q
    · exact I.ok.noex b o e q
    · exact absurd (Nat.lt_of_lt_of_le (Heap.lt_size e) (Nat.le_trans I.ok.bsz q)) (Nat.lt_irrefl _)
  exfs := fun b hb z => by
    rcases List.mem_cons.mp (I.stkSub b z) with q | q
    · exact (hf b hb).2.1 q
    · exact (hf b hb).2.2.1 q
  funs := I.stack
  frf := I.stkFree
def CompOut (X:Cx) (pins:List (Addr × Obj)) (σ:St) (Q:VK) (acc:Value) (C:Addr) (r:Result) (s':Shared):Prop:=match r with
 | .ok _=>∃ (D:Addr) (H':Hp) (m:Str→Option Value),acc = .ref D∧Inv X pins σ H' s'∧s'.heap.Ns C m∧FpOk X pins H' C∧Q (.ref D) H'
 | .error _=>False
theorem unlet {M:Model} {A:Around} {E:Value→Shared→Prop} {s:Shared} {x:Str} {px:Pos} {it u:Value} {Q1:Unit→Shared→Prop} {α:Type} {t:Sem α} {Q2:α→Shared→Prop} (h:wpAny M A (letOwnedTupleGo (.Name x px) it u) Q1 E s) (k : ∀ s,Q1 () s→wpAny M A t Q2 E s):wpAny M A t Q2 E s:=by
 have z:wpAny M A (letOwnedTupleGo (.Name x px) it u >>= fun _=>t) Q2 E s:=wpAny_bind (thn h fun _ s q=>k s q)
 rw [show letOwnedTupleGo (.Name x px) it u=pure () from rfl,pure_bind] at z
 exact z
theorem comp_core {pins : List (Addr × Obj)} {σ : St} {Q : VK} {E : Value → Shared → Prop} {s₂ : Shared} {H₂ : Hp} {it : Addr} {fp : List Addr} {tn : Nat → Heap → Prop} {J : It}
    (hc : X.calm = true) (hcell : ∀ y ∈ scope.names, y.2 ≠ .cell) (hkind : scope.kind = .function) (hx : scope.names.lookup x = some .local) (hcl : ClOk X.env.cells cl)
    (hfree : (scope.names.all fun p => p.2 != .free || (cl.lookup p.1).isSome) = true) (hfr : FrOk X scope fr is) (hnd : (x :: fr).Nodup)
    (ht : ∀ C s₂ H₂ fp, PIfs (cxComp X scope cl (x :: fr) C s₂ H₂ fp) ifs tt) (he : ∀ C s₂ H₂ fp, PE (cxComp X scope cl (x :: fr) C s₂ H₂ fp) elt te)
    (I : Inv X pins σ H₂ s₂) (T : Turn X.prog X.w X.K (.Name x px) J fp it tn) (st : tn 0 s₂.heap) (hf : ∀ b ∈ fp, FpOk X pins H₂ b) (R : kComp is tt te σ Q J H₂) :
    wpAny (model X.prog X.w) X.A (newList []) (fun acc s₃ => wpAny (model X.prog X.w) X.A (newFunctionEnv scope X.env.globals cl [] X.env.qual none .none (some X.env)) (fun cenv s₄ =>
      codeAny (model X.prog X.w) X.A (.compStart (.ListComp elt [⟨.Name x px, iter, ifs, 0⟩] scope pos) 0 (.ref it) acc { cenv with scope := relabel scope X.env }) (CompOut X pins σ Q acc cenv.locals) s₄) E s₃) E s₂ := by
  obtain ⟨W, ⟨m0, w0⟩, turn⟩ := R
  refine wpAny_newObj_type (wpAny_newFunctionEnv hcell (by intro y hy; simp at hy) (fun h₁ hns₁ hsb₁ => ?_) hkind)
  dsimp only at hns₁ hsb₁ ⊢
  generalize hH2 : s₂.heap.push { cls := .type "list", dict := none, data := .seq ([] : List Value).toArray } = G2 at hns₁ hsb₁ ⊢
  have hC : G2.objs.size = s₂.heap.objs.size + 1 := by rw [← hH2, Heap.size_push]
  have hDC : s₂.heap.objs.size ≠ G2.objs.size := by rw [hC]; exact Nat.ne_of_lt (Nat.lt_succ_self _)
  have below : ∀ b, b < s₂.heap.objs.size → b ≠ G2.objs.size ∧ b ≠ s₂.heap.objs.size := fun b hb => ⟨by rw [hC]; exact Nat.ne_of_lt (Nat.lt_succ_of_lt hb), Nat.ne_of_lt hb⟩
  have hfl : ∀ b ∈ fp, b < s₂.heap.objs.size := fun b hb => by obtain ⟨o, e, _⟩ := T.obj _ _ st b hb; exact Heap.lt_size e
  have old : ∀ b o, s₂.heap.get? b = some o → h₁.get? b = some o := fun b o e => hsb₁.extBut b o (below b (Heap.lt_size e)).1 (Heap.get?_push_of_some _ (hH2 ▸ Heap.get?_push_of_some _ e))
  have hacc : h₁.get? s₂.heap.objs.size = some { cls := .type "list", data := .seq ([] : List Value).toArray 0 } := hsb₁.extBut _ _ hDC (Heap.get?_push_of_some _ (hH2 ▸ Heap.get?_push_size _ rfl))
  have hfresh : ∀ b, s₂.heap.objs.size ≤ b → H₂ b = none := fun b hb => I.hok.fresh hb
  have hCle : s₂.heap.objs.size ≤ G2.objs.size := by rw [hC]; exact Nat.le_succ _
  generalize hCe : G2.objs.size = C at *
  generalize hDe : s₂.heap.objs.size = D at *
  have ok : (cxComp X scope cl (x :: fr) C s₂ H₂ fp).Ok := cxComp_ok I (by rw [hDe]; exact hCle) hf (by rw [hDe]; exact hfl) hcell hkind hcl hfree
  have hYc : (cxComp X scope cl (x :: fr) C s₂ H₂ fp).calm = true := hc
  have hDfp : ∀ b ∈ fp, b ≠ D := fun b hb => Nat.ne_of_lt (hfl b hb)
  have hDst : D ∉ frs X.stack := fun z => by
    rcases List.mem_cons.mp (I.stkSub D z) with q | q
    · have := I.lt; rw [hDe, ← q] at this; exact Nat.lt_irrefl _ this
    · exact I.nofs (by rw [hDe]; exact Nat.le_refl _) q
  have hfY : ∀ {H' : Hp} {its : List Value} {n : Nat}, (∀ b ∈ fp, H' b = none) → ∀ b ∈ fp, FpOk (cxComp X scope cl (x :: fr) C s₂ H₂ fp) [(D, { cls := .type "list", data := .seq its.toArray n })] H' b := fun hn b hb =>
    ⟨hn b hb, (ok.exf b hb).1, ok.exfs b hb, .inl hb, (ok.exf b hb).2, fun p hp => by
      have e : p = (D, { cls := .type "list", data := .seq _ _ }) := List.mem_singleton.mp hp
      rw [e]; exact Ne.symm (hDfp b hb)⟩
  have lenF : (is.map fun j => (σ[j]?).getD none).length = fr.length := by rw [List.length_map, hfr.len]
  have I0 : Inv (cxComp X scope cl (x :: fr) C s₂ H₂ fp) [(D, { cls := .type "list", data := .seq ([] : List Value).toArray 0 })] (none :: is.map fun j => (σ[j]?).getD none) H₂ { s₂ with heap := h₁, toks := s₂.toks + ([] : List (Str × Value)).length } := by
    refine ⟨ok, rfl, I.bare, Un.kept old, ⟨_, hns₁, fun i y v e1 e2 e3 => ?_⟩, fun y c e => ?_, hfresh C hCle, fun y c e => I.freeC y c (hcl.look e), fun p hp => ?_, I.hok.kept old, ?_⟩
    · cases i with
      | zero => cases e2
      | succ k =>
        have e1' : fr[k]? = some y := e1
        have e2' : (is.map fun j => (σ[j]?).getD none)[k]? = some (some v) := e2
        obtain ⟨j, hj, hN, hfy, hkx⟩ := hfr.get e1'
        rw [List.getElem?_map, hj] at e2'
        have e4 : (σ[j]?).getD none = some v := Option.some.inj e2'
        have e5 : σ[j]? = some (some v) := by
          cases q : σ[j]? with
          | none => rw [q] at e4; cases e4
          | some o => rw [q] at e4; have e4' : o = some v := e4; rw [e4']
        obtain ⟨m, hn, hl⟩ := id I.loc
        have hvis : Vis X.env.scope y := hkx.elim (fun q => .inr (.inl q)) fun q => .inr (.inr q)
        obtain ⟨u, r, lk⟩ := hl j y v hN e5 hvis
        refine ⟨u, r, .inr ⟨relabel_free I.ok.kind hfy hkx, ?_⟩⟩
        rcases lk with ⟨kl, _⟩ | ⟨_, c, ec, ic⟩
        · rcases hkx with q | q <;> rw [kl] at q <;> cases q
        · obtain ⟨c', ec'⟩ := ok.has y (relabel_free I.ok.kind hfy hkx)
          have : c' = c := Option.some.inj ((hcl.look ec').symm.trans ec)
          rw [this] at ec'
          obtain ⟨o, ho, hd⟩ := ic
          exact ⟨c, ec', o, old c o ho, hd⟩
    · obtain ⟨v, o, ho, hd⟩ := I.cell y c (hcl.look e)
      exact ⟨v, o, old c o ho, hd⟩
    · have e : p = (D, { cls := .type "list", data := .seq ([] : List Value).toArray 0 }) := List.mem_singleton.mp hp
      rw [e]
      exact ⟨hacc, hfresh D (Nat.le_refl _), hDC, hDst, fun v z => by cases z⟩
    · show (none :: _).length = (x :: fr).length
      rw [List.length_cons, List.length_cons, lenF]
  have loop : ∀ s₃ : Shared, s₃ = { s₂ with heap := h₁, toks := s₂.toks + ([] : List (Str × Value)).length } →
      codeAny (model X.prog X.w) X.A (.compLoop (.ListComp elt [⟨.Name x px, iter, ifs, 0⟩] scope pos) 0 (.ref it) (.ref D) (compEnvC scope cl C X.env)) (CompOut X pins σ Q (.ref D) C) s₃ := by
    rintro s₃ rfl
    refine codeAny_compLoop_tests (fun n s' => ∃ (i : Nat) (o : Option V) (ys : List V) (its : List Value) (k : Nat) (H' : Hp), Inv (cxComp X scope cl (x :: fr) C s₂ H₂ fp) [(D, { cls := .type "list", data := .seq its.toArray k })] (o :: is.map fun j => (σ[j]?).getD none) H' s' ∧
      tn i s'.heap ∧ (∀ b ∈ fp, H' b = none) ∧ Vals ys its ∧ W i n ys H') ?_ m0 ⟨0, none, [], [], 0, H₂, I0, T.keep _ _ _ st fun b _ o e => old b o e, fun b hb => (hf b hb).1, .nil, w0⟩
    rintro n s' ⟨i, o, ys, its, k, H', I', st', fr', vs, w'⟩
    obtain ⟨hlen, ⟨stop, fin⟩ | ⟨go, hlt, step⟩⟩ := turn i n ys H' w'
    · refine wpAny_mono (T.done (cxComp X scope cl (x :: fr) C s₂ H₂ fp) rfl rfl rfl hYc i _ s' _ H' (fun _ _ => False) I' (hfY fr') st' stop) (fun r s1 ⟨hr, I1⟩ => ?_) fun _ _ z => z.elim
      subst hr
      obtain ⟨pD, nD, _, _, _⟩ := I1.pin _ (List.mem_append_right _ (List.mem_singleton.mpr rfl))
      have IX : Inv X pins σ H' s1 := I.call' I1.os I1.base I1.hok I1.bare fun b hb => ⟨(hf b hb).2.2.2.1, (hf b hb).2.1, (hf b hb).2.2.2.2.1, (hf b hb).2.2.2.2.2⟩
      have fD : FpOk X pins H' D := I.fpOk (by rw [hDe]; exact Nat.le_refl _) nD
      obtain ⟨m, hn, _⟩ := id I1.loc
      have hC' : H' C = none := I1.free
      refine ⟨D, upd H' D (.lst ys), m, rfl, IX.track fD ⟨hlen, its, k, vs, pD⟩, hn, I.fpOk (by rw [hDe]; exact hCle) (by rw [upd_ne (Ne.symm hDC)]; exact hC'), fin D nD⟩
    · refine wpAny_mono (T.item (cxComp X scope cl (x :: fr) C s₂ H₂ fp) rfl rfl rfl hYc i _ s' _ H' (fun _ _ => False) I' (hfY fr') st' go) (fun r s1 ⟨u, hr, h4⟩ => ?_) fun _ _ z => z.elim
      subst hr
      refine wpAny_mono (unlet (Q2 := fun _ s6 => _) h4 fun s2 ⟨v, H5, I5, r5, y5, st5, fr5⟩ => ?_) (fun _ _ q => q) fun _ _ z => z.elim
      have I5' := I5.pinned (hfY fr5) (T.obj _ _ st5)
      refine thn (pg_name (X := cxComp X scope cl (x :: fr) C s₂ H₂ fp) (i := 0) hnd rfl (.inl (lookup_relabel_local hx)) (.inr (lookup_relabel_local hx)) _ s2 _ H5 v u (fun σ' H' => σ' = (some v :: is.map fun j => (σ[j]?).getD none) ∧ H' = H5) I5' r5 ⟨rfl, rfl⟩) fun _ s6 ⟨σ6, H6, I6, e6, e7⟩ => ?_
      subst e6 e7
      refine wpAny_mono (ht C s₂ H₂ fp _ s6 _ H6 _ I6 (step v H6 y5)) (fun ok7 s7 ⟨H7, I7, q7⟩ => ?_) fun _ _ z => z.elim
      have keep : ∀ {σ8 : St} {H8 : Hp} {s8 : Shared}, Inv (cxComp X scope cl (x :: fr) C s₂ H₂ fp) ([(D, { cls := .type "list", data := .seq its.toArray k })] ++ pinsAt fp s2.heap) σ8 H8 s8 → tn (i + 1) s8.heap ∧ ∀ b ∈ fp, H8 b = none := fun {σ8 H8 s8} I8 =>
        ⟨T.keep _ _ _ st5 fun b hb o e => (I8.pin (b, o) (List.mem_append_right _ (List.mem_append_right _ (mem_pinsAt hb e)))).1, fun b hb => by
          obtain ⟨o, e, d⟩ := T.obj _ _ st5 b hb
          exact (I8.pin (b, o) (List.mem_append_right _ (List.mem_append_right _ (mem_pinsAt hb e)))).2.1⟩
      cases ok7 with
      | false =>
        obtain ⟨m', hm', w7⟩ := q7
        exact ⟨m', hm', i + 1, _, ys, its, k, H7, I7.unpinned, (keep I7).1, (keep I7).2, vs, w7⟩
      | true =>
        refine wpAny_mono (he C s₂ H₂ fp _ s7 _ H7 _ I7 q7) (fun yv s8 ⟨y, H8, I8, r8, m', hm', w8⟩ => ?_) fun _ _ z => z.elim
        obtain ⟨pD, nD, neD, nfD, ncD⟩ := I8.pin (D, { cls := .type "list", data := .seq its.toArray k }) (List.mem_append_right _ (List.mem_append_left _ (List.mem_singleton.mpr rfl)))
        have hl := vs.length
        refine append_at (hsz := by rw [List.size_toArray, ← hl]; exact hlen) pD fun h9 sb9 hD9 => ?_
        obtain ⟨st8, fr8⟩ := keep I8
        have I8' : Inv (cxComp X scope cl (x :: fr) C s₂ H₂ fp) [] (some v :: is.map fun j => (σ[j]?).getD none) H8 s8 := I8.pins_of fun p hp => nomatch hp
        have I9 : Inv (cxComp X scope cl (x :: fr) C s₂ H₂ fp) [] (some v :: is.map fun j => (σ[j]?).getD none) H8 { s8 with heap := h9 } :=
          I8'.turned (t' := s8.toks) (fun b o hb e => (sb9.2 b hb).trans e) nD neD (.inr (by rw [← hDe]; exact Nat.le_refl _)) (fun y' c e z => by
            obtain ⟨v', o', ho', hd'⟩ := I8'.cell y' c e
            rw [z, pD] at ho'; cases ho'; cases hd') (fun p hp => nomatch hp)
        refine ⟨m', hm', i + 1, _, ys ++ [y], its ++ [yv], k + 1, H8, I9.pins_of fun p hp => ?_, T.keep _ _ _ st8 fun b hb o e => (sb9.2 b (hDfp b hb)).trans e, fr8, vs.append (.cons r8 .nil), w8⟩
        rw [List.mem_singleton.mp hp]
        refine ⟨?_, nD, neD, nfD, fun v z => by cases z⟩
        rw [← List.push_toArray]
        exact hD9
  exact codeAny_compStart_list (loop _ rfl) (T.self _ 0 _ _ _ (T.keep _ _ _ st fun b _ o e => old b o e) (loop _ rfl))
theorem ps_setcomp {i : Nat} {y : Str} {py spos : Pos} (hN : X.N.Nodup) (hiy : X.N[i]? = some y) (hy : Loc X.env.scope y) (hsw : swapsWith (.ListComp elt [⟨.Name x px, iter, ifs, 0⟩] scope pos) (some (.Name y py)) spos.line X.env = pure true)
    (hc : X.calm = true) (hclos : closureFor scope X.env = pure cl) (hcl : ClOk X.env.cells cl) (hfree : (scope.names.all fun p => p.2 != .free || (cl.lookup p.1).isSome) = true) (hfr : FrOk X scope fr is) (hnd : (x :: fr).Nodup)
    (hcell : ∀ y ∈ scope.names, y.2 ≠ .cell) (hkind : scope.kind = .function) (hnames : ∀ y ∈ scope.names, y.2 = .local → scope.names.lookup y.1 = some .local) (hx : scope.names.lookup x = some .local)
    (hi : PI X (.Name x px) iter wi) (ht : ∀ C s₂ H₂ fp, PIfs (cxComp X scope cl (x :: fr) C s₂ H₂ fp) ifs tt) (he : ∀ C s₂ H₂ fp, PE (cxComp X scope cl (x :: fr) C s₂ H₂ fp) elt te) (hs : ∀ x, foldedSetIterable iter X.env x = pure x := by intro _; rfl)
    (hf : X.fn y = true ∨ X.env.scope.names.lookup y = some .local := by first | exact .inl rfl | exact .inr rfl | assumption) :
    PS X (.Assign [.Name y py] (.ListComp elt [⟨.Name x px, iter, ifs, 0⟩] scope pos) spos) (tAsg (tComp is wi tt te) (gName i)) := by
  intro pins s σ H D0 I h
  rw [exec_Assign_Name_used _ _ _ _ hsw]
  refine wpAny_bind (wpAny_standAt (wpAny_bind ?_))
  show wpAny _ X.A (do let _ ← comprehension (.ListComp elt [⟨.Name x px, iter, ifs, 0⟩] scope pos) scope X.env _ (newList []) false (eval iter X.env) (some (assign (.Name y py) X.env))) _ _ s
  refine wpAny_bind (wpAny_mono (wpAny_comprehension_free (use := some (assign (.Name y py) X.env)) (Q := fun _ s' => SP X pins D0 .next s') rfl hs hclos hkind hnames
    (thn (hi pins s σ H _ I h) fun v s1 h1 => thn h1 fun itv s2 h2 => ?_)) (fun _ s' hq => wpAny_pure (wpAny_pure hq)) fun _ _ e => e)
  obtain ⟨it, fp, tn, J, H2, e, I2, T, st2, f2, R⟩ := h2
  subst e
  refine thn (comp_core hc hcell hkind hx hcl hfree hfr hnd ht he I2 T st2 f2 R) fun acc s3 h3 => thn h3 fun cenv s4 h4 => codeAny_mono h4 fun r s' q => ?_
  cases r with
  | error e => exact q.elim
  | ok f =>
    obtain ⟨D, H', m, rfl, I', hn, fC, q⟩ := q
    obtain ⟨f0, f1, _, f3, f4, f5⟩ := fC
    show wpAny _ _ (assign (.Name y py) X.env (.ref D)) _ _ _
    refine wpAny_assign_Name (store_ok2 I' hN hiy hy (v := .ref D) rfl (fun s'' I'' ⟨a, sb, ha⟩ => ?_) hf)
    have hCa : cenv.locals ≠ a := by
      rcases ha with rfl | ha
      · exact f1
      · exact Ne.symm (f4 y a ha)
    refine ⟨m, hn.sameBut sb hCa, fun h' sb' => ⟨_, H', I''.turned (t' := s''.toks) (fun b o hb e => (sb'.2 b hb).trans e) f0 f1 f3 f4 f5, q⟩⟩
end
section
variable {K : W.Frag} {σ : St} {H : Hp} {Q : VK} {is : List Nat} {tt : TT} {te : TE}
def kCompL (K:W.Frag) (is:List Nat) (tt:TT) (te:TE) (σ:St) (Q:VK) (x:V) (H:Hp):Prop:=∃ a,x = .ref a∧(∃ xs,SqL K H a xs)∧kComp is tt te σ Q (Itl K a) H
theorem r_compL {tl:TE} (h:tl σ H (kCompL K is tt te σ Q)):tComp is (iList K tl) tt te σ H Q:=h
def NxC (n:Nat) (Pv:Nat→List V→Hp→Prop) (i:Nat) (ys:List V) (H:Hp):Prop:=∃ m',m' < n - i∧m'=n - (i+1)∧i+1≤n∧Pv (i+1) ys H
theorem nxC {n:Nat} {Pv:Nat→List V→Hp→Prop} {i:Nat} {ys:List V} {H:Hp} (h:i < n) (p:Pv (i+1) ys H):NxC n Pv i ys H:=⟨_,by omega,rfl,h,p⟩
theorem r_noIf {s:St} {R:Bool→Hp→Prop} (h:R true H):tNoIf s H R:=h
theorem r_kCompL {a:Addr} {xs:List V} (hx:SqL K H a xs) (hz:xs.length≤sizeLine) (Pv:Nat→List V→Hp→Prop) (h0:Pv 0 [] H) (hl : ∀ i ys H,i≤xs.length→Pv i ys H→SqL K H a xs∧ys.length≤i)
  (hs : ∀ i x ys H,xs[i]? = some x→i < xs.length→Pv i ys H→tt (some x::is.map fun j=>(σ[j]?).getD none) H fun ok H2=>if ok=true then te (some x::is.map fun j=>(σ[j]?).getD none) H2 fun y H3=>NxC xs.length Pv i (ys++[y]) H3 else NxC xs.length Pv i ys H2)
  (hd : ∀ ys H,Pv xs.length ys H → ∀ p H',Same H H'→H' p=some (.lst ys)→Q (.ref p) H'):kCompL K is tt te σ Q (.ref a) H:=by
 refine ⟨a,rfl,⟨xs,hx⟩,fun i m ys H=>m=xs.length - i∧i≤xs.length∧Pv i ys H,⟨xs.length,by simp,Nat.zero_le _,h0⟩,?_⟩
 rintro i m ys H ⟨rfl,hi,p⟩
 obtain ⟨q,ly⟩:=hl i ys H hi p
 refine ⟨by omega,?_⟩
 by_cases hlt:i < xs.length
 ·refine .inr ⟨⟨xs,xs[i],q,by simp [hlt]⟩,by omega,fun x H' y=>?_⟩
  obtain ⟨e,y⟩:=y
  subst e
  exact hs i x ys _ (y xs q) hlt p
 ·have e:i=xs.length:=by omega
  subst e
  exact .inl ⟨⟨xs,q,Nat.le_refl _⟩,fun p' hp=>hd ys H p p' _ (same_new hp _) upd_same⟩
end
section
variable {K : W.Frag} {σ : St} {H : Hp} {Q : VK}
theorem r_slice {r:V→Option Int→Option Int→Hp→VK→Prop} {te:TE} {tl th:TO} (h:te σ H fun x H1=>tl σ H1 fun l H2=>th σ H2 fun u H3=>r x l u H3 Q):tSl r te tl th σ H Q:=h
theorem r_noPart {R:Option Int→Hp→Prop} (h:R none H):tNoPart σ H R:=h
theorem r_part {t:TE} {R:Option Int→Hp→Prop} (h:t σ H fun x H1=>∃ i,x = .int i∧R (some i) H1):tPart t σ H R:=h
theorem r_exint {i:Int} {R:Int→Prop} (h:R i) : ∃ k,V.int i = .int k∧R k:=⟨i,rfl,h⟩
theorem r_cat {l b:Addr} {xs zs:List V} (h1:H l=some (.lst xs)) (h2:H b=some (.lst zs)) (hz:xs.length+zs.length≤sizeLine) (q : ∀ p H',Same H H'→H' p=some (.lst (xs++zs))→Q (.ref p) H'):rCat (.ref l) (.ref b) H Q:=
 ⟨l,b,xs,zs,rfl,rfl,h1,h2,hz,fun p hp=>q p _ (same_new hp _) upd_same⟩
end
section
variable {X : Cx}
theorem vals_of_ints : ∀ {us:List Value} {ns:List Int},IntsAre us ns→Vals (ns.map V.int) us
 | _,_,.nil=>.nil
 | _,_,.cons n t h=>.cons ⟨t,rfl⟩ (vals_of_ints h)
theorem bo_sorted:bootBuiltins "sorted" = some (.builtin "sorted"):=by decide +kernel
end
set_option maxHeartbeats 400000
abbrev VEB:List Value:=[.type "ValueError", .type "Exception", .type "BaseException", .type "object"]
structure Exc (K:W.Frag) (C:Addr):Prop where
 ex:W.excIn K C VEB "ValueError.__new__" = true
 h1:W.findIn K (.ref C) "__getattribute__" = some (some (.builtin "BaseException.__getattribute__"))
 h2:W.findIn K (.ref C) "__getattr__" = some none
 hb:W.mroIn K C (.type "BaseException")=some true
 hd:W.hasDictIn K C=true
 ha:W.findIn K (.ref C) "__class__" = some (some (.builtin "object.__class__"))
 hn:W.specialIn K (.builtin "object.__class__") "__get__" = some (some (.builtin "getset_descriptor.__get__"))
 ht:W.takesIn K (.builtin "object.__class__")=some true
 hm:W.mroIn K C (.type "object")=some true
def ExAt (x C:Addr) (h:Heap):Prop:=∃ o,h.get? x=some o∧o.cls = .ref C ∧ ∃ vs,o.data = .fields vs
theorem ExAt.keep {x C:Addr} {h h':Heap} (e:ExAt x C h) (k : ∀ o,h.get? x=some o→h'.get? x=some o):ExAt x C h':=let ⟨o,a,b⟩:=e;⟨o,k o a,b⟩
section
open PySem.W PySem.Calls Builtin Builtin.ObjectAttr Builtin.Getset_descriptor
variable {K : Frag} {x C : Addr} {M : Model} {h : Heap}
theorem ExAt.ty (e:ExAt x C h):Looks M h (typeOf (.ref x)) (.ref C):=by
 obtain ⟨o,h1,h2,_⟩:=e
 rw [← h2]
 exact (Looks.ld h1).andThen .now
variable {prog : Program} {w : World} {A : Around} {E : Value → Shared → Prop} {s : Shared}
end
def CXE (P:Program) (w:World):CXT:=fun outer H s E e s'=>∃ (x C:Addr) (a0:Value) (H':Hp) (B:Heap),e = .ref x∧s'.os=s.os∧AllBare s'.gens∧Heap.FlyingW B outer x (.ref C) a0 s'.heap ∧
 (∀ h',B.StaysIn h'→s'.heap.UpToSlots h'→Un (frs outer) [] H H' s.heap h'∧HOk P w H' h')∧s.heap.get? x=none∧H' x=none∧E (.ref C) none H'
theorem ObjOk.is {P:Program} {w:World} {H:Hp} {h:Heap} {a:Addr} {o:HO} (x:ObjOk P w H h a o) : ∃ ob,h.get? a=some ob:=by
 cases o with
 | lst xs=>obtain ⟨_,_,_,_,e⟩:=x;exact ⟨_,e⟩
 | tup xs=>obtain ⟨_,_,_,ob,e,_⟩:=x;exact ⟨_,e⟩
 | dK kvs=>obtain ⟨_,_,_,_,ob,_,_,e,_⟩:=x;exact ⟨_,e⟩
 | dT kvs=>obtain ⟨_,_,_,_,ob,_,_,e,_⟩:=x;exact ⟨_,e⟩
 | set S n=>first | (obtain ⟨ob,e,_⟩:=x;exact ⟨_,e⟩) | (obtain ⟨ob,es,e,_⟩:=x;exact ⟨_,e⟩) | (obtain ⟨ob,es,ep,e,_⟩:=x;exact ⟨_,e⟩) | (obtain ⟨ob,es,ep,z,e,_⟩:=x;exact ⟨_,e⟩)
 | ins C dx fs=>obtain ⟨_,_,_,e,_⟩:=x;exact ⟨_,e⟩
 | own y=>exact x
 | xd fs=>obtain ⟨_,⟨ob,_,_,e,_⟩,_⟩:=x;exact ⟨_,e⟩
 | met f y=>exact ⟨_,x⟩
 | rng lo hi=>obtain ⟨_,_,_,e⟩:=x;exact ⟨_,e⟩
 | frz o u=>exact ⟨_,x.1⟩
 | tbl ps=>exact ⟨_,x⟩
 | ext φ=>exact x.2.1
section
variable {P : Program} {w : World} {K : W.Frag} {mg : Str → Option Value} {base : Heap} {N : List Str} {qual : Str} {scope : Scope} {f : Addr} {cd : Value} {A : Around} {outer : List Env} {s : Shared} {H : Hp} {E : XK}
theorem leaves_made {pins : List (Addr × Obj)} {σ : St} {H1 : Hp} {s1 : Shared} {h' : Heap} {x C : Addr} {args : List Value}
    (I : Inv (cxOf (CXE P w) P w K mg base N qual scope f cd A outer s H E) pins σ H1 s1) (hm : Heap.MadeExcOf s1.heap h' x (.ref C) args) (q : E (.ref C) none H1) :
    (cxOf (CXE P w) P w K mg base N qual scope f cd A outer s H E).xe (.ref x) { s1 with heap := h' } := by
  have hst : ∀ b ∈ frs (envOfC qual scope s.heap.objs.size f cd :: outer), H1 b = none := I.stkFree
  have hin : ∀ env ∈ (envOfC qual scope s.heap.objs.size f cd :: outer), ∀ b, env.frame = some b → b ∈ frs (envOfC qual scope s.heap.objs.size f cd :: outer) := fun env he b hb => List.mem_filterMap.mpr ⟨env, he, hb⟩
  have FF : s1.heap.FunFrames base (envOfC qual scope s.heap.objs.size f cd :: outer) := I.stack
  have old : ∀ b o, s.heap.get? b = some o → b ≠ s.heap.objs.size := fun b o e => Nat.ne_of_lt (Heap.lt_size e)
  have sub : ∀ b, b ∈ frs (envOfC qual scope s.heap.objs.size f cd :: outer) → b = s.heap.objs.size ∨ b ∈ frs outer := fun b hb => List.mem_cons.mp (I.stkSub b hb)
  refine wpAny_leaves_madeW (base := W.hideAll s1.heap (frs (envOfC qual scope s.heap.objs.size f cd :: outer))) I.ok.frames rfl (fun b o e => W.of_hideAll _ e) (W.funFrames_hide FF hin) hm fun h2 t f1 f2 f3 f4 => ?_
  refine ⟨x, C, .ref t, H1, _, rfl, I.os, I.bare, f1, fun h3 st sm => ?_, ?_, ?_, q⟩
  · have here : ∀ b o, s1.heap.get? b = some o → b ∉ frs (envOfC qual scope s.heap.objs.size f cd :: outer) → h3.get? b = some o := fun b o e n => st b o (W.hideAll_get _ e n)
    have fram : ∀ b o, s1.heap.get? b = some o → b ∈ frs (envOfC qual scope s.heap.objs.size f cd :: outer) → ∃ sl, h3.get? b = some { o with slots := sl } := fun b o e m => by
      obtain ⟨_, o', e', nf⟩ := FF.mem m
      have z : o' = o := Option.some.inj (e'.symm.trans e)
      subst z
      obtain ⟨sl, e2⟩ := f4 b o' (hm.keeps b o' e) nf
      obtain ⟨sl', e3⟩ := sm b _ e2 nf
      exact ⟨sl', e3⟩
    refine ⟨⟨fun b o e n hb hx => ?_, fun b o e n hb hx => ?_, fun b o e n hx => I.base.free b o e n hx, fun b o e hx => ?_, I.base.tups, I.base.frzs, I.base.tbls⟩, fun a u e => ?_⟩
    · exact here b o (I.base.keep b o e n hb hx) fun z => (sub b z).elim (old b o e) hb
    · obtain ⟨sl, e1⟩ := I.base.slot b o e n hb hx
      have mem : b ∈ frs (envOfC qual scope s.heap.objs.size f cd :: outer) := by
        show b ∈ List.filterMap _ _
        rw [List.filterMap_cons]
        exact List.mem_cons_of_mem _ hb
      obtain ⟨sl', e2⟩ := fram b _ e1 mem
      exact ⟨sl', e2⟩
    · obtain ⟨o', e1⟩ := I.base.there b o e hx
      by_cases mem : b ∈ frs (envOfC qual scope s.heap.objs.size f cd :: outer)
      · obtain ⟨sl, e2⟩ := fram b o' e1 mem
        exact ⟨_, e2⟩
      · exact ⟨o', here b o' e1 mem⟩
    · refine (I.hok a u e).stay (fun b ob hb eb => here b ob eb fun z => ?_) (fun _ z => z) (fun _ _ z => z)
      have := hst b z
      rcases hb with rfl | hb
      · rw [e] at this; cases this
      · rw [hb] at this; cases this
  · cases z : s.heap.get? x with
    | none => rfl
    | some o =>
      obtain ⟨o', e1⟩ := I.base.there x o z (fun h => nomatch h)
      have := hm.new
      rw [e1] at this; cases this
  · cases z : H1 x with
    | none => rfl
    | some o =>
      obtain ⟨ob, e1⟩ := (I.hok x o z).is
      have := hm.new
      rw [e1] at this; cases this
end
theorem exc_obj {K:W.Frag} {h:Heap} {C:Addr} (X:K.In h) (c:Exc K C) : ∃ tl N nm q bs hdct sn sub ab col dd k0 k1 k2 k3 k5 mN,
  h.get? C=some (excClassObj nm q C N bs tl hdct sn sub ab col dd k0 k1 k2 k3 k5 "ValueError.__new__")∧h.Ns N mN∧mN "__init__" = none∧OwnTail h VEB tl:=by
 have q:=c.ex
 unfold W.excIn at q
 split at q
 ·rename_i dd cd sl ho
  split at q
  ·rename_i C' bm k0 k1 k2 k3 n k5 hm hs
   simp only [Bool.and_eq_true,beq_iff_eq,Bool.not_eq_true'] at q
   obtain ⟨⟨⟨⟨⟨z1,z2⟩,hdel⟩,ht⟩,hok⟩,hni⟩:=q
   subst z1 z2
   obtain ⟨nm,bs,mro,ns,qn,hdc,sn,sub,ab,col,del⟩:=cd
   dsimp only at hm hdel hok hni
   subst hm hdel
   have hsl:sl = #[k0,k1,k2,k3,some (.builtin "ValueError.__new__"),k5]:=by
    cases sl with
    | mk l=>simp only at hs;rw [hs]
   subst hsl
   refine ⟨bm,ns,nm,qn,bs,hdc,sn,sub,ab,col,dd,k0,k1,k2,k3,k5,h.nsMap ns,X _ _ ho,?_,?_,W.tail_of_in X ht⟩
   ·exact .of_isNs (W.isNs_of_in X hok)
   ·exact W.nsMap_none_of_in X hok hni
  ·cases q
 ·cases q
def Takes (X:Cx) (E:XK):Prop:=∀ (pins:List (Addr × Obj)) (σ:St) (H:Hp) (s:Shared) (h':Heap) (x C:Addr) (args:List Value),Inv X pins σ H s→Heap.MadeExcOf s.heap h' x (.ref C) args→E (.ref C) none H→X.xe (.ref x) { s with heap:=h' }
def tRaise (C:Addr) (E:XK) (t:TA):TS:=fun _ σ H=>t σ H fun vs H1=>vs.length≤sizeLine∧E (.ref C) none H1
theorem ps_raise {X:Cx} {x:Str} {C:Addr} {E:XK} {np cpos pos:Pos} {e:Expr} {es:List Expr} {t:TA} (tk:Takes X E) (hc:X.calm=true) (c:Exc X.K C) (hg:Gl X x) (hm:X.mg x=some (.ref C)) (ha:PA X (e::es) t)
  (hdb:(x == ("__debug__" : Str))=false:=by decide) (he:starEach (e::es) X.env=(false,eval e X.env)::starEach es X.env:=by rfl) (hpl:(backTo cpos (starEach es X.env)).any (·.1)=false:=by rfl) :
  PS X (.Raise (some (.Call (.Name x np) (e::es) [] cpos)) none pos) (tRaise C E t):=by
 intro pins s σ H D I h
 obtain ⟨tl,N,nm,q,bs,hdct,sn,sub,ab,col,dd,k0,k1,k2,k3,k5,mN,hC,hN,hni,T⟩:=exc_obj I.ok.mod.kin c
 refine wpAny_Raise_call_subT (C:=C) (bm:=tl) (mN:=mN) (N:=N) (nm:=nm) (q:=q) (bs:=bs) (hdct:=hdct) (sn:=sn) (sub:=sub) (ab:=ab) (col:=col) (dd:=dd) (k0:=k0) (k1:=k1) (k2:=k2) (k3:=k3) (k5:=k5) PySem.F.excBase_ValueError (T.hasType PySem.F.excBase_ValueError.hasBase) (I.ok.hd hc) (by rw [he];show (false || (backTo cpos (starEach es X.env)).any (·.1))=false;rw [hpl];rfl) hni (ld_glob I hg hm ⟨rfl,?_⟩ hdb)
 have z:=ha cpos pins s σ H _ I h
 rw [he] at z ⊢
 refine Calls.evalArgs_plain (thn z fun us s1 ⟨vs,H1,I1,r,hl,qe⟩=>?_)
 have hv:us.length≤sizeLine:=by rw [← r.length];exact hl
 exact ⟨rfl,hv,I1.bk _ _ hC,hN.keeps I1.bk,T.keeps I1.bk,fun h' y hm'=>tk pins σ H1 s1 h' y C us I1 hm' qe⟩
def HasX (P:Program) (w:World) (K:W.Frag) (mg:Str→Option Value) (base:Heap) (x:Str) (k:Nat) (ps:List Str) (sp:Sp):Prop:=
 ∃ (f:Addr) (fd:FuncData),FnOk P w K mg base (CXE P w) k f fd ps sp∧mg x=some (.ref f)∧W.keepIn K (.ref f)=true∧Binds K fd ps []
def XP (X:Cx) (pins:List (Addr × Obj)) (σ:St) (E:XK) (e:Value) (s':Shared):Prop:=∃ H1 s1,Inv X pins σ H1 s1∧CXE X.prog X.w X.stack H1 s1 E e s'
section
variable {X : Cx} {H : Hp} {Q : VK} {K : W.Frag}
theorem Fun.okX {P:Program} {w:World} {K:W.Frag} {mg:Str→Option Value} {base:Heap} {x qual:Str} {st:Stmt} {f:Addr} {fd:FuncData} {N ps:List Str} {k:Nat} {sp:Sp} (F:Fun K x qual st f fd) (S:FnScope N ps (defScope st)) (len : ∀ vs H Q E,sp vs H Q E→vs.length=ps.length)
  (hbody : ∀ (cdv:Value) (A:Around) (outer:List Env) (s:Shared) (H:Hp) (vs:List V) (Q:VK) (E:XK),Room k (A.deeper (envOfC qual (defScope st) s.heap.objs.size f cdv))→sp vs H Q E →
   Takes (cxOf (CXE P w) P w K mg base N qual (defScope st) f cdv A outer s H E) E → ∃ t,PSs (cxOf (CXE P w) P w K mg base N qual (defScope st) f cdv A outer s H E) (defBody st) t∧t { nx:=fun _ H'=>Q .non H',rt:=Q } (start N vs) H):FnOk P w K mg base (CXE P w) (k+1) f fd ps sp:=by
 obtain ⟨oc,od,kV,doc,pm,an,cdv,ct,osl,rfl,lk,hcd⟩:=F.ex
 exact fn_of lk hcd S len fun A outer s H vs Q E hr hsp=>hbody cdv A outer s H vs Q E hr hsp fun pins σ H s h' x C args I hm q=>leaves_made I hm q
theorem FnOk.calm {P : Program} {w : World} {K : W.Frag} {mg : Str → Option Value} {base : Heap} {k : Nat} {f : Addr} {fd : FuncData} {ps : List Str} {sp : Sp} (F : FnOk P w K mg base (CXE P w) k f fd ps sp) : FnOk P w K mg base CX0 k f fd ps (fun vs H Q _ => sp vs H Q E0) :=
  ⟨fun vs H Q _ h => F.len vs H Q E0 h, fun A outer s H args us vs Q _ hr he hb hv hs => codeAny_mono (F.run A outer s H args us vs Q E0 hr he hb hv hs) fun r s' hq => by
    cases r with
    | ok fl => cases fl <;> exact hq
    | error e =>
      obtain ⟨_, _, _, _, _, _, _, _, _, _, _, _, z⟩ := hq
      exact z.elim⟩
end
section
variable {X : Cx} {H : Hp} {Q : VK} {K : W.Frag} {σ : St} {pos p1 p2 : Pos} {n1 n2 : Nat} {a b : Int}
def dctO (p:Addr):HO:=.ext (W.KitAt p "dict")
inductive Odd (H:Hp):V→Prop where
 | non:Odd H .non
 | bl (b:Bool):Odd H (.bl b)
 | str (x:Str):Odd H (.str x)
 | lst {p:Addr} {xs:List V} (e:H p=some (.lst xs)):Odd H (.ref p)
 | tup {p:Addr} {xs:List V} (e:H p=some (.tup xs)):Odd H (.ref p)
 | dct {p:Addr} (e:H p=some (dctO p)):Odd H (.ref p)
theorem Odd.same {H H':Hp} {v:V} (h:Odd H v) (g:Same H H'):Odd H' v:=by
 cases h with
 | non=>exact .non
 | bl b=>exact .bl b
 | str x=>exact .str x
 | lst e=>exact .lst (g _ _ e)
 | tup e=>exact .tup (g _ _ e)
 | dct e=>exact .dct (g _ _ e)
def rIsiO (K:W.Frag):List V→Hp→VK→Prop:=fun xs H Q=>rIsi K xs H Q ∨ ∃ p T b,xs=[.ref p,.ty T]∧H p=some (dctO p)∧W.kitOne K (.type "dict") (.type T)=some b∧Q (.bl b) H
theorem r_isiO_bl {i:Bool} {T:String} {b:Bool} (e:W.kitOne K (.type "bool") (.type T)=some b) (q:Q (.bl b) H):rIsiO K [.bl i,.ty T] H Q:=.inl (r_isi (.bl i) ⟨_,.inl rfl⟩ e q)
theorem r_isiO_str {x:Str} {T:String} {b:Bool} (e:W.kitOne K (.type "str") (.type T)=some b) (q:Q (.bl b) H):rIsiO K [.str x,.ty T] H Q:=.inl (r_isi (.str x) ⟨_,.inl rfl⟩ e q)
theorem r_isiO_non {T:String} {b:Bool} (e:W.kitOne K (.type "NoneType") (.type T)=some b) (q:Q (.bl b) H):rIsiO K [.non,.ty T] H Q:=.inl (r_isi .non ⟨_,.inl rfl⟩ e q)
theorem r_isiO_lst {p:Addr} {xs:List V} {T:String} {b:Bool} (h:H p=some (.lst xs)) (e:W.kitOne K (.type "list") (.type T)=some b) (q:Q (.bl b) H):rIsiO K [.ref p,.ty T] H Q:=.inl (r_isi (.lst h) ⟨_,.inl rfl⟩ e q)
theorem r_isiO_tup {p:Addr} {xs:List V} {T:String} {b:Bool} (h:H p=some (.tup xs)) (e:W.kitOne K (.type "tuple") (.type T)=some b) (q:Q (.bl b) H):rIsiO K [.ref p,.ty T] H Q:=.inl (r_isi (.tup h) ⟨_,.inl rfl⟩ e q)
theorem r_isiO_dct {p:Addr} {T:String} {b:Bool} (h:H p=some (dctO p)) (e:W.kitOne K (.type "dict") (.type T)=some b) (q:Q (.bl b) H):rIsiO K [.ref p,.ty T] H Q:=.inr ⟨p,T,b,rfl,h,e,q⟩
theorem Odd.int {v:V} (h:Odd H v) (q1:Q (.bl true) H) (q0:Q (.bl false) H):rIsiO K [v,.ty "int"] H Q:=by
 cases h with
 | non=>exact r_isiO_non (kit_NoneType_int K) q0
 | bl b=>exact r_isiO_bl (kit_bool_int K) q1
 | str x=>exact r_isiO_str (kit_str_int K) q0
 | lst e=>exact r_isiO_lst e (kit_list_int K) q0
 | tup e=>exact r_isiO_tup e (kit_tuple_int K) q0
 | dct e=>exact r_isiO_dct e (kit_dict_int K) q0
theorem r_raise {C:Addr} {E:XK} {t:TA} {D:Ends} {σ:St} (h:t σ H fun vs H1=>vs.length≤sizeLine∧E (.ref C) none H1):tRaise C E t D σ H:=h
def spc (sp:Sp):Sp:=fun vs H Q _=>sp vs H Q E0
def Nm (K:W.Frag) (x:Str) (C:Addr):Prop:=W.nsIn K mainGlobals x=some (some (.ref C))
theorem Nm.eq {x:Str} {C C':Addr} (h:Nm K x C) (h':Nm K x C'):C=C':=by
 have:=h.symm.trans h'
 cases this;rfl
theorem se_Constant {c:Const} {n:Nat} {p:Pos} {es:List Expr} {env:Env}:starEach (.Constant c n p::es) env=(false,eval (.Constant c n p) env)::starEach es env:=rfl
theorem se_Name {x:Str} {p:Pos} {es:List Expr} {env:Env}:starEach (.Name x p::es) env=(false,eval (.Name x p) env)::starEach es env:=rfl
theorem se_Subscript {a b:Expr} {p:Pos} {es:List Expr} {env:Env}:starEach (.Subscript a b p::es) env=(false,eval (.Subscript a b p) env)::starEach es env:=rfl
theorem r_bmL {T:String} {r:V→List V→Hp→VK→Prop} {to:TE} {t:TA} (h:to σ H fun x H1=>tyV K T x H1∧t σ H1 fun xs H2=>r x xs H2 Q):tBM K T r to t σ H Q:=h
theorem r_tyLL {p:Addr} {xs:List V} {R:Prop} (h:SqL K H p xs) (q:R):tyV K "list" (.ref p) H∧R:=⟨.inl ⟨rfl,_,h⟩,q⟩
theorem r_append {l:Addr} {xs:List V} {y:V} (h:H l=some (.lst xs)) (h2:xs.length < sizeLine) (q:Q .non (upd H l (.lst (xs++[y])))):rAppend (.ref l) [y] H Q:=⟨l,xs,y,rfl,rfl,h,h2,q⟩
def SB (r:Addr) (H F:Hp):Prop:=∀ b o,b≠r→H b=some o→F b=some o
theorem SB.put {r:Addr} {H F:Hp} {o:HO} (h:SB r H F):SB r H (upd F r o):=fun b u n e=>by rw [upd_ne n];exact h b u n e
theorem SB.refl {r:Addr} {H:Hp}:SB r H H:=fun _ _ _ e=>e
theorem SB.same {r:Addr} {H F:Hp} (h:SB r H F) (n:H r=none):Same H F:=fun b o e=>h b o (ne_of_none e n) e
end
section
variable {X : Cx} {H : Hp} {Q : VK} {K : W.Frag}
def rAddS:R2:=fun x y H Q=>∃ i j:Str,x = .str i∧y = .str j∧i.length+j.length≤sizeLine∧Q (.str (i++j)) H
theorem op_addS:OpR X (binaryOp .Add) rAddS:=op_add_str
theorem r_addS {i j:Str} (hz:i.length+j.length≤sizeLine) (q:Q (.str (i++j)) H):rAddS (.str i) (.str j) H Q:=⟨i,j,rfl,rfl,hz,q⟩
theorem r_ixS {z:Str} {i:Int} {c:Nat} (hz:z.length≤sizeLine) (e:atI z.cps.toList i=some c) (q:Q (.str ⟨#[c]⟩) H):rIxS (.str z) (.int i) H Q:=⟨z,i,c,rfl,rfl,hz,e,q⟩
def rLenT:List V→Hp→VK→Prop:=fun xs H Q=>∃ z:Str,xs=[.str z]∧z.length≤sizeLine∧Q (.int z.length) H
theorem call_lenT:CallR X (.builtin "len") rLenT:=call_len_str
theorem r_lenS {z:Str} (hz:z.length≤sizeLine) (q:Q (.int z.length) H):rLenT [.str z] H Q:=⟨z,rfl,hz,q⟩
def rInS:R2:=fun x y H Q=>∃ i j:Str,x = .str i∧y = .str j∧Q (.bl (!(Builtin.Str.occurrences j i 0 j.length 1).isEmpty)) H
theorem op_inS:OpR X (compareOp .In) rInS:=op_in_str
theorem r_inS {i j:Str} (q:Q (.bl (!(Builtin.Str.occurrences j i 0 j.length 1).isEmpty)) H):rInS (.str i) (.str j) H Q:=⟨i,j,rfl,rfl,q⟩
theorem r_eqT2 {i j:Str} (q:Q (.bl (decide (i=j))) H):rEq (.str i) (.str j) H Q:=r_eqS rfl q
def rSlS:V→Option Int→Option Int→Hp→VK→Prop:=fun x lo hi H Q=>∃ z:Str,x = .str z∧z.length≤sizeLine∧Q (.str (Txt.slice z lo hi)) H
theorem sl_str:SlR X rSlS:=by
 intro pins s σ H x v vl vu lo hi sl Q I rx hs pl pu h
 obtain ⟨z,rfl,hz,q⟩:=h
 obtain ⟨t,rfl⟩:=rx
 refine ⟨"str", _,PySem.F.slot_str_getitem.lookup,typeIs_str _ _ _,?_⟩
 have fin : ∀ (t':Tok) (k:Nat),EP X pins σ Q (.str (Txt.slice z lo hi) t') { s with toks:=k }:=fun t' k=>⟨.str _,H,I.tok _,⟨t',rfl⟩,q⟩
 have le:=Nat.le_trans (Txt.slice_le z lo hi) hz
 cases pl <;> cases pu
 ·exact wpAny_getItem_str_slice (l:=none) (u:=none) (st:=none) hs rfl (post_val_or_str ⟨le,fin⟩)
 ·exact wpAny_getItem_str_slice (l:=none) (u:=some (_,_)) (st:=none) hs rfl (post_val_or_str ⟨le,fin⟩)
 ·exact wpAny_getItem_str_slice (l:=some (_,_)) (u:=none) (st:=none) hs rfl (post_val_or_str ⟨le,fin⟩)
 ·exact wpAny_getItem_str_slice (l:=some (_,_)) (u:=some (_,_)) (st:=none) hs rfl (post_val_or_str ⟨le,fin⟩)
theorem r_slS {z:Str} {lo hi:Option Int} (hz:z.length≤sizeLine) (q:Q (.str (Txt.slice z lo hi)) H):rSlS (.str z) lo hi H Q:=⟨z,rfl,hz,q⟩
end
abbrev Lt (x:Str):List Nat:=x.cps.toList
def T (l:List Nat):Str:=⟨l.toArray⟩
theorem Lt_T (l:List Nat):Lt (T l)=l:=rfl
theorem T_Lt (x:Str):T (Lt x)=x:=by cases x;simp [T,Lt]
theorem Lt_inj {x y:Str} (h:Lt x=Lt y):x=y:=by rw [← T_Lt x,← T_Lt y,h]
theorem T_eq {a b:List Nat}:T a=T b↔a=b:=⟨fun h=>by have:=congrArg Lt h;rwa [Lt_T,Lt_T] at this,fun h=>by rw [h]⟩
theorem len_Lt (x:Str):x.length=(Lt x).length:=rfl
theorem app_T (x y:Str):x++y=T (Lt x++Lt y):=Lt_inj (by rw [Lt_T];show (x.cps++y.cps).toList=_;simp)
theorem getD_app1 {a b:List Nat} {i:Nat} (h:i < a.length):(a++b).getD i 0=a.getD i 0:=by
 rw [List.getD_eq_getElem?_getD,List.getD_eq_getElem?_getD,List.getElem?_append_left h]
theorem getD_app2 {a b:List Nat} {i:Nat} (h:a.length≤i):(a++b).getD i 0=b.getD (i - a.length) 0:=by
 rw [List.getD_eq_getElem?_getD,List.getD_eq_getElem?_getD,List.getElem?_append_right h]
theorem fm_take (l : List Nat) (a : Nat) : ∀ m : Nat, (List.range m).filterMap (fun k => l[a + k]?) = (l.drop a).take m
  | 0 => by simp
  | m + 1 => by
    rw [List.range_succ, List.filterMap_append, fm_take l a m, List.take_succ]
    congr 1
    rw [List.getElem?_drop]
    rw [List.filterMap_cons]
    cases l[a + m]? <;> rfl
def cl (n d:Nat):Option Int→Nat
 | none=>d
 | some i=>(max 0 (min (if i < 0 then i+n else i) (n:Int))).toNat
theorem slice_T (z:Str) (lo hi:Option Int):Txt.slice z lo hi=T (((Lt z).take (cl (Lt z).length (Lt z).length hi)).drop (cl (Lt z).length 0 lo)):=by
 have e:Builtin.Str.strSliceIndices lo hi 1 z.length=(List.range (cl (Lt z).length (Lt z).length hi - cl (Lt z).length 0 lo)).map (fun x=>cl (Lt z).length 0 lo+x):=by
  rw [← sliceRange_one]
  unfold Builtin.Str.strSliceIndices
  cases lo <;> cases hi <;> simp [cl,len_Lt,Int.toNat_of_nonneg,Int.le_max_left]
 have k:(List.filterMap (fun x=>z.cps[x]?) (Builtin.Str.strSliceIndices lo hi 1 z.length))=((Lt z).take (cl (Lt z).length (Lt z).length hi)).drop (cl (Lt z).length 0 lo):=by
  rw [e,List.filterMap_map]
  have f:((fun x=>z.cps[x]?) ∘ fun x=>cl (Lt z).length 0 lo+x)=fun k=>(Lt z)[cl (Lt z).length 0 lo+k]?:=by funext k;simp [Lt]
  rw [f,fm_take,List.drop_take]
 unfold Txt.slice
 split
 ·rename_i h
  have hl:(Builtin.Str.strSliceIndices lo hi 1 z.length).length=(Lt z).length:=(by simpa using h:_=z.length)
  rw [e,List.length_map,List.length_range] at hl
  have b1:cl (Lt z).length (Lt z).length hi≤(Lt z).length:=by
   unfold cl;split <;> omega
  rcases Nat.eq_zero_or_pos (Lt z).length with p | p
  ·rw [List.eq_nil_of_length_eq_zero p];simp
   exact Lt_inj (List.eq_nil_of_length_eq_zero p)
  ·rw [show cl (Lt z).length 0 lo=0 by omega,show cl (Lt z).length (Lt z).length hi=(Lt z).length by omega,List.take_length,List.drop_zero,T_Lt]
 ·rw [k];rfl
section
variable {X : Cx} {H : Hp} {Q : VK} {K : W.Frag}
theorem rT_add {x y:Str} (hz:(Lt x).length+(Lt y).length≤16777216) (q:Q (.str (T (Lt x++Lt y))) H):rAddS (.str x) (.str y) H Q:=r_addS hz (by rw [app_T];exact q)
theorem rT_len {z:Str} (hz:(Lt z).length≤16777216) (q:Q (.int (Lt z).length) H):rLenT [.str z] H Q:=r_lenS hz q
theorem rT_ix {z:Str} {i:Int} (hz:(Lt z).length≤16777216) (h0:0≤i) (h1:i < (Lt z).length) (q:Q (.str (T [(Lt z).getD i.toNat 0])) H):rIxS (.str z) (.int i) H Q:=by
 refine r_ixS (c:=(Lt z).getD i.toNat 0) hz ?_ q
 unfold atI ixN
 rw [if_pos h0,if_pos h1]
 show (Lt z)[i.toNat]? = _
 rw [List.getD_eq_getElem?_getD,List.getElem?_eq_getElem (by omega)];rfl
theorem rT_ixK {z:Str} {i:Int} (n:Nat) (hn:(Lt z).length=n) (hz:n≤16777216) (h0:0≤i) (h1:i < n) (q : ∀ c,c ∈ Lt z→Q (.str (T [c])) H):rIxS (.str z) (.int i) H Q:=by
 refine rT_ix (by omega) h0 (by omega) (q _ ?_)
 rw [List.getD_eq_getElem?_getD,List.getElem?_eq_getElem (by omega)]
 exact List.getElem_mem _
theorem rT_ixL {z:Str} (hz:(Lt z).length≤16777216) (h1:0 < (Lt z).length) (q:Q (.str (T [(Lt z).getD ((Lt z).length - 1) 0])) H):rIxS (.str z) (.int (-1)) H Q:=by
 refine r_ixS (c:=(Lt z).getD ((Lt z).length - 1) 0) hz ?_ q
 unfold atI ixN
 rw [if_neg (show ¬ (0:Int) ≤ -1 by decide),if_pos (show -((Lt z).length:Int) ≤ -1 by omega)]
 show (Lt z)[((-1:Int)+(Lt z).length).toNat]? = _
 rw [show ((-1:Int)+(Lt z).length).toNat=(Lt z).length - 1 by omega,List.getD_eq_getElem?_getD,List.getElem?_eq_getElem (by omega)];rfl
theorem rT_sl0 {z:Str} {j:Int} (hz:(Lt z).length≤16777216) (h:0≤j) (q:Q (.str (T ((Lt z).take j.toNat))) H):rSlS (.str z) none (some j) H Q:=by
 refine r_slS hz ?_
 rw [slice_T]
 have e:(Lt z).take (cl (Lt z).length (Lt z).length (some j))=(Lt z).take j.toNat:=by
  unfold cl;dsimp only;rw [if_neg (by omega)]
  rcases Int.le_total j (Lt z).length with p | p
  ·rw [Int.min_eq_left p,Int.max_eq_right h]
  ·rw [Int.min_eq_right p,Int.max_eq_right (by omega),List.take_of_length_le (by omega),List.take_of_length_le (by omega)]
 rw [e];exact q
theorem cl_drop (l:List Nat) {i:Int} (h:0≤i) (n d:Nat) (hn:l.length≤n):l.drop (cl n d (some i))=l.drop i.toNat:=by
 unfold cl;dsimp only;rw [if_neg (by omega)]
 rcases Int.le_total i n with p | p
 ·rw [Int.min_eq_left p,Int.max_eq_right h]
 ·rw [Int.min_eq_right p,Int.max_eq_right (by omega),List.drop_of_length_le (by omega),List.drop_of_length_le (by omega)]
theorem cl_take (l:List Nat) {i:Int} (h:0≤i) (d:Nat):l.take (cl l.length d (some i))=l.take i.toNat:=by
 unfold cl;dsimp only;rw [if_neg (by omega)]
 rcases Int.le_total i l.length with p | p
 ·rw [Int.min_eq_left p,Int.max_eq_right h]
 ·rw [Int.min_eq_right p,Int.max_eq_right (by omega),List.take_of_length_le (by omega),List.take_of_length_le (by omega)]
theorem rT_sli {z:Str} {i:Int} (hz:(Lt z).length≤16777216) (h:0≤i) (q:Q (.str (T ((Lt z).drop i.toNat))) H):rSlS (.str z) (some i) none H Q:=by
 refine r_slS hz ?_
 rw [slice_T,cl_drop _ h _ _ (by rw [List.length_take];omega)]
 show Q (.str (T (((Lt z).take (Lt z).length).drop i.toNat))) H
 rw [List.take_length];exact q
theorem rT_slij {z:Str} {i j:Int} (hz:(Lt z).length≤16777216) (h:0≤i) (h':0≤j) (q:Q (.str (T (((Lt z).take j.toNat).drop i.toNat))) H):rSlS (.str z) (some i) (some j) H Q:=by
 refine r_slS hz ?_
 rw [slice_T,cl_drop _ h _ _ (by rw [List.length_take];omega),cl_take _ h']
 exact q
def rMulT:R2:=fun x y H Q=>∃ (z:Str) (n:Int),x = .str z∧y = .int n∧n < 16777216 ∧ -16777216 < n∧(Lt z).length*n.toNat≤16777216∧Q (.str (T (List.replicate n.toNat (Lt z)).flatten)) H
theorem foldl_app : ∀ (xs:List (Array Nat)) (a:Array Nat),(xs.foldl (fun x1 x2=>x1++x2) a).toList=a.toList++(xs.map Array.toList).flatten
 | [],a=>by simp
 | x::xs,a=>by rw [List.foldl_cons,foldl_app xs];simp
theorem mul_T (z:Str) (n:Int):Txt.mul z n=T (List.replicate n.toNat (Lt z)).flatten:=by
 unfold Txt.mul
 split
 ·rw [show n.toNat=0 by omega];rfl
 ·split
  ·rename_i h1 h2
   rw [Bool.or_eq_true] at h2
   rcases h2 with h | h
   ·have:n=1:=by simpa using h
    subst this
    show z=T ([Lt z].flatten)
    simp [T_Lt]
   ·have e:(Lt z).length=0:=(by simpa using h:z.length=0)
    have e':Lt z=[]:=List.eq_nil_of_length_eq_zero e
    refine Lt_inj ?_
    rw [Lt_T,e']
    simp
  ·refine Lt_inj ?_
   show (List.foldl (fun x1 x2=>x1++x2) #[] (List.replicate n.toNat z.cps)).toList=_
   rw [foldl_app,List.map_replicate,Lt_T]
   simp
theorem op_mulT:OpR X (binaryOp .Mult) rMulT:=by
 intro pins s σ H x y v u Q I rx ry h
 obtain ⟨z,n,rfl,rfl,h1,h2,h3,q⟩:=h
 obtain ⟨t,rfl⟩:=rx
 obtain ⟨t',rfl⟩:=ry
 refine SB.mul ⟨?_,fun h4 _=>?_,fun _ _=>?_⟩ fun t' k=>⟨.str _,H,I.tok _,⟨t',rfl⟩,by rw [mul_T];exact q⟩
 ·rw [decide_eq_false (by omega),decide_eq_false (by omega)];rfl
 ·have e:((Lt z).length:Int)*n≤16777216:=by
   have:=Int.ofNat_le.mpr h3
   rw [Int.natCast_mul,Int.toNat_of_nonneg (by omega)] at this;exact this
  intro h5
  have h6:=Int.mul_le_of_le_ediv (c:=n) (by omega) (Int.le_refl ((2 ^ 63 - 1) / n))
  have h7:((2:Int) ^ 63 - 1) / n+1≤(Lt z).length:=h5
  have h8:=Int.mul_le_mul_of_nonneg_right h7 (show 0≤n by omega)
  have h9:=Int.lt_ediv_add_one_mul_self ((2:Int) ^ 63 - 1) (show 0 < n by omega)
  omega
 ·unfold Builtin.Str.tooLong
  exact decide_eq_false (by show ¬ (Lt z).length*n.toNat > 16777216;omega)
theorem rT_mul1 {c:Nat} {n:Int} (h1:n < 16777216) (h2 : -16777216 < n) (q:Q (.str (T (List.replicate n.toNat c))) H):rMulT (.str (T [c])) (.int n) H Q:=
 ⟨T [c],n,rfl,rfl,h1,h2,by rw [Lt_T,List.length_singleton,Nat.one_mul];omega,by rw [Lt_T,List.flatten_replicate_singleton];exact q⟩
theorem r_neT2 {i j:Str} (q:Q (.bl (!decide (i=j))) H):rNe (.str i) (.str j) H Q:=⟨rfl,by
 have e:decide (V.str i=V.str j)=decide (i=j):=by
  by_cases h:i=j
  ·rw [decide_eq_true h,decide_eq_true (congrArg V.str h)]
  ·rw [decide_eq_false h,decide_eq_false (fun z=>h (V.str.inj z))]
 rw [e];exact q⟩
theorem rTT_add {a b:List Nat} (hz:a.length+b.length≤16777216) (q:Q (.str (T (a++b))) H):rAddS (.str (T a)) (.str (T b)) H Q:=rT_add hz q
theorem rTT_len {a:List Nat} (hz:a.length≤16777216) (q:Q (.int a.length) H):rLenT [.str (T a)] H Q:=rT_len hz q
theorem rTT_ix {a:List Nat} {i:Int} (hz:a.length≤16777216) (h0:0≤i) (h1:i < a.length) (q:Q (.str (T [a.getD i.toNat 0])) H):rIxS (.str (T a)) (.int i) H Q:=rT_ix hz h0 h1 q
theorem rTT_ixL {a:List Nat} (hz:a.length≤16777216) (h1:0 < a.length) (q:Q (.str (T [a.getD (a.length - 1) 0])) H):rIxS (.str (T a)) (.int (-1)) H Q:=rT_ixL hz h1 q
theorem rTT_sl0 {a:List Nat} {j:Int} (hz:a.length≤16777216) (h:0≤j) (q:Q (.str (T (a.take j.toNat))) H):rSlS (.str (T a)) none (some j) H Q:=rT_sl0 hz h q
theorem rTT_sli {a:List Nat} {i:Int} (hz:a.length≤16777216) (h:0≤i) (q:Q (.str (T (a.drop i.toNat))) H):rSlS (.str (T a)) (some i) none H Q:=rT_sli hz h q
theorem rTT_slij {a:List Nat} {i j:Int} (hz:a.length≤16777216) (h:0≤i) (h':0≤j) (q:Q (.str (T ((a.take j.toNat).drop i.toNat))) H):rSlS (.str (T a)) (some i) (some j) H Q:=rT_slij hz h h' q
theorem rTT_eq {a b:List Nat} (q:Q (.bl (decide (a=b))) H):rEq (.str (T a)) (.str (T b)) H Q:=r_eqT2 (by
 have e:decide (T a=T b)=decide (a=b):=decide_eq_decide.mpr T_eq
 rw [e];exact q)
theorem rTT_ne {a b:List Nat} (q:Q (.bl (!decide (a=b))) H):rNe (.str (T a)) (.str (T b)) H Q:=r_neT2 (by
 have e:decide (T a=T b)=decide (a=b):=decide_eq_decide.mpr T_eq
 rw [e];exact q)
theorem r_neS {x y:Str} {b:Bool} (h:decide (x=y)=b) (q:Q (.bl (!b)) H):rNe (.str x) (.str y) H Q:=r_neT2 (by rw [h];exact q)
theorem r_ixAll {p:Addr} {xs:List V} {i:Int} (h:SqL K H p xs) (h0:0≤i) (h1:i < xs.length) (q : ∀ x,xs[i.toNat]? = some x→Q x H):rIxL K (.ref p) (.int i) H Q:=by
 have h2:i.toNat < xs.length:=by omega
 have e:atI xs ((i.toNat:Nat):Int)=some xs[i.toNat]:=atI_nat (List.getElem?_eq_getElem h2)
 rw [show ((i.toNat:Nat):Int)=i by omega] at e
 exact r_ixL h e (q _ (List.getElem?_eq_getElem h2))
theorem r_tyS {z:Str} {R:Prop} (q:R):tyV K "str" (.str z) H∧R:=⟨rfl,q⟩
end
theorem int_at {zs:List Int} {i:Nat} {x:V} (h:(zs.map V.int)[i]? = some x) : ∃ n,x = .int n:=by
 obtain ⟨n,_,e⟩:=List.mem_map.mp (List.mem_of_getElem? h)
 exact ⟨n,e.symm⟩
def fv (c:Nat):Int:=if 48≤c∧c≤57 then (c:Int) - 48 else if 97≤c∧c≤102 then (c:Int) - 87 else -1
def fc (d:Nat):Nat:=(Lt "0123456789abcdef").getD d 0
theorem fc_all : ∀ d ∈ List.range 16,fc d < 127∧fv (fc d)=d∧(fc d=48→d=0):=by decide +kernel
theorem fc_ok {d:Nat} (h:d < 16):fc d < 127∧fv (fc d)=d∧(fc d=48→d=0):=fc_all d (List.mem_range.mpr h)
def val (b:Int) (l:List Nat):Int:=l.foldl (fun n c=>n*b+fv c) 0
theorem val_app (b:Int) (l:List Nat) (c:Nat):val b (l++[c])=val b l*b+fv c:=by unfold val;rw [List.foldl_append];rfl
theorem val_noughts (b : Int) (l : List Nat) : ∀ m : Nat, val b (List.replicate m 48 ++ l) = val b l
  | 0 => by simp
  | m + 1 => by
    have ih := val_noughts b l m
    unfold val at ih ⊢
    rw [List.replicate_succ, List.cons_append, List.foldl_cons]
    have : (0 : Int) * b + fv 48 = 0 := by rw [Int.zero_mul]; decide
    rw [this]; exact ih
def FigB (b:Int) (l:List Nat):Prop:=∀ c ∈ l,c < 127∧0≤fv c∧fv c < b
theorem FigB.mono {b b':Int} {l:List Nat} (h:FigB b l) (hb:b≤b'):FigB b' l:=fun c hc=>⟨(h c hc).1,(h c hc).2.1,by have:=(h c hc).2.2;omega⟩
theorem FigB.app {b:Int} {l m:List Nat} (h:FigB b l) (h':FigB b m):FigB b (l++m):=fun c hc=>(List.mem_append.mp hc).elim (h c) (h' c)
theorem FigB.noughts {b:Int} (hb:2≤b) (m:Nat):FigB b (List.replicate m 48):=fun c hc=>by
 rw [List.eq_of_mem_replicate hc];exact ⟨by decide,by decide,by show (0:Int) < b;omega⟩
theorem FigB.one {b d:Nat} (hb:b≤16) (h:d < b):FigB b [fc d]:=fun c hc=>by
 rw [List.mem_singleton.mp hc]
 have:=fc_ok (d:=d) (by omega)
 exact ⟨this.1,by omega,by omega⟩
def figs (b n:Nat):List Nat:=if h:n < b∨b < 2 then [fc n] else figs b (n / b)++[fc (n % b)]
termination_by n
decreasing_by exact Nat.div_lt_self (by omega) (by omega)
theorem figs_lt {b n:Nat} (h:n < b):figs b n=[fc n]:=by rw [figs];simp [h]
theorem figs_ge {b n:Nat} (h2:2≤b) (h:b≤n):figs b n=figs b (n / b)++[fc (n % b)]:=by rw [figs];simp [show ¬ n < b by omega,show ¬ b < 2 by omega]
theorem figs_spec {b : Nat} (h2 : 2 ≤ b) (h16 : b ≤ 16) : ∀ (m n : Nat), n ≤ m → FigB b (figs b n) ∧ val b (figs b n) = n ∧ figs b n ≠ [] ∧ ((figs b n).getD 0 0 = 48 → n = 0) := by
  intro m
  induction m with
  | zero =>
    intro n hn
    rw [figs_lt (by omega)]
    have e := fc_ok (d := n) (by omega)
    exact ⟨FigB.one h16 (by omega), by unfold val; simp [e.2.1], by simp, fun _ => by omega⟩
  | succ m ih =>
    intro n hn
    rcases Nat.lt_or_ge n b with h | h
    · rw [figs_lt h]
      have e := fc_ok (d := n) (by omega)
      exact ⟨FigB.one h16 (by omega), by unfold val; simp [e.2.1], by simp, fun q => e.2.2 (by simpa using q)⟩
    · have hd : n / b < n := Nat.div_lt_self (by omega) (by omega)
      obtain ⟨i1, i2, i3, i4⟩ := ih (n / b) (by omega)
      have hm := Nat.mod_lt n (show b > 0 by omega)
      rw [figs_ge h2 h]
      refine ⟨i1.app (FigB.one h16 hm), ?_, by simp, fun q => ?_⟩
      · rw [val_app, i2, (fc_ok (d := n % b) (by omega)).2.1]
        have := Nat.div_add_mod n b
        rw [Nat.mul_comm] at this
        omega
      · rw [getD_app1 (List.length_pos_iff.mpr i3)] at q
        have := i4 q
        have p : 0 < n / b := Nat.div_pos h (by omega)
        omega
theorem figs_len {b : Nat} (h2 : 2 ≤ b) : ∀ (k n : Nat), n < b ^ (k + 1) → (figs b n).length ≤ k + 1
  | 0, n, h => by rw [Nat.pow_one] at h; rw [figs_lt h]; simp
  | k + 1, n, h => by
    rcases Nat.lt_or_ge n b with h' | h'
    · rw [figs_lt h']; simp
    · rw [figs_ge h2 h', List.length_append]
      have := figs_len h2 k (n / b) (Nat.div_lt_of_lt_mul (by rw [Nat.pow_succ, Nat.mul_comm] at h; exact h))
      simp; omega
theorem figs_240 {b n:Nat} (h2:2≤b) (h:n < 1766847064778384329583297500742918515827483896875618958121606201292619776):(figs b n).length≤240:=by
 refine figs_len h2 239 n (Nat.lt_of_lt_of_le h ?_)
 have e:(1766847064778384329583297500742918515827483896875618958121606201292619776:Nat)=2 ^ 240:=by decide +kernel
 rw [e];exact Nat.pow_le_pow_left h2 240
theorem figs_turn {b m:Nat} (h2:2≤b) (l:List Nat):figs b m++l=if m / b=0 then fc (m % b)::l else figs b (m / b)++fc (m % b)::l:=by
 rcases Nat.lt_or_ge m b with h' | h'
 ·rw [if_pos (Nat.div_eq_of_lt h'),figs_lt h',Nat.mod_eq_of_lt h'];rfl
 ·have p:0 < m / b:=Nat.div_pos h' (by omega)
  rw [if_neg (by omega),figs_ge h2 h',List.append_assoc];rfl
theorem r_kLstF {H:Hp} {Q:VK} {xs:List V} (hz:xs.length≤sizeLine) (h : ∀ p,H p=none→Q (.ref p) (upd H p (.lst xs))):kLst Q xs H:=⟨hz,h⟩
theorem same_upd {H H':Hp} {l:Addr} {o:HO} (g:Same H H') (n:H l=none):Same H (upd H' l o):=fun b u q=>by rw [upd_ne (ne_of_none q n)];exact g b u q
theorem r_bm0 {K:W.Frag} {σ:St} {H:Hp} {Q:VK} {T:String} {r:V→List V→Hp→VK→Prop} {to:TE} (h:to σ H fun x H1=>tyV K T x H1∧r x [] H1 Q):tBM0 K T r to σ H Q:=h
theorem r_reverse {H:Hp} {Q:VK} {l:Addr} {xs:List V} (h:H l=some (.lst xs)) (q:Q .non (upd H l (.lst xs.reverse))):rReverse (.ref l) [] H Q:=⟨l,xs,rfl,rfl,h,q⟩
def jn (m:List Nat):List (List Nat)→List Nat
 | []=>[]
 | x::xs=>x++(xs.map (m ++ ·)).flatten
theorem glue_fold (m : Str) : ∀ (xs : List (List Nat)) (a : Array Nat), ((xs.map T).foldl (fun acc p => acc ++ m.cps ++ p.cps) a).toList = a.toList ++ (xs.map (Lt m ++ ·)).flatten
  | [], a => by simp
  | x :: xs, a => by
    rw [List.map_cons, List.foldl_cons, glue_fold m xs, List.map_cons, List.flatten_cons]
    simp [T]
theorem join_T (m : Str) (xs : List (List Nat)) : Txt.join m (xs.map T) = T (jn (Lt m) xs) := by
  refine Lt_inj ?_
  rw [Lt_T]
  unfold Txt.join Builtin.Str.glued
  cases xs with
  | nil => rfl
  | cons x xs =>
    show (List.foldl (fun acc p => acc ++ m.cps ++ p.cps) (T x).cps (xs.map T)).toList = _
    rw [glue_fold]; rfl
theorem jn_snoc (m:List Nat) {xs:List (List Nat)} (h:xs≠[]) (y:List Nat):jn m (xs++[y])=jn m xs++(m++y):=by
 cases xs with
 | nil=>exact absurd rfl h
 | cons x xs=>unfold jn;simp
theorem joinOk {m : Str} {xs : List (List Nat)} (h : xs.flatten.length + xs.length * (Lt m).length ≤ 16777216) : JoinOk m (xs.map T) = true := by
  have e : ∀ (xs : List (List Nat)) (n : Nat), (xs.map T).foldl (fun x1 x2 => x1 + x2.length + m.length) n = n + xs.flatten.length + xs.length * (Lt m).length := by
    intro xs
    induction xs with
    | nil => intro n; simp
    | cons x xs ih =>
      intro n
      rw [List.map_cons, List.foldl_cons, ih, List.flatten_cons, List.length_append, List.length_cons, Nat.add_mul]
      have e1 : (T x).length = x.length := rfl
      have e2 : m.length = (Lt m).length := rfl
      rw [e1, e2]; omega
  unfold JoinOk Builtin.Str.tooLong
  rw [List.foldl_toArray, e, decide_eq_false (by show ¬ 0 + xs.flatten.length + xs.length * (Lt m).length > 16777216; omega)]
  rfl
def rJoinT (K:W.Frag):V→List V→Hp→VK→Prop:=fun x vs H Q=>∃ (m:Str) (p:Addr) (xs:List (List Nat)),x = .str m∧vs=[.ref p]∧H p=some (.lst (xs.map fun l=>V.str (T l)))∧xs.flatten.length+xs.length*(Lt m).length≤16777216∧Q (.str (T (jn (Lt m) xs))) H
theorem vals_strs : ∀ {xs : List (List Nat)} {us : List Value}, Vals (xs.map fun l => V.str (T l)) us → ∃ ts : List (Str × Tok), us = strValues ts ∧ ts.map (fun x => x.1) = xs.map T
  | [], _, .nil => ⟨[], rfl, rfl⟩
  | x :: xs, _, .cons r t => by
    obtain ⟨ts, rfl, e⟩ := vals_strs t
    obtain ⟨u, rfl⟩ := r
    exact ⟨(T x, u) :: ts, rfl, by rw [List.map_cons, List.map_cons, e]⟩
theorem mt_joinT {X:Cx}:MtR X "str.join" (rJoinT X.K):=by
 intro pins s σ H x vs v us Q I rx rv h
 obtain ⟨m,p,xs,rfl,rfl,hH,hz,q⟩:=h
 obtain ⟨t,rfl⟩:=rx
 obtain ⟨u,rfl,ru⟩:=rv.one
 cases ru
 obtain ⟨its,r,pl,_⟩:=I.list (SqL.of hH)
 obtain ⟨ts,rfl,e⟩:=vals_strs r
 exact SC.join pl.isList e (joinOk hz) fun t' k=>⟨.str _,H,I.tok _,⟨t',rfl⟩,by rw [join_T];exact q⟩
theorem r_joinT {K:W.Frag} {H:Hp} {Q:VK} {m:Str} {p:Addr} {xs:List (List Nat)} (h:H p=some (.lst (xs.map fun l=>V.str (T l)))) (hz:xs.flatten.length+xs.length*(Lt m).length≤16777216) (q:Q (.str (T (jn (Lt m) xs))) H):rJoinT K (.str m) [.ref p] H Q:=⟨m,p,xs,rfl,rfl,h,hz,q⟩
def pcs (a:List Nat) (z g e:Nat):List (List Nat):=if h:e=0∨z=0 then [] else pcs a z g (e - z - g)++[(a.take e).drop (e - z)]
termination_by e
decreasing_by omega
theorem pcs_zero (a:List Nat) (z g:Nat):pcs a z g 0=[]:=by rw [pcs];simp
theorem pcs_pos {a:List Nat} {z g e:Nat} (hz:0 < z) (h:0 < e):pcs a z g e=pcs a z g (e - z - g)++[(a.take e).drop (e - z)]:=by
 rw [pcs];rw [dif_neg (by omega)]
theorem pcs_bd {a : List Nat} {z g : Nat} (hz : 0 < z) : ∀ (m e : Nat), e ≤ m → (pcs a z g e).flatten.length ≤ e ∧ (pcs a z g e).length ≤ e
  | 0, e, h => by rw [show e = 0 by omega, pcs_zero]; simp
  | m + 1, e, h => by
    rcases Nat.eq_zero_or_pos e with p | p
    · rw [p, pcs_zero]; simp
    · obtain ⟨i1, i2⟩ := pcs_bd (a := a) (g := g) hz m (e - z - g) (by omega)
      rw [pcs_pos hz p]
      simp only [List.flatten_append, List.length_append, List.flatten_cons, List.flatten_nil, List.append_nil, List.length_drop, List.length_take, List.length_cons, List.length_nil]
      omega
def RJ (z m:Nat) (b:List Nat):List Nat:=if h:b.length≤z∨z=0 then b else b.take z++m::RJ z m (b.drop z)
termination_by b.length
decreasing_by rw [List.length_drop];omega
theorem RJ_le {z m:Nat} {b:List Nat} (h:b.length≤z):RJ z m b=b:=by rw [RJ];simp [h]
theorem RJ_zero {m:Nat} {b:List Nat}:RJ 0 m b=b:=by rw [RJ];simp
theorem RJ_gt {z m:Nat} {b:List Nat} (hz:0 < z) (h:z < b.length):RJ z m b=b.take z++m::RJ z m (b.drop z):=by
 rw [RJ];rw [dif_neg (by omega)]
theorem RJ_len {z m : Nat} : ∀ (k : Nat) (b : List Nat), b.length ≤ k → b.length ≤ (RJ z m b).length ∧ (RJ z m b).length ≤ 2 * b.length
  | 0, b, h => by rw [RJ_le (by omega)]; omega
  | k + 1, b, h => by
    rcases Nat.eq_zero_or_pos z with p | p
    · subst p; rw [RJ_zero]; omega
    · rcases Nat.lt_or_ge z b.length with q | q
      · have ih := RJ_len (z := z) (m := m) k (b.drop z) (by rw [List.length_drop]; omega)
        rw [List.length_drop] at ih
        rw [RJ_gt p q, List.length_append, List.length_take, List.length_cons]
        omega
      · rw [RJ_le q]; omega
theorem RJ_snoc {z m x : Nat} (hz : 0 < z) : ∀ (k : Nat) (c : List Nat), c.length ≤ k → RJ z m (c ++ [x]) = RJ z m c ++ ((if 0 < c.length ∧ c.length % z = 0 then [m] else []) ++ [x])
  | 0, c, h => by
    have e : c = [] := List.eq_nil_of_length_eq_zero (by omega)
    subst e
    rw [RJ_le (by simp; omega), RJ_le (by simp)]; simp
  | k + 1, c, h => by
    rcases Nat.lt_trichotomy c.length z with p | p | p
    · rw [RJ_le (by simp; omega), RJ_le (by omega), if_neg (by
        intro q; rw [Nat.mod_eq_of_lt p] at q; omega)]; simp
    · rw [RJ_gt hz (by simp; omega), RJ_le (b := c) (by omega), if_pos ⟨by omega, by rw [p]; exact Nat.mod_self z⟩]
      rw [List.take_append_of_le_length (by omega), List.take_of_length_le (by omega), List.drop_append_of_le_length (by omega), List.drop_of_length_le (by omega), RJ_le (by simp; omega)]
      simp
    · rw [RJ_gt hz (by simp; omega), RJ_gt (b := c) hz p]
      rw [List.take_append_of_le_length (by omega), List.drop_append_of_le_length (by omega), RJ_snoc hz k (c.drop z) (by rw [List.length_drop]; omega), List.length_drop]
      have e : (c.length - z) % z = c.length % z := (Nat.mod_eq_sub_mod (by omega)).symm
      rw [e, List.append_assoc, List.cons_append]
      have e2 : (0 < c.length - z ∧ c.length % z = 0) = (0 < c.length ∧ c.length % z = 0) := propext ⟨fun q => ⟨by omega, q.2⟩, fun q => ⟨by omega, q.2⟩⟩
      simp only [e2]
theorem jn_pcs {a : List Nat} {z m : Nat} (hz : 0 < z) : ∀ (k e : Nat), e ≤ k → e ≤ a.length → (jn [m] (pcs a z 0 e)).reverse = RJ z m (a.take e).reverse
  | 0, e, h, _ => by rw [show e = 0 by omega, pcs_zero, RJ_le (by simp)]; simp [jn]
  | k + 1, e, h, ha => by
    rcases Nat.eq_zero_or_pos e with p | p
    · rw [p, pcs_zero, RJ_le (by simp)]; simp [jn]
    · rw [pcs_pos hz p, Nat.sub_zero]
      have le : (a.take e).length = e := by rw [List.length_take]; omega
      rcases Nat.lt_or_ge z e with q | q
      · have ih := jn_pcs (a := a) (m := m) hz k (e - z) (by omega) (by omega)
        have ne : pcs a z 0 (e - z) ≠ [] := by rw [pcs_pos hz (by omega)]; simp
        rw [jn_snoc _ ne, List.reverse_append, List.reverse_append, ih, RJ_gt (b := (a.take e).reverse) hz (by rw [List.length_reverse]; omega), List.take_reverse, List.drop_reverse, le]
        rw [List.take_take, Nat.min_eq_left (show e - z ≤ e by omega)]
        simp
      · rw [show e - z = 0 by omega, pcs_zero, RJ_le (by rw [List.length_reverse]; omega)]
        simp [jn]
def gr (z m:Nat) (a:List Nat):List Nat:=(RJ z m a.reverse).reverse
theorem gr_jn {a:List Nat} {z m:Nat} (hz:0 < z):jn [m] (pcs a z 0 a.length)=gr z m a:=by
 have:=jn_pcs (m:=m) hz a.length a.length (Nat.le_refl _) (Nat.le_refl _)
 rw [List.take_length] at this
 unfold gr
 rw [← this,List.reverse_reverse]
theorem gr_len {a:List Nat} {z m:Nat}:a.length≤(gr z m a).length∧(gr z m a).length≤2*a.length:=by
 have:=RJ_len (z:=z) (m:=m) a.reverse.length a.reverse (Nat.le_refl _)
 unfold gr;rw [List.length_reverse] at this ⊢;exact this
def UJ (z:Nat) (c:List Nat):List Nat:=if h:c.length=0∨z=0 then [] else c.take z++UJ z (c.drop (z+1))
termination_by c.length
decreasing_by rw [List.length_drop];omega
theorem UJ_nil {z:Nat}:UJ z []=[]:=by rw [UJ];simp
theorem UJ_pos {z:Nat} {c:List Nat} (hz:0 < z) (h:0 < c.length):UJ z c=c.take z++UJ z (c.drop (z+1)):=by rw [UJ];rw [dif_neg (by omega)]
def ug (z:Nat) (a:List Nat):List Nat:=if z=0 then a else (UJ z a.reverse).reverse
theorem gr_zero {m:Nat} {a:List Nat}:gr 0 m a=a:=by unfold gr;rw [RJ_zero,List.reverse_reverse]
theorem gr_turn {z m k:Nat} {a:List Nat} (hk:k < a.length):gr z m (a.drop (a.length - (k+1)))=a.getD (a.length - 1 - k) 0::((if 0 < z∧0 < k∧k % z=0 then [m] else [])++gr z m (a.drop (a.length - k))):=by
 have e:a.drop (a.length - (k+1))=a.getD (a.length - 1 - k) 0::a.drop (a.length - k):=by
  rw [List.drop_eq_getElem_cons (by omega),List.getD_eq_getElem?_getD,List.getElem?_eq_getElem (by omega)]
  congr 2 <;> omega
 have lk:(a.drop (a.length - k)).length=k:=by rw [List.length_drop];omega
 rcases Nat.eq_zero_or_pos z with p | p
 ·subst p;rw [gr_zero,gr_zero,e,if_neg (by omega)];rfl
 ·rw [e]
  unfold gr
  rw [List.reverse_cons,RJ_snoc p _ _ (Nat.le_refl _),List.length_reverse,lk]
  by_cases q:0 < k∧k % z=0
  ·rw [if_pos q,if_pos ⟨p,q⟩];simp
  ·rw [if_neg q,if_neg (fun h=>q h.2)];simp
theorem r_ixTs {K:W.Frag} {H:Hp} {Q:VK} {p:Addr} {ts:List (List Nat)} {i:Int} (h:SqL K H p (ts.map fun l=>V.str (T l))) (h0:0≤i) (h1:i < ts.length) (q:Q (.str (T (ts.getD i.toNat []))) H):rIxL K (.ref p) (.int i) H Q:=by
 refine r_ixAll h h0 (by rw [List.length_map];exact h1) fun x hx=>?_
 have h2:i.toNat < ts.length:=by omega
 rw [List.getElem?_map,List.getElem?_eq_getElem h2] at hx
 cases hx
 rw [List.getD_eq_getElem?_getD,List.getElem?_eq_getElem h2] at q
 exact q
section
variable {X : Cx} {H : Hp} {Q : VK} {K : W.Frag}
def rIsN:R2:=fun x y H Q=>y = .non∧Q (.bl (decide (x = .non))) H
theorem op_isN2:OpR X (compareOp .Is) rIsN:=op_isN
theorem r_isNN (q:Q (.bl true) H):rIsN .non .non H Q:=⟨rfl,by rw [decide_eq_true rfl];exact q⟩
inductive NT (H:Hp):V→Prop where
 | int (i:Int):NT H (.int i)
 | non:NT H .non
 | bl (b:Bool):NT H (.bl b)
 | lst {p:Addr} {xs:List V} (e:H p=some (.lst xs)):NT H (.ref p)
 | tup {p:Addr} {xs:List V} (e:H p=some (.tup xs)):NT H (.ref p)
 | dct {p:Addr} (e:H p=some (dctO p)):NT H (.ref p)
theorem NT.same {H H':Hp} {v:V} (h:NT H v) (g:Same H H'):NT H' v:=by
 cases h with
 | int i=>exact .int i
 | non=>exact .non
 | bl b=>exact .bl b
 | lst e=>exact .lst (g _ _ e)
 | tup e=>exact .tup (g _ _ e)
 | dct e=>exact .dct (g _ _ e)
def Asc (l:List Nat):Prop:=∀ c ∈ l,c < 127
theorem Asc.nil:Asc []:=fun _ h=>nomatch h
theorem Asc.app {l m:List Nat} (h:Asc l) (h':Asc m):Asc (l++m):=fun c hc=>(List.mem_append.mp hc).elim (h c) (h' c)
theorem Asc.one {c:Nat} (h:c < 127):Asc [c]:=fun d hd=>by rw [List.mem_singleton.mp hd];exact h
theorem Asc.take {l:List Nat} (h:Asc l) (n:Nat):Asc (l.take n):=fun c hc=>h c (List.mem_of_mem_take hc)
theorem Asc.drop {l:List Nat} (h:Asc l) (n:Nat):Asc (l.drop n):=fun c hc=>h c (List.mem_of_mem_drop hc)
theorem Asc.rep {l:List Nat} (h:Asc l) (n:Nat):Asc (List.replicate n l).flatten:=fun c hc=>by
 obtain ⟨m,hm,hc⟩:=List.mem_flatten.mp hc
 rw [List.eq_of_mem_replicate hm] at hc
 exact h c hc
theorem FigB.asc {b:Int} {l:List Nat} (h:FigB b l):Asc l:=fun c hc=>(h c hc).1
end
theorem pe_strT {X:Cx} {x:Str} {l:List Nat} {j:Nat} {pos:Pos} (e:x=T l):PE X (.Constant (.str x) j pos) (tC (.str (T l))):=by
 rw [← e];exact pe_str
theorem RJ_length {z m : Nat} (hz : 0 < z) : ∀ (k : Nat) (b : List Nat), b.length ≤ k → 1 ≤ b.length → (RJ z m b).length = b.length + (b.length - 1) / z
  | 0, b, h, h1 => by omega
  | k + 1, b, h, h1 => by
    rcases Nat.lt_or_ge z b.length with q | q
    · have ih := RJ_length (m := m) hz k (b.drop z) (by rw [List.length_drop]; omega) (by rw [List.length_drop]; omega)
      rw [List.length_drop] at ih
      rw [RJ_gt hz q, List.length_append, List.length_take, List.length_cons, ih]
      have e : (b.length - 1) / z = (b.length - z - 1) / z + 1 := by
        rw [Nat.div_eq_sub_div hz (by omega), show b.length - 1 - z = b.length - z - 1 by omega]
      omega
    · rw [RJ_le q, Nat.div_eq_of_lt (by omega)]; omega
theorem UJ_pos_len {z:Nat} {c:List Nat} (hz:0 < z) (h:0 < c.length):0 < (UJ z c).length:=by
 rw [UJ_pos hz h,List.length_append,List.length_take];omega
theorem RJ_UJ {z m : Nat} (hz : 0 < z) : ∀ (k : Nat) (c : List Nat), c.length ≤ k → c.length % (z + 1) ≠ 0 → (∀ j, j < c.length → j % (z + 1) = z → c.getD j 0 = m) → RJ z m (UJ z c) = c
  | 0, c, h, h0, _ => by rw [show c.length = 0 by omega] at h0; simp at h0
  | k + 1, c, h, h0, hm => by
    have p0 : 0 < c.length := by
      rcases Nat.eq_zero_or_pos c.length with p | p
      · rw [p] at h0; simp at h0
      · exact p
    rcases Nat.lt_trichotomy c.length (z + 1) with q | q | q
    · rw [UJ_pos hz p0, List.take_of_length_le (by omega), List.drop_of_length_le (by omega), UJ_nil, List.append_nil, RJ_le (by omega)]
    · rw [q, Nat.mod_self] at h0; exact absurd rfl h0
    · have l1 : (c.take z).length = z := by rw [List.length_take]; omega
      have l2 : (c.drop (z + 1)).length = c.length - (z + 1) := List.length_drop ..
      have ih := RJ_UJ (m := m) hz k (c.drop (z + 1)) (by omega) (by rw [l2, ← Nat.mod_eq_sub_mod (by omega)]; exact h0) (fun j hj he => by
        have z1 := hm (z + 1 + j) (by omega) (by rw [Nat.add_mod_left]; exact he)
        rw [List.getD_eq_getElem?_getD] at z1 ⊢
        rw [List.getElem?_drop]; exact z1)
      have up := UJ_pos_len (c := c.drop (z + 1)) hz (by omega)
      rw [UJ_pos hz p0, RJ_gt hz (by rw [List.length_append, l1]; omega), List.take_append_of_le_length (by omega), List.take_of_length_le (by omega), List.drop_append_of_le_length (by omega), List.drop_of_length_le (by omega), List.nil_append, ih]
      have cz := hm z (by omega) (Nat.mod_eq_of_lt (by omega))
      rw [List.getD_eq_getElem?_getD, List.getElem?_eq_getElem (by omega)] at cz
      have cz' : c[z] = m := cz
      rw [← cz', ← List.drop_eq_getElem_cons, List.take_append_drop]
def GG (z m:Nat) (t:List Nat):Prop:=1≤(ug z t).length∧(ug z t).length≤40∧gr z m (ug z t)=t
theorem GG.len {z m:Nat} {t:List Nat} (h:GG z m t):(ug z t).length+(if 0 < z then ((ug z t).length - 1) / z else 0)=t.length:=by
 have e:=congrArg List.length h.2.2
 rcases Nat.eq_zero_or_pos z with p | p
 ·subst p;rw [gr_zero] at e;simp;exact e
 ·unfold gr at e
  rw [List.length_reverse,RJ_length p _ _ (Nat.le_refl _) (by rw [List.length_reverse];exact h.1),List.length_reverse] at e
  rw [if_pos p];exact e
theorem getD_rev {l:List Nat} {j:Nat} (h:j < l.length):l.reverse.getD j 0=l.getD (l.length - 1 - j) 0:=by
 rw [List.getD_eq_getElem?_getD,List.getD_eq_getElem?_getD,List.getElem?_reverse h]
theorem many_inj {z a b:Nat} (h1:1≤a) (h2:1≤b) (h:a+(a - 1) / z=b+(b - 1) / z):a=b:=by
 rcases Nat.lt_trichotomy a b with p | p | p
 ·have:=Nat.div_le_div_right (c:=z) (show a - 1≤b - 1 by omega);omega
 ·exact p
 ·have:=Nat.div_le_div_right (c:=z) (show b - 1≤a - 1 by omega);omega
theorem GG.of {z m many:Nat} {t:List Nat} (h1:1≤many) (h2:many≤40) (hl:many+(if 0 < z then (many - 1) / z else 0)=t.length) (hm:0 < z → ∀ k,k < t.length→(t.length - 1 - k) % (z+1)=z→t.getD k 0=m):GG z m t:=by
 rcases Nat.eq_zero_or_pos z with p | p
 ·subst p
  have e:ug 0 t=t:=rfl
  unfold GG;rw [e,gr_zero];simp at hl;exact ⟨by omega,by omega,rfl⟩
 ·rw [if_pos p] at hl
  have hn:t.length % (z+1)≠0:=by
   have d:=Nat.div_add_mod (many - 1) z
   have r:=Nat.mod_lt (many - 1) p
   generalize (many - 1) / z=q at *
   generalize (many - 1) % z=r' at *
   have e:t.length=r'+1+(z+1)*q:=by rw [Nat.add_mul,Nat.one_mul];omega
   rw [e,Nat.add_mul_mod_self_left,Nat.mod_eq_of_lt (by omega)];omega
  have rj:=RJ_UJ (m:=m) p _ t.reverse (Nat.le_refl _) (by rw [List.length_reverse];exact hn) (fun j hj he=>by
   rw [List.length_reverse] at hj
   rw [getD_rev hj]
   exact hm p _ (by omega) (by rw [show t.length - 1 - (t.length - 1 - j)=j by omega];exact he))
  have e:ug z t=(UJ z t.reverse).reverse:=by unfold ug;rw [if_neg (by omega)]
  have tp:0 < t.length:=Nat.lt_of_lt_of_le (show 0 < many by omega) (by rw [← hl];exact Nat.le_add_right _ _)
  have up:=UJ_pos_len (c:=t.reverse) p (by rw [List.length_reverse];exact tp)
  have ln:=RJ_length (m:=m) p _ (UJ z t.reverse) (Nat.le_refl _) up
  rw [rj,List.length_reverse] at ln
  have em:=many_inj (z:=z) (a:=(UJ z t.reverse).length) (b:=many) up h1 (by omega)
  refine ⟨by rw [e,List.length_reverse];omega,by rw [e,List.length_reverse];omega,?_⟩
  rw [e];unfold gr;rw [List.reverse_reverse,rj,List.reverse_reverse]
section
variable {σ : St} {H : Hp} {Q : VK} {D : Ends} {K : W.Frag}
def kForR2 (g:TG) (tb:TS) (D:Ends) (σ:St) (vs:List V) (H:Hp):Prop:=∃ i j:Int,vs=[.int i,.int j]∧(-(2 ^ 62)≤i∧i < 2 ^ 62 ∧ -(2 ^ 62)≤j∧j < 2 ^ 62) ∧ ∃ W:Nat→Nat→St→Hp→Prop,(∃ m,W 0 m σ H) ∧ ∀ k m σ H,W k m σ H →
 ((Itr i (j - i).toNat).stop k H∧D.nx σ H)∨((Itr i (j - i).toNat).go k H ∧ ∃ N:St→Hp→Prop,(∀ σ' H',N σ' H' → ∃ m',m' < m∧W (k+1) m' σ' H') ∧ ∀ x H',(Itr i (j - i).toNat).yld k H x H'→g x σ H' fun σ2 H2=>tb { D with nx:=N,ct:=N,bk:=D.nx } σ2 H2)
theorem r_forR2 {ta:TA} {g:TG} {tb:TS} (h:ta σ H (kForR2 g tb D σ)):tFor (iRng2 ta) g tb D σ H:=h
theorem r_kForR2 {g:TG} {tb:TS} {i j:Int} (hb : -(2 ^ 62)≤i∧i < 2 ^ 62 ∧ -(2 ^ 62)≤j∧j < 2 ^ 62) (Pv:Nat→St→Hp→Prop) (h0:Pv 0 σ H)
  (hs : ∀ k σ H,k < (j - i).toNat→Pv k σ H→g (.int (i+k)) σ H fun σ2 H2=>tb { D with nx:=Pv (k+1),ct:=Pv (k+1),bk:=D.nx } σ2 H2) (hd : ∀ σ H,Pv (j - i).toNat σ H→D.nx σ H):kForR2 g tb D σ [.int i,.int j] H:=⟨i,j,rfl,hb,for_range Pv h0 hs hd⟩
end
def KD (w:World) (K:W.Frag) (d:Addr) (z:Str) (v:Addr):Prop:=∃ (es:Array DictEntry) (n:Nat),K.lookup d=some { cls:=.type "dict", data:=.dict es n }∧(∀ e,e ∈ es → ∃ k,Value.isStrOf k e.key=true∧e.hash=hashStr w k)∧findBy Value.isStrOf es z=some (.ref v)
def rIxD (w:World) (K:W.Frag):R2:=fun x y H Q=>∃ d z v,x = .ref d∧y = .str z∧KD w K d z v∧Q (.ref v) H
section
variable {X : Cx} {H : Hp} {Q : VK} {K : W.Frag} {w : World}
theorem ix_kd:IxR X (rIxD X.w X.K):=by
 intro value slice pins s σ H x y v u Q I rx ry h hs
 obtain ⟨d,z,p,rfl,rfl,⟨es,n,lk,ks,f⟩,q⟩:=h
 cases rx
 obtain ⟨t,rfl⟩:=ry
 have ho:=I.kIn d _ lk
 have fin : ∀ k,EP X pins σ Q (.ref p) { s with toks:=k }:=fun k=>⟨.ref p,H,I.tok _,rfl,q⟩
 exact subscriptTail_builtinR (x:=.ref p) ⟨_,ho,rfl⟩ slot_dict_getitem.lookup
  (wpAny_getItem_of (knd:=PySem.strKind X.prog X.w) (k:=z) (f:=fun k=>findBy Value.isStrOf es k) (Q:=fun r s'=>r = .ref p∧EP X pins σ Q r s') (by simp [PySem.strKind,Value.isStrOf]) ⟨_,es,n,ho,⟨rfl,rfl,rfl⟩,rfl,ks,fun k=>rfl⟩ f ⟨rfl,fin _⟩) hs
theorem r_ixD {d v:Addr} {z:Str} (h:KD w K d z v) (q:Q (.ref v) H):rIxD w K (.ref d) (.str z) H Q:=⟨d,z,v,rfl,rfl,h,q⟩
theorem r_ixQ {p:Addr} {xs:List V} {i:Int} {v:V} (h:SqT K H p xs) (e:atI xs i=some v) (q:Q v H):rIxT K (.ref p) (.int i) H Q:=⟨p,xs,i,v,rfl,rfl,h,e,q⟩
theorem SqT.same {H H':Hp} {p:Addr} {xs:List V} (h:SqT K H p xs) (e:Same H H'):SqT K H' p xs:=by
 rcases h with h | h
 ·rcases h with h | ⟨o,h⟩
  ·exact .inl (.inl (e _ _ h))
  ·exact .inl (.inr ⟨o,e _ _ h⟩)
 ·exact .inr h
theorem SqT.mod {p:Addr} {xs:List V} {its:List Value} {n:Nat} (lk:K.lookup p=some { cls:=.type "tuple", data:=.seq its.toArray n }) (hz:its.length≤1000) (r:Vals xs its):SqT K H p xs:=.inr ⟨_,its.toArray,n,lk,rfl,rfl,small (by simpa using hz),by simpa using r⟩
end
def stL (x:Str) (b:Bool):List Nat:=if x = "minus" then (if b then [45] else []) else if x = "plus" then (if b then [45] else [43]) else if x = "blank" then (if b then [45] else [32]) else if x = "brackets" then (if b then [40] else []) else []
def stT (x:Str) (b:Bool):List Nat:=if x = "minus" then [] else if x = "plus" then [] else if x = "blank" then [] else if x = "brackets" then (if b then [41] else []) else (if b then [45] else [])
def Style (x:Str):Prop:=x = "minus" ∨ x = "plus" ∨ x = "blank" ∨ x = "brackets" ∨ x = "behind"
theorem st_minus (b:Bool):stL "minus" b=(if b then [45] else [])∧stT "minus" b=[]:=by unfold stL stT;cases b <;> decide +kernel
theorem st_plus (b:Bool):stL "plus" b=(if b then [45] else [43])∧stT "plus" b=[]:=by unfold stL stT;cases b <;> decide +kernel
theorem st_blank (b:Bool):stL "blank" b=(if b then [45] else [32])∧stT "blank" b=[]:=by unfold stL stT;cases b <;> decide +kernel
theorem st_brackets (b:Bool):stL "brackets" b=(if b then [40] else [])∧stT "brackets" b=(if b then [41] else []):=by unfold stL stT;cases b <;> decide +kernel
theorem st_behind (b:Bool):stL "behind" b=[]∧stT "behind" b=(if b then [45] else []):=by unfold stL stT;cases b <;> decide +kernel
theorem st_len {x:Str} (h:Style x) (b:Bool):(stL x b).length≤1∧(stT x b).length≤1:=by
 rcases h with rfl | rfl | rfl | rfl | rfl
 ·rw [(st_minus b).1,(st_minus b).2];cases b <;> decide
 ·rw [(st_plus b).1,(st_plus b).2];cases b <;> decide
 ·rw [(st_blank b).1,(st_blank b).2];cases b <;> decide
 ·rw [(st_brackets b).1,(st_brackets b).2];cases b <;> decide
 ·rw [(st_behind b).1,(st_behind b).2];cases b <;> decide
def Sty (w:World) (K:W.Frag) (d:Addr):Prop:=∀ (x:Str),Style x → ∃ p a b:Addr,KD w K d x p ∧ ∀ H:Hp,SqT K H p [.ref a,.ref b]∧SqT K H a [.str (T (stL x false)),.str (T (stT x false))]∧SqT K H b [.str (T (stL x true)),.str (T (stT x true))]
theorem sty_mk {w:World} {K:W.Frag} {d:Addr} {n0:Nat} {t0:Tok} {p0 a0 b0:Addr} {n01 n02 n03:Nat} {u01 u02 u03 u04:Tok} {t1:Tok} {p1 a1 b1:Addr} {n11 n12 n13:Nat} {u11 u12 u13 u14:Tok} {t2:Tok} {p2 a2 b2:Addr} {n21 n22 n23:Nat} {u21 u22 u23 u24:Tok} {t3:Tok} {p3 a3 b3:Addr} {n31 n32 n33:Nat} {u31 u32 u33 u34:Tok} {t4:Tok} {p4 a4 b4:Addr} {n41 n42 n43:Nat} {u41 u42 u43 u44:Tok}
  (hd:K.lookup d=some { cls:=.type "dict", data:=.dict #[⟨PyData.keyHash w.params "minus", .str "minus" t0,.ref p0⟩,⟨PyData.keyHash w.params "plus", .str "plus" t1,.ref p1⟩,⟨PyData.keyHash w.params "blank", .str "blank" t2,.ref p2⟩,⟨PyData.keyHash w.params "brackets", .str "brackets" t3,.ref p3⟩,⟨PyData.keyHash w.params "behind", .str "behind" t4,.ref p4⟩] n0 })
  (hp0:K.lookup p0=some { cls:=.type "tuple", data:=.seq #[.ref a0,.ref b0] n01 })
  (ha0:K.lookup a0=some { cls:=.type "tuple", data:=.seq #[.str "" u01,.str "" u02] n02 })
  (hb0:K.lookup b0=some { cls:=.type "tuple", data:=.seq #[.str "-" u03,.str "" u04] n03 })
  (hp1:K.lookup p1=some { cls:=.type "tuple", data:=.seq #[.ref a1,.ref b1] n11 })
  (ha1:K.lookup a1=some { cls:=.type "tuple", data:=.seq #[.str "+" u11,.str "" u12] n12 })
  (hb1:K.lookup b1=some { cls:=.type "tuple", data:=.seq #[.str "-" u13,.str "" u14] n13 })
  (hp2:K.lookup p2=some { cls:=.type "tuple", data:=.seq #[.ref a2,.ref b2] n21 })
  (ha2:K.lookup a2=some { cls:=.type "tuple", data:=.seq #[.str " " u21,.str "" u22] n22 })
  (hb2:K.lookup b2=some { cls:=.type "tuple", data:=.seq #[.str "-" u23,.str "" u24] n23 })
  (hp3:K.lookup p3=some { cls:=.type "tuple", data:=.seq #[.ref a3,.ref b3] n31 })
  (ha3:K.lookup a3=some { cls:=.type "tuple", data:=.seq #[.str "" u31,.str "" u32] n32 })
  (hb3:K.lookup b3=some { cls:=.type "tuple", data:=.seq #[.str "(" u33,.str ")" u34] n33 })
  (hp4:K.lookup p4=some { cls:=.type "tuple", data:=.seq #[.ref a4,.ref b4] n41 })
  (ha4:K.lookup a4=some { cls:=.type "tuple", data:=.seq #[.str "" u41,.str "" u42] n42 })
  (hb4:K.lookup b4=some { cls:=.type "tuple", data:=.seq #[.str "" u43,.str "-" u44] n43 }):Sty w K d:=by
 have ks : ∀ e,e ∈ (#[⟨PyData.keyHash w.params "minus", .str "minus" t0,.ref p0⟩,⟨PyData.keyHash w.params "plus", .str "plus" t1,.ref p1⟩,⟨PyData.keyHash w.params "blank", .str "blank" t2,.ref p2⟩,⟨PyData.keyHash w.params "brackets", .str "brackets" t3,.ref p3⟩,⟨PyData.keyHash w.params "behind", .str "behind" t4,.ref p4⟩]:Array DictEntry) → ∃ k,Value.isStrOf k e.key=true∧e.hash=hashStr w k:=by
  intro e he
  simp only [List.mem_toArray,List.mem_cons,List.not_mem_nil,or_false] at he
  rcases he with rfl | rfl | rfl | rfl | rfl
  ·exact ⟨"minus", by simp [Value.isStrOf],rfl⟩
  ·exact ⟨"plus", by simp [Value.isStrOf],rfl⟩
  ·exact ⟨"blank", by simp [Value.isStrOf],rfl⟩
  ·exact ⟨"brackets", by simp [Value.isStrOf],rfl⟩
  ·exact ⟨"behind", by simp [Value.isStrOf],rfl⟩
 intro x hx
 rcases hx with rfl | rfl | rfl | rfl | rfl
 ·refine ⟨p0,a0,b0,⟨_,_,hd,ks,?_⟩,fun H=>⟨.mod hp0 (by simp) (.cons rfl (.cons rfl .nil)),.mod ha0 (by simp) (.cons ⟨u01,?_⟩ (.cons ⟨u02,?_⟩ .nil)),.mod hb0 (by simp) (.cons ⟨u03,?_⟩ (.cons ⟨u04,?_⟩ .nil))⟩⟩
  ·unfold findBy
   simp only [List.find?_toArray,List.find?_cons]
   rfl
  ·exact congrArg (fun z=>Value.str z _) (by rw [(st_minus _).1];decide +kernel)
  ·exact congrArg (fun z=>Value.str z _) (by rw [(st_minus _).2];decide +kernel)
  ·exact congrArg (fun z=>Value.str z _) (by rw [(st_minus _).1];decide +kernel)
  ·exact congrArg (fun z=>Value.str z _) (by rw [(st_minus _).2];decide +kernel)
 ·refine ⟨p1,a1,b1,⟨_,_,hd,ks,?_⟩,fun H=>⟨.mod hp1 (by simp) (.cons rfl (.cons rfl .nil)),.mod ha1 (by simp) (.cons ⟨u11,?_⟩ (.cons ⟨u12,?_⟩ .nil)),.mod hb1 (by simp) (.cons ⟨u13,?_⟩ (.cons ⟨u14,?_⟩ .nil))⟩⟩
  ·unfold findBy
   simp only [List.find?_toArray,List.find?_cons]
   rfl
  ·exact congrArg (fun z=>Value.str z _) (by rw [(st_plus _).1];decide +kernel)
  ·exact congrArg (fun z=>Value.str z _) (by rw [(st_plus _).2];decide +kernel)
  ·exact congrArg (fun z=>Value.str z _) (by rw [(st_plus _).1];decide +kernel)
  ·exact congrArg (fun z=>Value.str z _) (by rw [(st_plus _).2];decide +kernel)
 ·refine ⟨p2,a2,b2,⟨_,_,hd,ks,?_⟩,fun H=>⟨.mod hp2 (by simp) (.cons rfl (.cons rfl .nil)),.mod ha2 (by simp) (.cons ⟨u21,?_⟩ (.cons ⟨u22,?_⟩ .nil)),.mod hb2 (by simp) (.cons ⟨u23,?_⟩ (.cons ⟨u24,?_⟩ .nil))⟩⟩
  ·unfold findBy
   simp only [List.find?_toArray,List.find?_cons]
   rfl
  ·exact congrArg (fun z=>Value.str z _) (by rw [(st_blank _).1];decide +kernel)
  ·exact congrArg (fun z=>Value.str z _) (by rw [(st_blank _).2];decide +kernel)
  ·exact congrArg (fun z=>Value.str z _) (by rw [(st_blank _).1];decide +kernel)
  ·exact congrArg (fun z=>Value.str z _) (by rw [(st_blank _).2];decide +kernel)
 ·refine ⟨p3,a3,b3,⟨_,_,hd,ks,?_⟩,fun H=>⟨.mod hp3 (by simp) (.cons rfl (.cons rfl .nil)),.mod ha3 (by simp) (.cons ⟨u31,?_⟩ (.cons ⟨u32,?_⟩ .nil)),.mod hb3 (by simp) (.cons ⟨u33,?_⟩ (.cons ⟨u34,?_⟩ .nil))⟩⟩
  ·unfold findBy
   simp only [List.find?_toArray,List.find?_cons]
   rfl
  ·exact congrArg (fun z=>Value.str z _) (by rw [(st_brackets _).1];decide +kernel)
  ·exact congrArg (fun z=>Value.str z _) (by rw [(st_brackets _).2];decide +kernel)
  ·exact congrArg (fun z=>Value.str z _) (by rw [(st_brackets _).1];decide +kernel)
  ·exact congrArg (fun z=>Value.str z _) (by rw [(st_brackets _).2];decide +kernel)
 ·refine ⟨p4,a4,b4,⟨_,_,hd,ks,?_⟩,fun H=>⟨.mod hp4 (by simp) (.cons rfl (.cons rfl .nil)),.mod ha4 (by simp) (.cons ⟨u41,?_⟩ (.cons ⟨u42,?_⟩ .nil)),.mod hb4 (by simp) (.cons ⟨u43,?_⟩ (.cons ⟨u44,?_⟩ .nil))⟩⟩
  ·unfold findBy
   simp only [List.find?_toArray,List.find?_cons]
   rfl
  ·exact congrArg (fun z=>Value.str z _) (by rw [(st_behind _).1];decide +kernel)
  ·exact congrArg (fun z=>Value.str z _) (by rw [(st_behind _).2];decide +kernel)
  ·exact congrArg (fun z=>Value.str z _) (by rw [(st_behind _).1];decide +kernel)
  ·exact congrArg (fun z=>Value.str z _) (by rw [(st_behind _).2];decide +kernel)
section
variable {X : Cx} {σ : St} {H : Hp} {Q : VK} {D : Ends} {K : W.Frag}
def kForT (K:PySem.W.Frag) (g:TG) (tb:TS) (D:Ends) (σ:St) (x:V) (H:Hp):Prop:=∃ a,x = .ref a∧(∃ xs,SqT K H a xs) ∧ ∃ W:Nat→Nat→St→Hp→Prop,(∃ m,W 0 m σ H) ∧ ∀ i m σ H,W i m σ H →
 ((Itt K a).stop i H∧D.nx σ H)∨((Itt K a).go i H ∧ ∃ N:St→Hp→Prop,(∀ σ' H',N σ' H' → ∃ m',m' < m∧W (i+1) m' σ' H') ∧ ∀ x H',(Itt K a).yld i H x H'→g x σ H' fun σ2 H2=>tb { D with nx:=N,ct:=N,bk:=D.nx } σ2 H2)
theorem r_forT {tl:TE} {g:TG} {tb:TS} (h:tl σ H (kForT K g tb D σ)):tFor (iTup K tl) g tb D σ H:=h
theorem r_kForT {g:TG} {tb:TS} {a:Addr} {xs:List V} (hx:SqT K H a xs) (Pv:Nat→St→Hp→Prop) (h0:Pv 0 σ H) (hl : ∀ i σ H,i≤xs.length→Pv i σ H→SqT K H a xs)
  (hs : ∀ i x σ H,xs[i]? = some x→Pv i σ H→g x σ H fun σ2 H2=>tb { D with nx:=Pv (i+1),ct:=Pv (i+1),bk:=D.nx } σ2 H2) (hd : ∀ σ H,Pv xs.length σ H→D.nx σ H):kForT K g tb D σ (.ref a) H:=⟨a,rfl,⟨xs,hx⟩,for_tup Pv h0 hl hs hd⟩
theorem in_all : ∀ c ∈ List.range 127,(!(Builtin.Str.occurrences "0123456789abcdef" (T [c]) 0 (Str.ofString "0123456789abcdef").length 1).isEmpty)=decide (0≤fv c):=by decide +kernel
theorem r_inF {c:Nat} (h:c < 127) (q:Q (.bl (decide (0≤fv c))) H):rInS (.str (T [c])) (.str "0123456789abcdef") H Q:=r_inS (by rw [in_all c (List.mem_range.mpr h)];exact q)
theorem rTT_slE {lo hi:Option Int} (q:Q (.str (T [])) H):rSlS (.str (T [])) lo hi H Q:=by
 refine r_slS (by decide) ?_
 rw [slice_T,Lt_T];simpa using q
end
def bod (x:Str) (b:Bool) (t:List Nat):List Nat:=(t.take (t.length - (stT x b).length)).drop (stL x b).length
def Fg (l:List Nat):Prop:=l≠[]∧0≤fv (l.getD 0 0)∧0≤fv (l.getD (l.length - 1) 0)
def Sgd (x:Str) (b:Bool) (t:List Nat):Prop:=Fg (bod x b t)∧stL x b++bod x b t++stT x b=t
theorem bod_len {x:Str} {b:Bool} {t:List Nat}:(bod x b t).length=t.length - (stT x b).length - (stL x b).length:=by
 unfold bod;rw [List.length_drop,List.length_take];omega
theorem bod_asc {x:Str} {b:Bool} {t:List Nat} (h:Asc t):Asc (bod x b t):=(h.take _).drop _
theorem getD_asc {t:List Nat} {i:Nat} (h:Asc t) (hi:i < t.length):t.getD i 0 < 127:=by
 rw [List.getD_eq_getElem?_getD,List.getElem?_eq_getElem hi];exact h _ (List.getElem_mem hi)
theorem no_fig_eq {c d:Nat} (h:0≤fv c) (e:c=d) (hd:fv d = -1):False:=by rw [e,hd] at h;omega
theorem one_way {x:Str} (hx:Style x) {t:List Nat} (h0:Sgd x false t) (h1:Sgd x true t):False:=by
 have b0:=List.length_pos_iff.mpr h0.1.1
 have b1:=List.length_pos_iff.mpr h1.1.1
 have e0:=h0.2
 have e1:=h1.2
 have f0:=h0.1.2
 generalize hB:bod x false t=B at *
 generalize hC:bod x true t=C at *
 have e:=e0.trans e1.symm
 rcases hx with rfl | rfl | rfl | rfl | rfl
 ·rw [(st_minus _).1,(st_minus _).2,(st_minus _).1,(st_minus _).2] at e
  have z1:=congrArg (fun l=>l.getD 0 0) e
  exact no_fig_eq f0.1 (by simpa using z1) (by decide)
 ·rw [(st_plus _).1,(st_plus _).2,(st_plus _).1,(st_plus _).2] at e
  have z1:=congrArg (fun l=>l.getD 0 0) e
  simp at z1
 ·rw [(st_blank _).1,(st_blank _).2,(st_blank _).1,(st_blank _).2] at e
  have z1:=congrArg (fun l=>l.getD 0 0) e
  simp at z1
 ·rw [(st_brackets _).1,(st_brackets _).2,(st_brackets _).1,(st_brackets _).2] at e
  have z1:=congrArg (fun l=>l.getD 0 0) e
  exact no_fig_eq f0.1 (by simpa using z1) (by decide)
 ·rw [(st_behind _).1,(st_behind _).2,(st_behind _).1,(st_behind _).2] at e
  have e':B=C++[45]:=by simpa using e
  have z1:B.getD (B.length - 1) 0=45:=by
   rw [e',List.length_append,List.length_singleton,Nat.add_sub_cancel,getD_app2 (Nat.le_refl _),Nat.sub_self];rfl
  exact no_fig_eq f0.2 z1 (by decide)
theorem st_asc {x:Str} (h:Style x) (b:Bool):Asc (stL x b)∧Asc (stT x b):=by
 unfold Asc
 rcases h with rfl | rfl | rfl | rfl | rfl
 ·rw [(st_minus b).1,(st_minus b).2];cases b <;> decide
 ·rw [(st_plus b).1,(st_plus b).2];cases b <;> decide
 ·rw [(st_blank b).1,(st_blank b).2];cases b <;> decide
 ·rw [(st_brackets b).1,(st_brackets b).2];cases b <;> decide
 ·rw [(st_behind b).1,(st_behind b).2];cases b <;> decide
section
variable {X : Cx} {H : Hp} {Q : VK} {K : W.Frag} {σ : St}
def rRjT:V→List V→Hp→VK→Prop:=fun x vs H Q=>∃ (a:List Nat) (i:Int) (c:Nat),x = .str (T a)∧vs=[.int i,.str (T [c])]∧0≤i∧i≤1000∧Q (.str (T (List.replicate (i.toNat - a.length) c++a))) H
theorem mt_rjustT:MtR X "str.rjust" rRjT:=by
 intro pins s σ H x vs v us Q I rx rv h
 obtain ⟨a,i,c,rfl,rfl,h0,h1,q⟩:=h
 obtain ⟨t,rfl⟩:=rx
 obtain ⟨u1,u2,rfl,r1,r2⟩:=vals2 rv
 obtain ⟨t1,rfl⟩:=r1
 obtain ⟨t2,rfl⟩:=r2
 have pk:PadOk i=true:=by
  unfold PadOk Builtin.Str.tooLong fitsSsize
  have : ¬ i.toNat > sizeLine:=by show ¬ i.toNat > 16777216;omega
  rw [decide_eq_false this]
  simp
  omega
 refine rjust_fill pk rfl fun t' k=>⟨.str _,H,I.tok _,⟨t',rfl⟩,?_⟩
 have e:Txt.rjustF (T a) i ((T [c]).cps.getD 0 0)=T (List.replicate (i.toNat - a.length) c++a):=Lt_inj (rjustF_list (T a) i c)
 rw [e];exact q
theorem r_rjT {a:List Nat} {i:Int} {c:Nat} (h0:0≤i) (h1:i≤1000) (q:Q (.str (T (List.replicate (i.toNat - a.length) c++a))) H):rRjT (.str (T a)) [.int i,.str (T [c])] H Q:=⟨a,i,c,rfl,rfl,h0,h1,q⟩
end
def dgs (b p n:Nat):List Nat:=List.replicate (p+1 - (figs b n).length) 48++figs b n
theorem dgs_spec {b p n:Nat} (h2:2≤b) (h16:b≤16) (hp:p≤6) (h:n < b ^ (40+p)):FigB b (dgs b p n)∧val b (dgs b p n)=n∧p+1≤(dgs b p n).length∧(dgs b p n).length≤40+p∧((dgs b p n).getD 0 0=48→(dgs b p n).length=p+1):=by
 have s:=figs_spec h2 h16 n n (Nat.le_refl _)
 have ln:=figs_len h2 (39+p) n (by rw [show 39+p+1=40+p by omega];exact h)
 have ps:=List.length_pos_iff.mpr s.2.2.1
 have ld:(dgs b p n).length=p+1 - (figs b n).length+(figs b n).length:=by unfold dgs;rw [List.length_append,List.length_replicate]
 refine ⟨(FigB.noughts (by omega) _).app s.1,?_,by omega,by omega,fun z=>?_⟩
 ·unfold dgs;rw [val_noughts];exact s.2.1
 ·rcases Nat.lt_or_ge (p+1) (figs b n).length with q | q
  ·have e:dgs b p n=figs b n:=by unfold dgs;rw [show p+1 - (figs b n).length=0 by omega];rfl
   rw [e] at z
   have:=s.2.2.2 z
   subst this
   rw [figs_lt (by omega)] at q
   simp at q
  ·omega
def whl (b p n:Nat):List Nat:=(dgs b p n).take ((dgs b p n).length - p)
def rst (b p n:Nat):List Nat:=(dgs b p n).drop ((dgs b p n).length - p)
def bdy (b p pt z m n:Nat):List Nat:=if p=0 then gr z m (whl b p n) else gr z m (whl b p n)++[pt]++rst b p n
theorem whl_rst (b p n:Nat):whl b p n++rst b p n=dgs b p n:=List.take_append_drop _ _
theorem whl_spec {b p n:Nat} (h2:2≤b) (h16:b≤16) (hp:p≤6) (h:n < b ^ (40+p)):1≤(whl b p n).length∧(whl b p n).length≤40∧(rst b p n).length=p∧((whl b p n).getD 0 0=48→(whl b p n).length=1):=by
 have s:=dgs_spec h2 h16 hp h
 have lw:(whl b p n).length=(dgs b p n).length - p:=by unfold whl;rw [List.length_take];omega
 refine ⟨by omega,by omega,by unfold rst;rw [List.length_drop];omega,fun z=>?_⟩
 have e:(whl b p n).getD 0 0=(dgs b p n).getD 0 0:=by
  rw [← whl_rst b p n,getD_app1 (by omega)]
 rw [e] at z
 have:=s.2.2.2.2 z
 omega
theorem gr_front {z m k:Nat} {a:List Nat} (hk:k < a.length):gr z m (a.drop k)=a.getD k 0::((if 0 < z∧0 < a.length - (k+1)∧(a.length - (k+1)) % z=0 then [m] else [])++gr z m (a.drop (k+1))):=by
 have t:=gr_turn (z:=z) (m:=m) (a:=a) (k:=a.length - (k+1)) (by omega)
 rw [show a.length - (a.length - (k+1)+1)=k by omega,show a.length - 1 - (a.length - (k+1))=k by omega,show a.length - (a.length - (k+1))=k+1 by omega] at t
 exact t
theorem RJ_mem {z m : Nat} : ∀ (k : Nat) (b : List Nat), b.length ≤ k → ∀ c ∈ RJ z m b, c ∈ b ∨ c = m
  | 0, b, h, c, hc => by rw [RJ_le (by omega)] at hc; exact .inl hc
  | k + 1, b, h, c, hc => by
    rcases Nat.eq_zero_or_pos z with p | p
    · subst p; rw [RJ_zero] at hc; exact .inl hc
    · rcases Nat.lt_or_ge z b.length with q | q
      · rw [RJ_gt p q] at hc
        rcases List.mem_append.mp hc with hc | hc
        · exact .inl (List.mem_of_mem_take hc)
        · rcases List.mem_cons.mp hc with hc | hc
          · exact .inr hc
          · rcases RJ_mem k (b.drop z) (by rw [List.length_drop]; omega) c hc with hc | hc
            · exact .inl (List.mem_of_mem_drop hc)
            · exact .inr hc
      · rw [RJ_le q] at hc; exact .inl hc
theorem gr_asc {z m:Nat} {a:List Nat} (h:Asc a) (hm:m < 127):Asc (gr z m a):=fun c hc=>by
 unfold gr at hc
 rcases RJ_mem _ a.reverse (Nat.le_refl _) c (List.mem_reverse.mp hc) with z | z
 ·exact h c (List.mem_reverse.mp z)
 ·rw [z];exact hm
theorem RJ_head {z m:Nat} {b:List Nat} (h:0 < b.length):(RJ z m b).getD 0 0=b.getD 0 0:=by
 rcases Nat.eq_zero_or_pos z with p | p
 ·subst p;rw [RJ_zero]
 ·rcases Nat.lt_or_ge z b.length with q | q
  ·rw [RJ_gt p q,getD_app1 (by rw [List.length_take];omega),List.getD_eq_getElem?_getD,List.getElem?_take,if_pos p,← List.getD_eq_getElem?_getD]
  ·rw [RJ_le q]
theorem gr_last {z m:Nat} {a:List Nat} (h:0 < a.length):(gr z m a).getD ((gr z m a).length - 1) 0=a.getD (a.length - 1) 0:=by
 have l:=gr_len (z:=z) (m:=m) (a:=a)
 have e1:(RJ z m a.reverse).getD 0 0=a.reverse.getD 0 0:=RJ_head (by rw [List.length_reverse];exact h)
 rw [getD_rev h] at e1
 have e2:(gr z m a).reverse=RJ z m a.reverse:=by unfold gr;rw [List.reverse_reverse]
 rw [← e2,getD_rev (by omega)] at e1
 rw [show (gr z m a).length - 1=(gr z m a).length - 1 - 0 by omega,e1];rfl
theorem gr_head {z m:Nat} {a:List Nat} (h:0 < a.length):(gr z m a).getD 0 0=a.getD 0 0:=by
 have f:=gr_front (z:=z) (m:=m) (a:=a) (k:=0) h
 rw [List.drop_zero] at f
 rw [f];rfl
theorem FigB.get {b:Int} {l:List Nat} (h:FigB b l) {i:Nat} (hi:i < l.length):0≤fv (l.getD i 0):=by
 rw [List.getD_eq_getElem?_getD,List.getElem?_eq_getElem hi];exact (h _ (List.getElem_mem hi)).2.1
theorem bdy_spec {b p pt z m n:Nat} (h2:2≤b) (h16:b≤16) (hp:p≤6) (h:n < b ^ (40+p)) (hpt:pt < 127) (hm:m < 127):Fg (bdy b p pt z m n)∧Asc (bdy b p pt z m n)∧(bdy b p pt z m n).length≤100:=by
 have ds:=dgs_spec h2 h16 hp h
 have ws:=whl_spec h2 h16 hp h
 have wr:=whl_rst b p n
 have fw:FigB b (whl b p n):=fun c hc=>ds.1 c (by rw [← wr];exact List.mem_append_left _ hc)
 have fr:FigB b (rst b p n):=fun c hc=>ds.1 c (by rw [← wr];exact List.mem_append_right _ hc)
 have gl:=gr_len (z:=z) (m:=m) (a:=whl b p n)
 have ag:=gr_asc (z:=z) (m:=m) fw.asc hm
 unfold bdy Fg
 rcases Nat.eq_zero_or_pos p with q | q
 ·rw [if_pos q]
  refine ⟨⟨List.length_pos_iff.mp (by omega),?_,?_⟩,ag,by omega⟩
  ·rw [gr_head (by omega)];exact fw.get (by omega)
  ·rw [gr_last (by omega)];exact fw.get (by omega)
 ·rw [if_neg (by omega)]
  refine ⟨⟨by simp,?_,?_⟩,(ag.app (Asc.one hpt)).app fr.asc,by simp only [List.length_append,List.length_singleton];omega⟩
  ·rw [List.append_assoc,getD_app1 (by omega),gr_head (by omega)];exact fw.get (by omega)
  ·rw [getD_app2 (by simp only [List.length_append,List.length_singleton];omega)]
   exact fr.get (by simp only [List.length_append,List.length_singleton];omega)
theorem bod_sg {x:Str} {b:Bool} {B:List Nat}:bod x b (stL x b++B++stT x b)=B:=by
 unfold bod
 rw [show (stL x b++B++stT x b).length - (stT x b).length=(stL x b++B).length by simp only [List.length_append];omega,List.take_append_of_le_length (Nat.le_refl _),List.take_length,List.drop_append,List.drop_of_length_le (Nat.le_refl _),Nat.sub_self];rfl
def PassOn (X:Cx) (E:XK):Prop:=∀ (pins:List (Addr × Obj)) (σ:St) (e:Value) (s':Shared),XP X pins σ E e s'→X.xe e s'
section
variable {P : Program} {w : World} {K : W.Frag} {mg : Str → Option Value} {base : Heap} {N : List Str} {qual : Str} {scope : Scope} {f : Addr} {cd : Value} {A : Around} {outer : List Env} {s : Shared} {H : Hp} {E : XK}
theorem passes_on : PassOn (cxOf (CXE P w) P w K mg base N qual scope f cd A outer s H E) E := by
  intro pins σ e s' h
  obtain ⟨H1, s1, I1, fl⟩ := h
  obtain ⟨x, C, a0, H', B, rfl, hos, hbare, fly, clo, hx1, hx2, q⟩ := fl
  refine wpAny_leaves_onW I1.ok.frames rfl fly fun h2 fly2 sm => ?_
  refine ⟨x, C, a0, H', B, rfl, hos.trans I1.os, hbare, fly2, fun h3 st sm3 => ?_, ?_, hx2, q⟩
  · have cl := clo h3 st (sm.trans sm3)
    have I3 := I1.call' (s' := { s' with heap := h3 }) hos cl.1 cl.2 hbare (fun b z => nomatch z)
    exact ⟨I3.base, I3.hok⟩
  · cases z : s.heap.get? x with
    | none => rfl
    | some o =>
      obtain ⟨o', e1⟩ := I1.base.there x o z (fun h => nomatch h)
      rw [hx1] at e1; cases e1
end
theorem passes_cx {P:Program} {w:World} {K:W.Frag} {mg:Str→Option Value} {base:Heap} {N:List Str} {qual:Str} {scope:Scope} {f:Addr} {cd:Value} {A:Around} {outer:List Env} {s:Shared} {H:Hp} {E:XK}:Passes (CXE P w) (cxOf (CXE P w) P w K mg base N qual scope f cd A outer s H E) E:=fun pins σ H1 s1 e s' I h=>passes_on pins σ e s' ⟨H1,s1,I,h⟩
abbrev tsV (ts:List (List Nat)):List V:=ts.map fun l=>V.str (T l)
def lk (n w:Int):Int:=if n < w then w - n else 0
def Side (x:Str):Prop:=x = "left" ∨ x = "right" ∨ x = "middle"
def pA (x:Str) (n w:Int):Int:=if x = "left" then 0 else if x = "right" then lk n w else lk n w / 2
def pB (x:Str) (n w:Int):Int:=lk n w - pA x n w
theorem lk_bd (n w:Int) (h0:0≤n) (hw:w≤40):0≤lk n w∧lk n w≤40∧(w≤n→lk n w=0)∧(n≤w→lk n w=w - n):=by unfold lk;split <;> omega
theorem pAl (n w:Int):pA "left" n w=0:=by unfold pA;rw [if_pos rfl]
theorem pAr (n w:Int):pA "right" n w=lk n w:=by unfold pA;rw [if_neg (by decide +kernel),if_pos rfl]
theorem pAm (n w:Int):pA "middle" n w=lk n w / 2:=by unfold pA;rw [if_neg (by decide +kernel),if_neg (by decide +kernel)]
def PadsB (x:Str) (n w:Int):Prop:=0≤pA x n w∧0≤pB x n w∧pA x n w+pB x n w=lk n w∧(x = "left" → pA x n w=0)∧(x = "right" → pB x n w=0)∧(x = "middle" → pB x n w=pA x n w∨pB x n w=pA x n w+1)
theorem pads_bd {x:Str} {n w:Int} (hs:Side x) (h0:0≤n) (hw:w≤40):PadsB x n w:=by
 have b:=lk_bd n w h0 hw
 unfold PadsB pB
 rcases hs with rfl | rfl | rfl
 ·rw [pAl];exact ⟨by omega,by omega,by omega,fun _=>rfl,fun h=>absurd h (by decide +kernel),fun h=>absurd h (by decide +kernel)⟩
 ·rw [pAr];exact ⟨by omega,by omega,by omega,fun h=>absurd h (by decide +kernel),fun _=>by omega,fun h=>absurd h (by decide +kernel)⟩
 ·rw [pAm];exact ⟨by omega,by omega,by omega,fun h=>absurd h (by decide +kernel),fun h=>absurd h (by decide +kernel),fun _=>by omega⟩
def pad (t:List Nat) (w:Int) (f:Nat) (x:Str):List Nat:=List.replicate (pA x t.length w).toNat f++t++List.replicate (pB x t.length w).toNat f
theorem pad_len {t:List Nat} {w:Int} {f:Nat} {x:Str} (h:PadsB x t.length w):((pad t w f x).length:Int)=t.length+lk t.length w:=by
 unfold pad;obtain ⟨h1,h2,h3,_⟩:=h
 simp only [List.length_append,List.length_replicate];omega
def sl (t:List Nat) (w:Int) (x:Str) (n:Nat):List Nat:=(t.take ((pA x n w)+n).toNat).drop (pA x n w).toNat
def gd (t:List Nat) (w:Int) (f:Nat) (x:Str) (n:Nat):Bool:=decide (pad (sl t w x n) w f x=t)
def nxt (t:List Nat) (w:Int) (f:Nat) (x:Str):List Nat:=if x = "left" ∨ (x = "middle" ∧ (w - t.length) % 2=1) then t++[f] else [f]++t
def Fst (t:List Nat) (w:Int) (f:Nat) (x:Str):Prop:=w < t.length∨((x = "left" → t.drop (t.length - 1)≠[f])∧(x = "right" → t.take 1≠[f])∧(x = "middle" → t.take 1≠[f]∧t.drop (t.length - 1)≠[f]))
structure Fnd (t:List Nat) (w:Int) (f:Nat) (x:Str) (W:List Nat) (F:List (List Nat)):Prop where
 has:t ∈ F
 pos:0 < F.length
 last:F.getD (F.length - 1) []=W
 each : ∀ k,k < F.length→pad (F.getD k []) w f x=W
 len : ∀ k,k < F.length→(F.getD k []).length≤W.length
 next : ∀ k,0 < k→k < F.length→F.getD k []=nxt (F.getD (k - 1) []) w f x
 first:Fst t w f x→F.getD 0 []=t
def fa (f:Nat):List Nat→Nat
 | []=>0
 | c::t=>if c=f then fa f t+1 else 0
structure FunD (K:W.Frag) (x qual:Str) (st:Stmt) (f:Addr) (fd:FuncData):Prop where
 ex : ∃ (oc:Value) (od:Option Addr) (dV kV doc pm:Value) (an:Option Addr) (cdv ct:Value) (osl:Array (Option Value)),
  fd=W.fnOf x qual (defArgs st) (defBody st) (defScope st) dV kV doc pm an cdv ct∧K.lookup f=some ⟨oc,od,.func fd,osl⟩∧W.codeIn K cdv qual=true
 kp:W.keepIn K (.ref f)=true
section
variable {P : Program} {w : World} {K : W.Frag} {mg : Str → Option Value} {base : Heap}
theorem FunD.ok {x qual:Str} {st:Stmt} {f:Addr} {fd:FuncData} {N ps:List Str} {k:Nat} {sp:Sp} (F:FunD K x qual st f fd) (S:FnScope N ps (defScope st)) (len : ∀ vs H Q E,sp vs H Q E→vs.length=ps.length)
  (hbody : ∀ (cdv:Value) (A:Around) (outer:List Env) (s:Shared) (H:Hp) (vs:List V) (Q:VK) (E:XK),Room k (A.deeper (envOfC qual (defScope st) s.heap.objs.size f cdv))→sp vs H Q E →
   ∃ t,PSs (cxOf CX0 P w K mg base N qual (defScope st) f cdv A outer s H E).nox (defBody st) t∧t { nx:=fun _ H'=>Q .non H',rt:=Q } (start N vs) H):FnOk P w K mg base CX0 (k+1) f fd ps sp:=by
 obtain ⟨oc,od,dV,kV,doc,pm,an,cdv,ct,osl,rfl,lk,hcd⟩:=F.ex
 refine fn_of lk hcd S len fun A outer s H vs Q E hr hsp=>?_
 obtain ⟨t,h,q⟩:=hbody cdv A outer s H vs Q E hr hsp
 exact ⟨t,h.nox,q⟩
theorem FunD.okX {x qual:Str} {st:Stmt} {f:Addr} {fd:FuncData} {N ps:List Str} {k:Nat} {sp:Sp} (F:FunD K x qual st f fd) (S:FnScope N ps (defScope st)) (len : ∀ vs H Q E,sp vs H Q E→vs.length=ps.length)
  (hbody : ∀ (cdv:Value) (A:Around) (outer:List Env) (s:Shared) (H:Hp) (vs:List V) (Q:VK) (E:XK),Room k (A.deeper (envOfC qual (defScope st) s.heap.objs.size f cdv))→sp vs H Q E →
   Takes (cxOf (CXE P w) P w K mg base N qual (defScope st) f cdv A outer s H E) E→Passes (CXE P w) (cxOf (CXE P w) P w K mg base N qual (defScope st) f cdv A outer s H E) E → ∃ t,PSs (cxOf (CXE P w) P w K mg base N qual (defScope st) f cdv A outer s H E) (defBody st) t∧t { nx:=fun _ H'=>Q .non H',rt:=Q } (start N vs) H):FnOk P w K mg base (CXE P w) (k+1) f fd ps sp:=by
 obtain ⟨oc,od,dV,kV,doc,pm,an,cdv,ct,osl,rfl,lk,hcd⟩:=F.ex
 exact fn_of lk hcd S len fun A outer s H vs Q E hr hsp=>hbody cdv A outer s H vs Q E hr hsp (fun pins σ H s h' x C args I hm q=>leaves_made I hm q) passes_cx
theorem FunD.binds {x qual:Str} {st:Stmt} {f:Addr} {fd:FuncData} {ps:List Str} (F:FunD K x qual st f fd)
  (h : ∀ (dV kV doc pm:Value) (an:Option Addr) (cdv ct:Value) (us:List Value),us.length=ps.length→bindArgs (W.fnOf x qual (defArgs st) (defBody st) (defScope st) dV kV doc pm an cdv ct) ⟨us,[]⟩=pure (ps.zip us)):Binds K fd ps []:=by
 obtain ⟨oc,od,dV,kV,doc,pm,an,cdv,ct,osl,rfl,lk,hcd⟩:=F.ex
 exact .all (h dV kV doc pm an cdv ct)
theorem funD_mk {x qual:Str} {st:Stmt} {f:Addr} {oc:Value} {od an:Option Addr} {osl:Array (Option Value)} {dV kV doc pm cdv ct:Value} (l:K.lookup f=some ⟨oc,od,.func (W.fnOf x qual (defArgs st) (defBody st) (defScope st) dV kV doc pm an cdv ct),osl⟩)
  (c:W.codeIn K cdv qual=true) (k:W.keepIn K (.ref f)=true):FunD K x qual st f (W.fnOf x qual (defArgs st) (defBody st) (defScope st) dV kV doc pm an cdv ct):=⟨⟨oc,od,dV,kV,doc,pm,an,cdv,ct,osl,rfl,l,c⟩,k⟩
end
def HasM (P:Program) (w:World) (K:W.Frag) (mg:Str→Option Value) (base:Heap) (CX:CXT) (C:Addr) (m:Str) (k:Nat) (ps:List Str) (sp:Sp):Prop:=
 ∃ (f:Addr) (fd:FuncData),FnOk P w K mg base CX k f fd ps sp∧Meth K C m f∧Binds K fd ps []
def HasI (P:Program) (w:World) (K:W.Frag) (mg:Str→Option Value) (base:Heap) (CX:CXT) (C:Addr) (k:Nat) (ps:List Str) (sp:Sp):Prop:=
 ∃ (f:Addr) (fd:FuncData),FnOk P w K mg base CX k f fd ps sp∧Mk K C f∧Binds K fd ps []
structure CMeth (K:W.Frag) (C:Addr) (m:Str) (f:Addr):Prop where
 sp:W.specialIn K (.ref C) "__getattribute__" = some (some (.builtin "type.__getattribute__"))
 rd:W.readsIn K C (.type "type")=true
 fc:W.findCls K (.ref C) (.type "type") m=some (.val (.ref f))
 kp:W.keepIn K (.ref f)=true
def HasC (P:Program) (w:World) (K:W.Frag) (mg:Str→Option Value) (base:Heap) (CX:CXT) (C:Addr) (m:Str) (k:Nat) (ps:List Str) (sp:Sp):Prop:=
 ∃ (f:Addr) (fd:FuncData),FnOk P w K mg base CX k f fd ps sp∧CMeth K C m f∧Binds K fd ps []
section
variable {X : Cx} {CX : CXT} {k n : Nat} {C : Addr} {ps : List Str} {sp : Sp} {E : XK} {x m : Str} {p np pos apos : Pos} {e o : Expr} {es : List Expr} {ta : TE} {t : TA}
theorem pe_methH {pl:Sem Bool} (F:HasM X.prog X.w X.K X.mg X.base CX C m k ps sp) (c:Cls X.K C) (hx:Passes CX X E) (hr:Room n X.A) (he:PE X o ta) (ha:PA X (e::es) t) (hk:k≤n:=by decide)
  (hst:starEach (e::es) X.env=(false,eval e X.env)::starEach es X.env:=by rfl) (hpl:(backTo pos (starEach es X.env)).any (·.1)=false:=by rfl)
  (ht:eval (.Call (.Attribute o m apos) (e::es) [] pos) X.env=(do
   let ov ← eval o X.env
   standAt apos.atName
   let (f,first) ← holding [ov] (getMethod ov m pl)
   callWith pos f first (backTo pos (starEach (e::es) X.env)) (backToKw pos (keywordEach [] X.env))):=by rfl) :
  PE X (.Call (.Attribute o m apos) (e::es) [] pos) (tMeth C m sp [] E ta t):=by
 obtain ⟨f,fd,G,M,b⟩:=F
 exact pe_meth (pl:=pl) he c M (G.mono hk) hr b .nil hx ha hst hpl ht
theorem pe_makeH (F:HasI X.prog X.w X.K X.mg X.base CX C k ps sp) (hx:Passes CX X E) (hr:Room n X.A) (hg:Gl X x) (hm:X.mg x=some (.ref C)) (ha:PA X (e::es) t) (hk:k+1≤n:=by decide)
  (hdb:(x == ("__debug__" : Str))=false:=by decide) (he:starEach (e::es) X.env=(false,eval e X.env)::starEach es X.env:=by rfl) (hpl:(backTo pos (starEach es X.env)).any (·.1)=false:=by rfl) :
  PE X (.Call (.Name x p) (e::es) [] pos) (tMake C sp [] E t):=by
 obtain ⟨f,fd,G,M,b⟩:=F
 exact pe_make M G (hr.mono hk) hg hm b .nil hx ha hdb he hpl
theorem pe_cmethH {pl:Sem Bool} (F:HasC X.prog X.w X.K X.mg X.base CX C m k ps sp) (hx:Passes CX X E) (hr:Room n X.A) (hg:Gl X x) (hm:X.mg x=some (.ref C)) (ha:PA X (e::es) t) (hk:k≤n:=by decide)
  (hdb:(x == ("__debug__" : Str))=false:=by decide) (hst:starEach (e::es) X.env=(false,eval e X.env)::starEach es X.env:=by rfl) (hpl:(backTo pos (starEach es X.env)).any (·.1)=false:=by rfl)
  (ht:eval (.Call (.Attribute (.Name x np) m apos) (e::es) [] pos) X.env=(do
   let ov ← eval (.Name x np) X.env
   standAt apos.atName
   let (f,first) ← holding [ov] (getMethod ov m pl)
   callWith pos f first (backTo pos (starEach (e::es) X.env)) (backToKw pos (keywordEach [] X.env))):=by rfl) :
  PE X (.Call (.Attribute (.Name x np) m apos) (e::es) [] pos) (tCall sp [] E t):=by
 intro pins s σ H Q I h
 obtain ⟨f,fd,G,M,b⟩:=F
 refine W.methodCall_KW (pl:=pl) (ld_glob I hg hm ?_ hdb) ht
 refine W.method_cls I.kIn M.sp (W.cls_value I.kIn M.rd M.fc rfl ?_)
 have I1:=I.tok (s.toks+1)
 refine W.callWith_K (first:=[]) (h₀:=X.base) I.ok.mod.kin M.kp (thn (ha pos pins _ σ H _ I1 h) fun us s2 ⟨vs,H2,I2,r,q2⟩=>⟨I2.kIn,?_⟩) hst hpl
 exact run_fn (us:=us) (vs:=vs) (G.mono hk) hr b .nil hx I2 r q2
end
section
variable {σ : St} {H : Hp} {Q : VK} {D : Ends} {K : W.Frag} {C : Addr} {m f : Str} {sp : Sp} {E : XK} {ta tv : TE} {t : TA} {a : Addr}
def InsM (H:Hp) (a C:Addr) (m:Str):Prop:=∃ dx fs,H a=some (.ins C dx fs)∧fs.lookup m=none
def FldAt (K:W.Frag) (H:Hp) (a:Addr) (f:Str) (v:V):Prop:=∃ C dx fs,H a=some (.ins C dx fs)∧Cls K C∧NoAttr K C f∧fs.lookup f=some v
theorem InsM.same {H':Hp} (g:Same H H') (h:InsM H a C m):InsM H' a C m:=by obtain ⟨dx,fs,e,l⟩:=h;exact ⟨dx,fs,g _ _ e,l⟩
theorem FldAt.same {H':Hp} {v:V} (g:Same H H') (h:FldAt K H a f v):FldAt K H' a f v:=by obtain ⟨C,dx,fs,e,l⟩:=h;exact ⟨C,dx,fs,g _ _ e,l⟩
def kMeth (C:Addr) (m:Str) (sp:Sp) (dvs:List V) (E:XK) (t:TA) (σ:St) (Q:VK):VK:=fun x H1=>∃ a dx fs,x = .ref a∧H1 a=some (.ins C dx fs)∧fs.lookup m=none∧t σ H1 fun vs H2=>sp (x::(vs++dvs)) H2 Q E
theorem r_meth {dvs:List V} (h:ta σ H (kMeth C m sp dvs E t σ Q)):tMeth C m sp dvs E ta t σ H Q:=h
theorem r_kMeth {dvs:List V} (hi:InsM H a C m) (h:t σ H fun vs H2=>sp (.ref a::(vs++dvs)) H2 Q E):kMeth C m sp dvs E t σ Q (.ref a) H:=by
 obtain ⟨dx,fs,e,l⟩:=hi
 exact ⟨a,dx,fs,rfl,e,l,h⟩
def kFld (K:W.Frag) (f:Str) (Q:VK):VK:=fun x H1=>∃ a C dx fs v,x = .ref a∧H1 a=some (.ins C dx fs)∧Cls K C∧NoAttr K C f∧fs.lookup f=some v∧Q v H1
theorem r_fld (h:ta σ H (kFld K f Q)):tFld K ta f σ H Q:=h
theorem r_kFld {v:V} (hi:FldAt K H a f v) (q:Q v H):kFld K f Q (.ref a) H:=by
 obtain ⟨C,dx,fs,e,c,n,l⟩:=hi
 exact ⟨a,C,dx,fs,v,rfl,e,c,n,l,q⟩
def kSet (K:W.Frag) (f:Str) (y:V) (D:Ends) (σ:St):VK:=fun x H2=>∃ a C dx fs,x = .ref a∧H2 a=some (.ins C dx fs)∧Cls K C∧NoAttr K C f∧fs.length < 1000∧D.nx σ (upd H2 a (.ins C dx (putF f y fs)))
theorem r_sFld (h:tv σ H fun y H1=>ta σ H1 (kSet K f y D σ)):sFld K ta tv f D σ H:=h
theorem r_kSet {dx:Addr} {fs:List (Str × V)} {y:V} (e:H a=some (.ins C dx fs)) (c:Cls K C) (n:NoAttr K C f) (l:fs.length < 1000) (q:D.nx σ (upd H a (.ins C dx (putF f y fs)))):kSet K f y D σ (.ref a) H:=⟨a,C,dx,fs,rfl,e,c,n,l,q⟩
def kMake (C:Addr) (sp:Sp) (dvs:List V) (E:XK) (Q:VK):List V→Hp→Prop:=fun vs H1=>∀ x dx,H1 x=none→H1 dx=none→dx≠x →
 sp (.ref x::(vs++dvs)) (upd (upd H1 dx (.own x)) x (.ins C dx [])) (fun v H2=>v = .non∧Q (.ref x) H2) E
theorem r_make {dvs:List V} (h:t σ H (kMake C sp dvs E Q)):tMake C sp dvs E t σ H Q:=h
theorem putF_nil (f:Str) (v:V):putF f v []=[(f,v)]:=rfl
theorem putF_ne {f k:Str} {v x:V} {r:List (Str × V)} (h:k≠f):putF f v ((k,x)::r)=(k,x)::putF f v r:=by
 rw [show putF f v ((k,x)::r)=(if k=f then (k,v)::r else (k,x)::putF f v r) from rfl,if_neg h]
theorem lk_eq {k:Str} {x:V} {r:List (Str × V)}:((k,x)::r).lookup k=some x:=by simp [List.lookup]
theorem lk_ne {f k:Str} {x:V} {r:List (Str × V)} (h:f≠k):((k,x)::r).lookup f=r.lookup f:=by
 have:(f == k)=false:=by simpa using h
 simp [List.lookup,this]
end
def Wk (σc σ:St):Prop:=σc.length=σ.length ∧ ∀ (i:Nat) v,σc[i]? = some (some v)→σ[i]? = some (some v)
theorem Wk.nil:Wk [] []:=⟨rfl,fun i v h=>h⟩
theorem Wk.one {a b:St} {x:Option V} (h:Wk a b):Wk (x::a) (x::b):=⟨by rw [List.length_cons,List.length_cons,h.1],fun i v e=>by
 cases i with
 | zero=>exact e
 | succ i=>exact h.2 i v e⟩
theorem Wk.any {a b:St} {x:Option V} (h:Wk a b):Wk (none::a) (x::b):=⟨by rw [List.length_cons,List.length_cons,h.1],fun i v e=>by
 cases i with
 | zero=>exact absurd (Option.some.inj e) (by simp)
 | succ i=>exact h.2 i v e⟩
def NoAttrs (K:W.Frag) (C:Addr):List Str→Prop
 | []=>True
 | f::r=>NoAttr K C f∧NoAttrs K C r
theorem NoAttrs.at {K : W.Frag} {C : Addr} {f : Str} : ∀ {l : List Str}, NoAttrs K C l → f ∈ l → NoAttr K C f
  | [], _, h => by cases h
  | g :: r, n, h => by
    rcases List.mem_cons.mp h with rfl | h
    · exact n.1
    · exact n.2.at h
def bfs (wd:Int) (f:Nat) (x:Str) (st:Bool) (more:List (Str × V)):List (Str × V):=("width", .int wd)::("fill", .str (T [f]))::("side", .str x)::("strict", .bl st)::more
def bns:List Str:=["width", "fill", "side", "strict"]
structure FormAt (K:W.Frag) (H:Hp) (a C:Addr) (wd:Int) (f:Nat) (x:Str) (st:Bool) (more:List (Str × V)):Prop where
 at_ : ∃ dx,H a=some (.ins C dx (bfs wd f x st more))
 cl:Cls K C
 na:NoAttrs K C (bns++more.map (·.1))
section
variable {K : W.Frag} {H H' : Hp} {a C : Addr} {wd : Int} {f : Nat} {x : Str} {st : Bool} {more : List (Str × V)} {g m : Str} {v : V}
theorem FormAt.same (s:Same H H') (F:FormAt K H a C wd f x st more):FormAt K H' a C wd f x st more:=⟨F.at_.imp fun _ e=>s _ _ e,F.cl,F.na⟩
theorem bfs_width:(bfs wd f x st more).lookup ("width" : Str)=some (.int wd):=lk_eq
theorem bfs_fill:(bfs wd f x st more).lookup ("fill" : Str)=some (.str (T [f])):=(lk_ne (by decide +kernel)).trans lk_eq
theorem bfs_side:(bfs wd f x st more).lookup ("side" : Str)=some (.str x):=(lk_ne (by decide +kernel)).trans ((lk_ne (by decide +kernel)).trans lk_eq)
theorem bfs_strict:(bfs wd f x st more).lookup ("strict" : Str)=some (.bl st):=(lk_ne (by decide +kernel)).trans ((lk_ne (by decide +kernel)).trans ((lk_ne (by decide +kernel)).trans lk_eq))
theorem bfs_more (h:g ∉ bns):(bfs wd f x st more).lookup g=more.lookup g:=by
 simp only [bns,List.mem_cons,List.not_mem_nil,or_false,not_or] at h
 exact (lk_ne h.1).trans ((lk_ne h.2.1).trans ((lk_ne h.2.2.1).trans (lk_ne h.2.2.2)))
theorem FormAt.fld (F:FormAt K H a C wd f x st more) (n:g ∈ bns++more.map (·.1)) (l:(bfs wd f x st more).lookup g=some v):FldAt K H a g v:=by
 obtain ⟨dx,e⟩:=F.at_
 exact ⟨C,dx,_,e,F.cl,F.na.at n,l⟩
theorem FormAt.width (F:FormAt K H a C wd f x st more):FldAt K H a "width" (.int wd):=F.fld (List.mem_append_left _ (by decide +kernel)) bfs_width
theorem FormAt.fill (F:FormAt K H a C wd f x st more):FldAt K H a "fill" (.str (T [f])):=F.fld (List.mem_append_left _ (by decide +kernel)) bfs_fill
theorem FormAt.side (F:FormAt K H a C wd f x st more):FldAt K H a "side" (.str x):=F.fld (List.mem_append_left _ (by decide +kernel)) bfs_side
theorem FormAt.strict (F:FormAt K H a C wd f x st more):FldAt K H a "strict" (.bl st):=F.fld (List.mem_append_left _ (by decide +kernel)) bfs_strict
theorem FormAt.own (F:FormAt K H a C wd f x st more) (h:g ∉ bns) (l:more.lookup g=some v) (n:g ∈ more.map (·.1)):FldAt K H a g v:=F.fld (List.mem_append_right _ n) ((bfs_more h).trans l)
theorem FormAt.meth (F:FormAt K H a C wd f x st more) (h:m ∉ bns) (l:more.lookup m=none):InsM H a C m:=by
 obtain ⟨dx,e⟩:=F.at_
 exact ⟨dx,_,e,(bfs_more h).trans l⟩
theorem bfs_put (h:g ∉ bns):putF g v (bfs wd f x st more)=bfs wd f x st (putF g v more):=by
 simp only [bns,List.mem_cons,List.not_mem_nil,or_false,not_or] at h
 unfold bfs
 rw [putF_ne (Ne.symm h.1),putF_ne (Ne.symm h.2.1),putF_ne (Ne.symm h.2.2.1),putF_ne (Ne.symm h.2.2.2)]
end
mutual
inductive Dt (K:W.Frag) (H:Hp):V→PyData→Prop
 | non:Dt K H .non .none
 | bl (b:Bool):Dt K H (.bl b) (.bool b)
 | int (i:Int):Dt K H (.int i) (.int i)
 | str (z:Str):Dt K H (.str z) (.str z)
 | lst {p:Addr} {xs:List V} {ds:List PyData}:SqL K H p xs→Dts K H xs ds→Dt K H (.ref p) (.list ds)
 | tup {p:Addr} {xs:List V} {ds:List PyData}:SqT K H p xs→Dts K H xs ds→Dt K H (.ref p) (.tuple ds)
inductive Dts (K:W.Frag) (H:Hp):List V→List PyData→Prop
 | nil:Dts K H [] []
 | cons {x:V} {d:PyData} {xs:List V} {ds:List PyData}:Dt K H x d→Dts K H xs ds→Dts K H (x::xs) (d::ds)
end
section
variable {X : Cx} {pins : List (Addr × Obj)} {σ : St} {H H' : Hp} {s : Shared} {K : W.Frag} {Q : VK}
mutual
theorem Dt.same (g:Same H H') : ∀ {x:V} {d:PyData},Dt K H x d→Dt K H' x d
 | _,_,.non=>.non
 | _,_,.bl b=>.bl b
 | _,_,.int i=>.int i
 | _,_,.str z=>.str z
 | _,_,.lst h hs=>.lst (g.seq h) (Dts.same g hs)
 | _,_,.tup h hs=>.tup (SqT.same h g) (Dts.same g hs)
theorem Dts.same (g:Same H H') : ∀ {xs:List V} {ds:List PyData},Dts K H xs ds→Dts K H' xs ds
 | _,_,.nil=>.nil
 | _,_,.cons h hs=>.cons (Dt.same g h) (Dts.same g hs)
end
end
end L2
namespace L2
open PySem PySem.Spec PyProof.Rows
section
variable {X : Cx} {H : Hp} {Q : VK} {K : W.Frag}
def rIndexT:V→List V→Hp→VK→Prop:=fun x vs H Q=>∃ (l:Addr) (zs:List Str) (z:Str) (j:Nat),x = .ref l∧vs=[.str z]∧H l=some (.lst (zs.map V.str))∧zs[j]? = some z∧(∀ m,m < j→zs[m]? ≠ some z)∧j < 1000∧Q (.int j) H
theorem mt_indexT:MtM X "list.index" rIndexT:=by
 intro pins s σ H x vs v us Q I rx rv h
 obtain ⟨l,zs,z,j,rfl,rfl,hH,hj,hno,hj1,q⟩:=h
 cases rx
 obtain ⟨u,rfl,ru⟩:=rv.one
 obtain ⟨_,its,n,r,hl,e⟩:=I.lstM hH
 have fl:(zs.map V.str).all flatV=true:=by
  rw [List.all_eq_true];intro x hx
  obtain ⟨l,_,rfl⟩:=List.mem_map.mp hx
  rfl
 have it : ∀ (m:Nat) (hm:m < its.toArray.size),∃ (y:Str) (t:Tok),zs[m]? = some y∧its.toArray[m] = .str y t:=fun m hm=>by
  have hm':m < its.length:=by simpa using hm
  have hz:m < zs.length:=by have:=r.length;rw [List.length_map] at this;omega
  obtain ⟨w,hw,rw'⟩:=r.get (i:=m) (x:=.str zs[m]) (by rw [List.getElem?_map,List.getElem?_eq_getElem hz];rfl)
  obtain ⟨t,rfl⟩:=rw'
  refine ⟨zs[m],t,List.getElem?_eq_getElem hz,?_⟩
  rw [List.getElem?_eq_getElem hm'] at hw
  simpa using Option.some.inj hw
 have hjz:j < its.toArray.size:=by
  have:=r.length;rw [List.length_map] at this
  rcases Nat.lt_or_ge j zs.length with z1 | z1
  ·simp;omega
  ·rw [List.getElem?_eq_none z1] at hj;cases hj
 refine call_meets F.slot_list_index ⟨_,e,rfl⟩ F.entry_list_index (F.args_list_index_2 _ _) (SeqAt.list_indexAt l its.toArray n none #[] u (eqU (.str z)) j hjz (by omega) ?_ fun m hm hmj=>?_) ⟨e,fun y hy=>mem_eqAt ru rfl r fl y (by simpa using hy),⟨.int j,H,I.tok _,⟨_,rfl⟩,q⟩⟩
 ·obtain ⟨y,t,h1,h2⟩:=it j hjz
  rw [hj] at h1;cases h1
  rw [h2]
  show (z == z)=true
  simp
 ·obtain ⟨y,t,h1,h2⟩:=it m hm
  rw [h2]
  show (y == z)=false
  simpa using fun ee=>hno m hmj (by rw [h1,ee])
theorem r_indexT {l:Addr} {zs:List Str} {z:Str} (j:Nat) (h:H l=some (.lst (zs.map V.str))) (hj:zs[j]? = some z) (hno : ∀ m,m < j→zs[m]? ≠ some z) (hj1:j < 1000) (q:Q (.int j) H):rIndexT (.ref l) [.str z] H Q:=⟨l,zs,z,j,rfl,rfl,h,hj,hno,hj1,q⟩
end
def RsA (H:Hp) (v:V) (d:PyData):Prop:=(∃ z:Str,v = .str z∧d = .str z) ∨ ∃ (q:Addr) (z:Str),v = .ref q∧H q=some (.tup [.str z])∧d = .tuple [.str z]
section
variable {H H' : Hp} {v : V} {d : PyData} {K : W.Frag}
theorem RsA.same (g:Same H H') (h:RsA H v d):RsA H' v d:=by
 rcases h with ⟨z,a,b⟩ | ⟨q,z,a,e,b⟩
 ·exact .inl ⟨z,a,b⟩
 ·exact .inr ⟨q,z,a,g _ _ e,b⟩
theorem RsA.put {p:Addr} {xs ys:List V} (hp:H p=some (.lst xs)) (h:RsA H v d):RsA (upd H p (.lst ys)) v d:=by
 rcases h with ⟨z,a,b⟩ | ⟨q,z,a,e,b⟩
 ·exact .inl ⟨z,a,b⟩
 ·exact .inr ⟨q,z,a,by rw [upd_ne (ne_of e hp (by intro z;cases z))];exact e,b⟩
end
theorem pe_callH0 {X:Cx} {x:Str} {k n:Nat} {ps:List Str} {sp:Sp} {p pos:Pos} (F:Has X.prog X.w X.K X.mg X.base x k ps sp) (hr:Room n X.A) (hg:Gl X x) (hk:k≤n:=by decide) (hdb:(x == ("__debug__" : Str))=false:=by decide) :
  PE X (.Call (.Name x p) [] [] pos) (tCall sp [] E0 tNil):=by
 obtain ⟨f,fd,G,hm,kp,hb⟩:=F
 exact pe_call0 G (hr.mono hk) hg hm kp hb .nil pass0 hdb
section
variable {X : Cx} {pos : Pos}
def tPar3 (i j k:Nat) (ta:TA):TS:=fun D σ H=>ta σ H fun vs H1=>∃ v1 v2 v3,vs=[v1,v2,v3]∧D.nx (((σ.set k (some v3)).set j (some v2)).set i (some v1)) H1
theorem ps_par3 {i j k : Nat} {x y z : Str} {a b c : Expr} {ta : TA} {px py pz pt : Pos} {kt k2 pt2} (hc : X.calm = true) (hN : X.N.Nodup) (hi : X.N[i]? = some x) (hj : X.N[j]? = some y) (hk : X.N[k]? = some z)
    (hx : X.env.scope.names.lookup x = some .local) (hy : X.env.scope.names.lookup y = some .local) (hz : X.env.scope.names.lookup z = some .local) (ha : PA X [a, b, c] ta)
    (hw : swappedStores [.Tuple [.Name x px, .Name y py, .Name z pz] kt pt] (.Tuple [a, b, c] k2 pt2) X.env = pure (some [x, y, z]))
    (hs : swapsWithSole [.Tuple [.Name x px, .Name y py, .Name z pz] kt pt] (.Tuple [a, b, c] k2 pt2) pos.line X.env = pure false := by rfl) :
    PS X (.Assign [.Tuple [.Name x px, .Name y py, .Name z pz] kt pt] (.Tuple [a, b, c] k2 pt2) pos) (tPar3 i j k ta) := by
  intro pins s σ H D I h
  rw [exec_Assign_arm]
  refine wpAny_bind (wpAny_standAt ?_)
  rw [hs]
  refine wpAny_bind (wpAny_pure ?_)
  rw [if_neg (by decide)]
  refine wpAny_bind (Tuple_ (thn (ha _ pins s σ H _ I h) fun us s1 ⟨vs, H1, I1, r1, q1⟩ => ?_))
  obtain ⟨v1, v2, v3, e1, q1⟩ := q1
  subst e1
  obtain ⟨u1, u2, u3, rfl, rv1, rv2, rv3⟩ : ∃ u1 u2 u3, us = [u1, u2, u3] ∧ RelV v1 u1 ∧ RelV v2 u2 ∧ RelV v3 u3 := by
    cases r1 with
    | cons p q =>
      cases q with
      | cons p' q' =>
        cases q' with
        | cons p'' q'' =>
          cases q''
          exact ⟨_, _, _, rfl, p, p', p''⟩
  refine wpAny_newObj_type ?_ (by show 3 ≤ sizeLine; decide)
  have I2 : Inv X pins σ H1 { s1 with heap := s1.heap.push { cls := .type "tuple", data := .seq [u1, u2, u3].toArray } } := I1.kept (t' := s1.toks) fun b o e => Heap.get?_push_of_some _ e
  rw [hw]
  refine wpAny_bind (wpAny_pure ?_)
  show wpAny (model X.prog X.w) X.A (do rule "assign.swapped-stores"; let items ← unpackItems (.ref s1.heap.objs.size) 3 none; assignInOrder [fun v => bindName X.env z v, fun v => bindName X.env y v, fun v => bindName X.env x v] items.reverse; pure Flow.next) _ _ _
  refine wpAny_bind (wpAny_rule (wpAny_bind (unpackItems_tuple (items := #[u1, u2, u3]) (I.ok.hd hc) (IsTup.new s1.heap _) fun h' hx' => ?_)))
  have I3 := I2.kept (h' := h') (t' := s1.toks) fun b o e => hx' b o (Nat.ne_of_lt (Heap.lt_size e)) e
  show wpAny _ _ (assignInOrder [fun v => bindName X.env z v, fun v => bindName X.env y v, fun v => bindName X.env x v] [u3, u2, u1] >>= fun _ => pure Flow.next) _ _ _
  refine wpAny_bind (assignInOrder_cons (wpAny_bindName (store_ok I3 hN hk (.inl hz) rv3 (fun s2 I4 => ?_) (.inr hz))))
  refine assignInOrder_cons (wpAny_bindName (store_ok I4 hN hj (.inl hy) rv2 (fun s3 I5 => ?_) (.inr hy)))
  refine assignInOrder_cons (wpAny_bindName (store_ok I5 hN hi (.inl hx) rv1 (fun s4 I6 => assignInOrder_nil (wpAny_pure ?_)) (.inr hx)))
  exact ⟨_, H1, I6, q1⟩
def kPar3 (i j k:Nat) (D:Ends) (σ:St) (vs:List V) (H1:Hp):Prop:=∃ v1 v2 v3,vs=[v1,v2,v3]∧D.nx (((σ.set k (some v3)).set j (some v2)).set i (some v1)) H1
theorem r_par3 {i j k:Nat} {ta:TA} {D:Ends} {σ:St} {H:Hp} (h:ta σ H (kPar3 i j k D σ)):tPar3 i j k ta D σ H:=h
theorem r_three {i j k:Nat} {D:Ends} {σ:St} {H:Hp} {v1 v2 v3:V} (h:D.nx (((σ.set k (some v3)).set j (some v2)).set i (some v1)) H):kPar3 i j k D σ [v1,v2,v3] H:=⟨v1,v2,v3,rfl,h⟩
end
def low (b:Nat):Nat→Nat→List Nat
 | 0,_=>[]
 | p+1,n=>low b p (n / b)++[fc (n % b)]
theorem low_len (b:Nat) : ∀ p n,(low b p n).length=p
 | 0,_=>rfl
 | p+1,n=>by unfold low;rw [List.length_append,low_len b p];rfl
theorem fc0:fc 0=48:=by decide +kernel
theorem figs_pos {b n:Nat} (h2:2≤b):1≤(figs b n).length:=by
 rcases Nat.lt_or_ge n b with h | h
 ·rw [figs_lt h,List.length_singleton];exact Nat.le_refl _
 ·rw [figs_ge h2 h,List.length_append,List.length_singleton];omega
theorem dgs_turn {b p n:Nat} (h2:2≤b):dgs b (p+1) n=dgs b p (n / b)++[fc (n % b)]:=by
 unfold dgs
 rcases Nat.lt_or_ge n b with h | h
 ·rw [figs_lt h,Nat.div_eq_of_lt h,figs_lt (by omega),Nat.mod_eq_of_lt h,fc0]
  rw [List.length_singleton,List.length_singleton,show p+1+1 - 1=p+1 by omega,show p+1 - 1=p by omega,List.replicate_succ']
 ·rw [figs_ge h2 h,List.length_append,List.length_singleton,show p+1+1 - ((figs b (n / b)).length+1)=p+1 - (figs b (n / b)).length by omega,List.append_assoc]
theorem dgs_low {b : Nat} (h2 : 2 ≤ b) : ∀ p n, dgs b p n = figs b (n / b ^ p) ++ low b p n
  | 0, n => by
    have := figs_pos (b := b) (n := n) h2
    unfold dgs low
    rw [show 0 + 1 - (figs b n).length = 0 by omega, Nat.pow_zero, Nat.div_one, List.append_nil]; rfl
  | p + 1, n => by
    rw [dgs_turn h2, dgs_low h2 p, Nat.div_div_eq_div_mul, Nat.pow_succ, Nat.mul_comm (b ^ p) b, List.append_assoc]; rfl
theorem whl_low {b p n:Nat} (h2:2≤b):whl b p n=figs b (n / b ^ p)∧rst b p n=low b p n:=by
 have l:=low_len b p n
 unfold whl rst
 rw [dgs_low h2,List.length_append,l,Nat.add_sub_cancel]
 exact ⟨List.take_left' rfl,List.drop_left' rfl⟩
def pz (b p r:Nat):List Nat:=List.replicate (p - (figs b r).length) 48++figs b r
theorem pz_turn {b p r:Nat} (h2:2≤b) (hp:0 < p):pz b (p+1) r=pz b p (r / b)++[fc (r % b)]:=by
 unfold pz
 rcases Nat.lt_or_ge r b with h | h
 ·rw [figs_lt h,Nat.div_eq_of_lt h,figs_lt (by omega),Nat.mod_eq_of_lt h,fc0]
  obtain ⟨q,rfl⟩ : ∃ q,p=q+1:=⟨p - 1,by omega⟩
  rw [List.length_singleton,List.length_singleton,show q+1+1 - 1=q+1 by omega,show q+1 - 1=q by omega,List.replicate_succ']
 ·rw [figs_ge h2 h,List.length_append,List.length_singleton,show p+1 - ((figs b (r / b)).length+1)=p - (figs b (r / b)).length by omega,List.append_assoc]
theorem low_mod {b : Nat} (h2 : 2 ≤ b) : ∀ p n, low b p n = low b p (n % b ^ p)
  | 0, n => rfl
  | p + 1, n => by
    unfold low
    rw [low_mod h2 p (n / b)]
    have e1 : n % b ^ (p + 1) / b = n / b % b ^ p := by rw [Nat.pow_succ, Nat.mul_comm, Nat.mod_mul_right_div_self]
    have e2 : n % b ^ (p + 1) % b = n % b := Nat.mod_mod_of_dvd n (by rw [Nat.pow_succ]; exact Nat.dvd_mul_left b (b ^ p))
    rw [e1, e2]
theorem low_pz {b : Nat} (h2 : 2 ≤ b) : ∀ p r, 0 < p → r < b ^ p → low b p r = pz b p r
  | 1, r, _, h => by
    rw [Nat.pow_one] at h
    unfold low pz low
    rw [figs_lt h, Nat.mod_eq_of_lt h]; rfl
  | p + 2, r, _, h => by
    rw [pz_turn h2 (by omega), ← low_pz h2 (p + 1) (r / b) (by omega) (Nat.div_lt_of_lt_mul (by rw [Nat.pow_succ, Nat.mul_comm] at h; exact h))]
    rfl
theorem bdy_div {b p pt z m n:Nat} (h2:2≤b):bdy b p pt z m n=if p=0 then gr z m (figs b (n / b ^ p)) else gr z m (figs b (n / b ^ p))++[pt]++pz b p (n % b ^ p):=by
 unfold bdy
 rw [(whl_low h2).1,(whl_low h2).2]
 split
 ·rfl
 ·rename_i hp
  rw [low_mod h2,low_pz h2 p _ (by omega) (Nat.mod_lt _ (Nat.pow_pos (by omega)))]
theorem binds_dflt {K:W.Frag} {fd:FuncData} {ps:List Str} {t:Addr} {oc:Value} {od:Option Addr} {it:Array Value} {n:Nat} {osl:Array (Option Value)} (hl:K.lookup t=some ⟨oc,od,.seq it n,osl⟩) (hd:fd.defaults = .ref t)
  (h : ∀ us:List Value,us.length=ps.length → ∃ k,bindArgs fd ⟨us,[]⟩=seqItems? fd.defaults >>= k∧k (some it)=pure (ps.zip us)):Binds K fd ps []:=fun s us hK hlen=>by
 rw [List.append_nil] at hlen ⊢
 obtain ⟨k,h1,h2⟩:=h us hlen
 exact .of_defaults hd (hK _ _ hl) rfl h1 h2
set_option maxHeartbeats 1000000
def ItP (lo c:Int) (n:Nat):It:=⟨fun i _=>i < n,fun i H x H'=>H'=H∧x = .int (lo+i*c),fun i _=>n≤i⟩
theorem turn_steps {P:Program} {w:World} {K:PySem.W.Frag} {tg:Expr} (it:Addr) (lo c:Int) (n:Nat):Turn P w K tg (ItP lo c n) [it] it (fun i h=>IsRangeIter h it (lo+(i:Nat)*c) ((n:Int) - (i:Nat)) c) where
 mem:=by simp
 obj:=fun i h st b hb=>by
  have e:b=it:=by simpa using hb
  subst e
  exact ⟨_,st,fun v z=>by
   have z':Data.fields _=Data.cell v:=z
   cases z'⟩
 keep:=fun i h h' st k=>k it (by simp) _ st
 item:=by
  intro X hP hw hK hc i pins s σ H E I hf st hg
  subst hP hw hK
  obtain ⟨f0,f1,f2,f3,f4,f5⟩:=hf it (by simp)
  have W:=Walks.range (prog:=X.prog) (w:=X.w) (I.ok.hd hc) it lo c n
  refine W.item i s _ _ hg st fun v h' tk hv st' kk=>?_
  obtain ⟨t,rfl⟩:=hv
  have I1:Inv X pins σ H { s with heap:=h',toks:=tk }:=I.turned (fun b o hb e=>kk b o (by simpa using hb) e) f0 f1 f3 f4 f5
  exact ⟨_,rfl,go_of (s:={ s with heap:=h',toks:=tk }) (n:="range_iterator") st' rfl rfl (by decide) ⟨.int (lo+i*c),H,I1,⟨t,rfl⟩,⟨rfl,rfl⟩,st',fun b hb=>(hf b hb).1⟩⟩
 done:=by
  intro X hP hw hK hc i pins s σ H E I hf st hg
  subst hP hw hK
  obtain ⟨f0,f1,f2,f3,f4,f5⟩:=hf it (by simp)
  exact wpAny_pyNext_range_end (I.ok.hd hc) st (by have:n≤i:=hg;omega) fun h' eb=>⟨rfl,I.turned (t':=s.toks) (fun b o hb e=>eb b o hb e) f0 f1 f3 f4 f5⟩
 self:=fun _ _ _ _ _ st h=>wpAny_pyIter_rangeiter st h
section
variable {X : Cx} {tg : Expr}
structure StepB (lo hi c:Int) (n:Nat):Prop where
 one:1≤c
 lit:Builtin.Range.small lo hi c=true
 num:Builtin.Range.rangeSize lo hi c=n
 room:Builtin.divisionGoesByPylong (hi - lo) c=false
theorem steps_it {pins:List (Addr × Obj)} {σ:St} {H:Hp} {s:Shared} {R:It→Hp→Prop} {E:Value→Shared→Prop} {lo hi c:Int} {n:Nat} {t u v:Tok} {tk:Nat} (I:Inv X pins σ H s) (b:StepB lo hi c n)
  (q:R (ItP lo c n) H):wpAny (model X.prog X.w) X.A (pyIter (.ref s.heap.objs.size)) (PIE X pins σ tg R) E { s with heap:=s.heap.push { cls:=.type "range", data:=.fields #[.int lo t,.int hi u,.int c v] },toks:=tk }:=by
 refine wpAny_pyIter_range (IsRange.new ..) b.lit ?_
 have I1:Inv X pins σ H { s with heap:=s.heap.push { cls:=.type "range", data:=.fields #[.int lo t,.int hi u,.int c v] },toks:=tk }:=I.kept fun b o e=>Heap.get?_push_of_some _ e
 refine ⟨(s.heap.push { cls:=.type "range", data:=.fields #[.int lo t,.int hi u,.int c v] }).objs.size,[(s.heap.push { cls:=.type "range", data:=.fields #[.int lo t,.int hi u,.int c v] }).objs.size],_,_,H,rfl,
  I1.kept (t':=tk) fun b o e=>Heap.get?_push_of_some _ e,turn_steps _ lo c n,?_,fun b hb=>?_,q⟩
 ·have e1:lo+((0:Nat):Int)*c=lo:=by simp
  have e2:((n:Nat):Int) - ((0:Nat):Int)=Builtin.Range.rangeSize lo hi c:=by rw [b.num];simp
  show IsRangeIter _ _ (lo+((0:Nat):Int)*c) (((n:Nat):Int) - ((0:Nat):Int)) c
  rw [e1,e2]
  exact Heap.get?_push_size _ rfl
 ·have e:b=(s.heap.push { cls:=.type "range", data:=.fields #[.int lo t,.int hi u,.int c v] }).objs.size:=by simpa using hb
  subst e
  exact I1.fpOk (Nat.le_refl _) (I1.hok.fresh (Nat.le_refl _))
def iRngS (ta:TA):TI:=fun σ H R=>ta σ H fun vs H1=>∃ (i j c:Int) (n:Nat),vs=[.int i,.int j,.int c]∧StepB i j c n∧R (ItP i c n) H1
theorem pi_rangeS {a b c : Expr} {ta : TA} {p pos : Pos} (hg : Gl X "range") (hm : X.mg "range" = none) (ha : PA X [a, b, c] ta) (hs : starEach [a, b, c] X.env = [(false, eval a X.env), (false, eval b X.env), (false, eval c X.env)] := by rfl) (hs2 : starEach [b, c] X.env = [(false, eval b X.env), (false, eval c X.env)] := by rfl) :
    PI X tg (.Call (.Name "range" p) [a, b, c] [] pos) (iRngS ta) := by
  intro pins s σ H R I h
  refine Call_ (ld_blt I hg hm boot_range (PyProof.Rows.callWith_type1 (thn (ha pos pins s σ H _ I h) fun us s1 ⟨vs, H1, I1, r1, q1⟩ => ?_) (by rw [hs, hs2]) (by rw [hs2]; rfl)))
  obtain ⟨i, j, k, n, e, b, q⟩ := q1
  subst e
  cases r1 with
  | cons r rr =>
    cases rr with
    | cons r' rr =>
      cases rr with
      | cons r'' rr =>
        cases rr
        obtain ⟨t, rfl⟩ := r
        obtain ⟨t', rfl⟩ := r'
        obtain ⟨t'', rfl⟩ := r''
        exact call_range_3 (by have := b.one; omega) (steps_it I1 b q) (.inl b.room)
end
section
variable {σ : St} {H : Hp} {Q : VK} {D : Ends} {K : W.Frag}
def kForR3 (g:TG) (tb:TS) (D:Ends) (σ:St) (vs:List V) (H:Hp):Prop:=∃ (i j c:Int) (n:Nat),vs=[.int i,.int j,.int c]∧StepB i j c n ∧ ∃ W:Nat→Nat→St→Hp→Prop,(∃ m,W 0 m σ H) ∧ ∀ k m σ H,W k m σ H →
 ((ItP i c n).stop k H∧D.nx σ H)∨((ItP i c n).go k H ∧ ∃ N:St→Hp→Prop,(∀ σ' H',N σ' H' → ∃ m',m' < m∧W (k+1) m' σ' H') ∧ ∀ x H',(ItP i c n).yld k H x H'→g x σ H' fun σ2 H2=>tb { D with nx:=N,ct:=N,bk:=D.nx } σ2 H2)
theorem r_forR3 {ta:TA} {g:TG} {tb:TS} (h:ta σ H (kForR3 g tb D σ)):tFor (iRngS ta) g tb D σ H:=h
theorem r_kForR3 {g:TG} {tb:TS} {i j c:Int} {n:Nat} (hb:StepB i j c n) (Pv:Nat→St→Hp→Prop) (h0:Pv 0 σ H)
  (hs : ∀ k σ H,k < n→Pv k σ H→g (.int (i+k*c)) σ H fun σ2 H2=>tb { D with nx:=Pv (k+1),ct:=Pv (k+1),bk:=D.nx } σ2 H2) (hd : ∀ σ H,Pv n σ H→D.nx σ H):kForR3 g tb D σ [.int i,.int j,.int c] H:=by
 refine ⟨i,j,c,n,rfl,hb,fun k m σ H=>m=n - k∧k≤n∧Pv k σ H,⟨n,by simp,Nat.zero_le _,h0⟩,?_⟩
 rintro k m σ H ⟨rfl,hi,p⟩
 by_cases hlt:k < n
 ·refine .inr ⟨hlt,Pv (k+1),fun σ' H' p'=>⟨n - (k+1),by omega,rfl,hlt,p'⟩,fun x H' y=>?_⟩
  obtain ⟨e,y⟩:=y
  subst e y
  exact hs k σ _ hlt p
 ·have e:k=n:=by omega
  subst e
  exact .inl ⟨Nat.le_refl _,hd σ H p⟩
theorem r_isNR {a:Addr} (q:Q (.bl false) H):rIsN (.ref a) .non H Q:=⟨rfl,by rw [decide_eq_false (fun z=>nomatch z)];exact q⟩
def oS:Option (List Nat)→V
 | none=>.non
 | some t=>.str (T t)
theorem inV_oS2 {a b:Option (List Nat)}:inV .non [oS a,oS b]=(a.isNone || b.isNone):=by
 cases a <;> cases b <;> rfl
theorem r_ninO2 {p:Addr} {a b:Option (List Nat)} (h:SqL K H p [oS a,oS b]) (q:Q (.bl (!(a.isNone || b.isNone))) H):rIn K true .non (.ref p) H Q:=
 ⟨p,_,rfl,.inl h,rfl,by cases a <;> cases b <;> rfl,by rw [inV_oS2];exact q⟩
def rLtS:R2:=fun x y H Q=>∃ i j,x = .str i∧y = .str j∧Q (.bl (decide (i.cps.toList < j.cps.toList))) H
def ltT (a b:List Nat):Bool:=decide ((T a).cps.toList < (T b).cps.toList)
theorem r_ltT {a b:List Nat} (q:Q (.bl (ltT a b)) H):rLtS (.str (T a)) (.str (T b)) H Q:=⟨_,_,rfl,rfl,q⟩
theorem op_ltS {X:Cx}:OpR X (compareOp .Lt) rLtS:=op_lt_str
end
theorem ltT_iff {a b:List Nat}:ltT a b=true↔a < b:=by
 unfold ltT
 rw [decide_eq_true_iff]
 exact Iff.rfl
theorem lt_app_left {p a b:List Nat} (h:a < b):p++a < p++b:=by
 induction p with
 | nil=>exact h
 | cons c p ih=>exact List.cons_lt_cons_iff.mpr (.inr ⟨rfl,ih⟩)
theorem lt_app_right {p q : List Nat} : ∀ {a b : List Nat}, a.length = b.length → a < b → a ++ p < b ++ q
  | [], [], _, h => absurd h (List.lt_irrefl _)
  | [], _ :: _, e, _ => by simp at e
  | _ :: _, [], e, _ => by simp at e
  | x :: a, y :: b, e, h => by
    rcases List.cons_lt_cons_iff.mp h with h' | ⟨e', h'⟩
    · exact List.cons_lt_cons_iff.mpr (.inl h')
    · exact List.cons_lt_cons_iff.mpr (.inr ⟨e', lt_app_right (by simpa using e) h'⟩)
theorem fc_lt {c d:Nat} (h:c < d) (hd:d < 16):fc c < fc d:=by
 have : ∀ c:Fin 16,∀ d:Fin 16,c.val < d.val→fc c.val < fc d.val:=by decide +kernel
 exact this ⟨c,by omega⟩ ⟨d,hd⟩ h
theorem figs_less {b : Nat} (h2 : 2 ≤ b) (h16 : b ≤ 16) : ∀ (n k : Nat), k < n → (figs b k).length = (figs b n).length → figs b k < figs b n := by
  intro n
  induction n using Nat.strongRecOn with
  | ind n ih =>
    intro k hk hl
    rcases Nat.lt_or_ge n b with h | h
    · rw [figs_lt h, figs_lt (show k < b by omega)]
      exact List.cons_lt_cons_iff.mpr (.inl (fc_lt hk (by omega)))
    · rcases Nat.lt_or_ge k b with h' | h'
      · rw [figs_lt h', figs_ge h2 h, List.length_append] at hl
        have := List.length_pos_iff.mpr (figs_spec h2 h16 (n / b) (n / b) (Nat.le_refl _)).2.2.1
        simp only [List.length_cons, List.length_nil] at hl; omega
      · rw [figs_ge h2 h, figs_ge h2 h', List.length_append, List.length_append] at hl
        have hl' : (figs b (k / b)).length = (figs b (n / b)).length := by simpa using hl
        rw [figs_ge h2 h, figs_ge h2 h']
        have m1 := Nat.mod_lt k (show b > 0 by omega)
        have m2 := Nat.mod_lt n (show b > 0 by omega)
        have d1 := Nat.div_add_mod k b
        have d2 := Nat.div_add_mod n b
        rcases Nat.lt_or_ge (k / b) (n / b) with hd | hd
        · exact lt_app_right hl' (ih (n / b) (Nat.div_lt_self (by omega) (by omega)) (k / b) hd hl')
        · have e : k / b = n / b := Nat.le_antisymm (Nat.div_le_div_right (Nat.le_of_lt hk)) hd
          rw [e] at d1 ⊢
          exact lt_app_left (List.cons_lt_cons_iff.mpr (.inl (fc_lt (by omega) (by omega))))
theorem gr_less {z m : Nat} : ∀ (k : Nat) {a b : List Nat}, a.length = b.length → k ≤ a.length → a.drop (a.length - k) < b.drop (b.length - k) → gr z m (a.drop (a.length - k)) < gr z m (b.drop (b.length - k))
  | 0, a, b, e, _, h => by
    rw [Nat.sub_zero, Nat.sub_zero, List.drop_length, List.drop_length] at h
    exact absurd h (List.lt_irrefl _)
  | k + 1, a, b, e, hk, h => by
    have ha : a.length - (k + 1) < a.length := by omega
    have hb : b.length - (k + 1) < b.length := by omega
    rw [gr_front ha, gr_front hb]
    have da : a.drop (a.length - (k + 1)) = a.getD (a.length - (k + 1)) 0 :: a.drop (a.length - k) := by
      rw [List.drop_eq_getElem_cons ha, show a.length - (k + 1) + 1 = a.length - k by omega, List.getD_eq_getElem?_getD, List.getElem?_eq_getElem ha]; rfl
    have db : b.drop (b.length - (k + 1)) = b.getD (b.length - (k + 1)) 0 :: b.drop (b.length - k) := by
      rw [List.drop_eq_getElem_cons hb, show b.length - (k + 1) + 1 = b.length - k by omega, List.getD_eq_getElem?_getD, List.getElem?_eq_getElem hb]; rfl
    rw [da, db] at h
    rw [show a.length - (k + 1) + 1 = a.length - k by omega, show b.length - (k + 1) + 1 = b.length - k by omega, show a.length - (a.length - k) = k by omega, show b.length - (b.length - k) = k by omega]
    rcases List.cons_lt_cons_iff.mp h with h' | ⟨e', h'⟩
    · exact List.cons_lt_cons_iff.mpr (.inl h')
    · exact List.cons_lt_cons_iff.mpr (.inr ⟨e', lt_app_left (gr_less k e (by omega) h')⟩)
theorem gr_lt {z m:Nat} {a b:List Nat} (e:a.length=b.length) (h:a < b):gr z m a < gr z m b:=by
 have:=gr_less (z:=z) (m:=m) a.length e (Nat.le_refl _) (by rw [Nat.sub_self,← e,Nat.sub_self,List.drop_zero,List.drop_zero];exact h)
 rwa [Nat.sub_self,← e,Nat.sub_self,List.drop_zero,List.drop_zero] at this
structure MadeR (h h':Heap) (e C:Addr):Prop where
 keeps : ∀ b o,h.get? b=some o→h'.get? b=some o
 new:h.get? e=none
 there : ∃ oe vs a0,h'.get? e=some oe∧oe.cls = .ref C∧oe.data = .fields vs∧vs[1]? = some .none∧vs[0]? = some a0
section
variable {X : Cx} {H : Hp} {Q : VK} {K : W.Frag}
open PySem.Builtin PySem.Builtin.Str in
def dEnt (w:World) (e:Str × Tok × Value):DictEntry:=⟨hashStr w e.1,.str e.1 e.2.1,e.2.2⟩
def KDs (w:World) (K:W.Frag) (d:Addr) (ks:List Str):Prop:=(d == sysModules)=false ∧ ∃ (kvs:List (Str × Tok × Value)) (n:Nat),K.lookup d=some { cls:=.type "dict", data:=.dict (kvs.map (dEnt w)).toArray n }∧ks=kvs.map (·.1)∧ks.Nodup∧ks.length≤1000
theorem isStrOf_shape {k:Str} {v:Value} (h:Value.isStrOf k v=true) : ∃ t,v = .str k t:=by
 rcases keyIs_shape (k:=Sum.inr k) h with ⟨i,t,z,_⟩ | ⟨x,t,z,e⟩
 ·cases z
 ·cases z;exact ⟨t,e⟩
end
theorem kds_sty {w:World} {K:W.Frag} {d:Addr} {n0:Nat} {t0 t1 t2 t3 t4:Tok} {v0 v1 v2 v3 v4:Value} (lo:(d == sysModules)=false)
  (hd:K.lookup d=some { cls:=.type "dict", data:=.dict #[⟨PyData.keyHash w.params "minus", .str "minus" t0,v0⟩,⟨PyData.keyHash w.params "plus", .str "plus" t1,v1⟩,⟨PyData.keyHash w.params "blank", .str "blank" t2,v2⟩,⟨PyData.keyHash w.params "brackets", .str "brackets" t3,v3⟩,⟨PyData.keyHash w.params "behind", .str "behind" t4,v4⟩] n0 }):KDs w K d ["minus", "plus", "blank", "brackets", "behind"]:=
 ⟨lo,[("minus", t0,v0),("plus", t1,v1),("blank", t2,v2),("brackets", t3,v3),("behind", t4,v4)],n0,hd,rfl,by decide +kernel,by decide⟩
def wfs (L:Addr) (n:Nat):List (Str × V):=[("words", .ref L),("at", .int n)]
def Wr (K:W.Frag) (C:Addr) (H:Hp) (a:Addr) (rest:List (List Nat)):Prop:=∃ (dx L:Addr) (ws:List (List Nat)) (n:Nat),H a=some (.ins C dx (wfs L n))∧SqL K H L (tsV ws)∧n≤ws.length∧ws.drop n=rest∧ws.length≤100
section
variable {K : W.Frag} {C : Addr} {H H' : Hp} {a L dx : Addr} {n : Nat} {rest : List (List Nat)}
theorem Wr.same (g:Same H H') (h:Wr K C H a rest):Wr K C H' a rest:=let ⟨d,L,ws,n,e1,e2,e3,e4,e5⟩:=h;⟨d,L,ws,n,g.at e1,g.seq e2,e3,e4,e5⟩
theorem SB.tup {xs:List V} {p:Addr} (s:SB a H H') (w:Wr K C H a rest) (h:H p=some (.tup xs)):H' p=some (.tup xs):=by
 obtain ⟨d,L,ws,n,e1,_⟩:=w
 exact s p _ (fun z=>by subst z;rw [e1] at h;cases h) h
theorem SB.lst {xs:List V} {p:Addr} (s:SB a H H') (w:Wr K C H a rest) (h:H p=some (.lst xs)):H' p=some (.lst xs):=by
 obtain ⟨d,L,ws,n,e1,_⟩:=w
 exact s p _ (fun z=>by subst z;rw [e1] at h;cases h) h
theorem SB.trans {F:Hp} (s:SB a H H') (t:SB a H' F):SB a H F:=fun b o n e=>t b o n (s b o n e)
theorem SB.of (g:Same H H'):SB a H H':=fun b o _ e=>g _ _ e
end
def rNotN:R2:=fun x y H Q=>y = .non∧Q (.bl (!decide (x = .non))) H
theorem op_notN2 {X:Cx}:OpR X (compareOp .IsNot) rNotN:=op_notN
def UpL (l:List Nat):Prop:=l.Pairwise (· < ·)
theorem below_go (xs : Array Nat) (j : Nat) (hs : UpL xs.toList) : ∀ (fuel lo hi : Nat), lo ≤ hi → hi ≤ xs.size → hi - lo < 2 ^ fuel → (∀ i, i < lo → xs.getD i j < j) → (∀ i, hi ≤ i → i < xs.size → j ≤ xs.getD i j) →
    SetTable.below.go xs j fuel lo hi ≤ xs.size ∧ (∀ i, i < SetTable.below.go xs j fuel lo hi → xs.getD i j < j) ∧ (∀ i, SetTable.below.go xs j fuel lo hi ≤ i → i < xs.size → j ≤ xs.getD i j)
  | 0, lo, hi, h1, h2, h3, h4, h5 => by
    have e : lo = hi := by simp at h3; omega
    subst e
    exact ⟨h2, h4, h5⟩
  | fuel + 1, lo, hi, h1, h2, h3, h4, h5 => by
    have hs' : ∀ i k, i < k → k < xs.size → xs.getD i j < xs.getD k j := fun i k hik hk => by
      have := (List.pairwise_iff_getElem.mp hs) i k (by simp; omega) (by simp; omega) hik
      simpa [Array.getD, hk, show i < xs.size by omega] using this
    unfold SetTable.below.go
    split
    · rename_i hlt
      have hm1 : lo ≤ (lo + hi) / 2 := by omega
      have hm2 : (lo + hi) / 2 < hi := by omega
      have hp : 2 ^ (fuel + 1) = 2 ^ fuel + 2 ^ fuel := by rw [Nat.pow_succ]; omega
      dsimp only
      split
      · rename_i hc
        exact below_go xs j hs fuel _ hi (by omega) h2 (by omega) (fun i hi' => by
          rcases Nat.lt_or_ge i ((lo + hi) / 2) with z | z
          · exact Nat.lt_trans (hs' i _ z (by omega)) hc
          · have : i = (lo + hi) / 2 := by omega
            subst this; exact hc) h5
      · rename_i hc
        exact below_go xs j hs fuel lo _ (by omega) (by omega) (by omega) h4 (fun i hi' hi2 => by
          rcases Nat.lt_or_ge ((lo + hi) / 2) i with z | z
          · have := hs' _ i z hi2; omega
          · have : i = (lo + hi) / 2 := by omega
            subst this; omega)
    · have e : lo = hi := by omega
      subst e
      exact ⟨h2, h4, h5⟩
theorem two_pow_gt : ∀ n:Nat,n < 2 ^ n
 | 0=>by decide
 | n+1=>by have:=two_pow_gt n;rw [Nat.pow_succ];omega
theorem below_spec {xs:Array Nat} (j:Nat) (hs:UpL xs.toList):SetTable.below xs j≤xs.size∧(∀ i,i < SetTable.below xs j→xs.getD i j < j)∧(∀ i,SetTable.below xs j≤i→i < xs.size→j≤xs.getD i j):=by
 unfold SetTable.below
 exact below_go xs j hs _ 0 _ (Nat.zero_le _) (Nat.le_refl _) (by have:=two_pow_gt xs.size;omega) (fun i h=>absurd h (Nat.not_lt_zero _)) (fun i h1 h2=>absurd h2 (by omega))
theorem up_insert {xs:Array Nat} {j:Nat} (hs:UpL xs.toList) (hn:(xs[SetTable.below xs j]? == some j)=false):UpL (SetTable.insertAt xs (SetTable.below xs j) j).toList:=by
 obtain ⟨h1,h2,h3⟩:=below_spec j hs
 generalize SetTable.below xs j=p at *
 rw [SetTable.toList_insertAt]
 have hs0:UpL (xs.toList.take p++xs.toList.drop p):=by rw [List.take_append_drop];exact hs
 unfold UpL at hs0 ⊢
 rw [List.pairwise_append] at hs0
 rw [List.pairwise_append,List.pairwise_cons]
 have lo : ∀ a ∈ xs.toList.take p,a < j:=fun a ha=>by
  obtain ⟨i,hi,e⟩:=List.mem_take_iff_getElem.mp ha
  have:=h2 i (by omega)
  simp only [Array.length_toList] at hi
  rw [Array.getElem_toList] at e
  simpa [Array.getD,show i < xs.size by omega,e] using this
 have hi : ∀ a ∈ xs.toList.drop p,j < a:=fun a ha=>by
  obtain ⟨i,hi,e⟩:=List.mem_drop_iff_getElem.mp ha
  simp only [Array.length_toList] at hi
  rw [Array.getElem_toList] at e
  have hz:=h3 (i+p) (by omega) (by omega)
  simp only [Array.getD,show i+p < xs.size by omega,dif_pos] at hz
  have e':xs[i+p]=a:=by rw [← e];congr 1;omega
  have hz':j≤a:=by rw [← e'];exact hz
  rcases Nat.lt_or_ge j a with q | q
  ·exact q
  ·exfalso
   have ea:a=j:=by omega
   rcases Nat.eq_zero_or_pos i with z | z
   ·subst z
    have hp:p < xs.size:=by omega
    have e2:xs[p]=j:=by rw [← ea,← e'];congr 1;omega
    rw [Array.getElem?_eq_getElem hp,e2] at hn
    simp at hn
   ·have hp:p < xs.size:=by omega
    have g:=h3 p (Nat.le_refl _) hp
    simp only [Array.getD,hp,dif_pos] at g
    have lt:=(List.pairwise_iff_getElem.mp hs) p (i+p) (by simp;omega) (by simp;omega) (by omega)
    simp only [Array.getElem_toList] at lt
    rw [e'] at lt
    have g':j≤xs[p]:=g
    omega
 exact ⟨hs0.1,⟨hi,hs0.2.1⟩,fun a ha b hb=>by
  rcases List.mem_cons.mp hb with rfl | hb
  ·exact lo a ha
  ·exact Nat.lt_trans (lo a ha) (hi b hb)⟩
structure TabOk (led:Bool) (t:SetTable):Prop where
 up:UpL t.place.toList
 nod:t.dummies = #[]
 led:t.led=led
theorem tab_fresh {a b:Nat} {led:Bool}:TabOk led (.fresh a b led):=⟨.nil,rfl,rfl⟩
theorem up_range (n:Nat):UpL (List.range n):=List.pairwise_lt_range
theorem tab_standIn {led:Bool} {t:SetTable} (h:TabOk led t) (n:Nat):TabOk led (t.standIn n):=⟨by show UpL (Array.range n).toList;rw [Array.toList_range];exact up_range n,rfl,h.led⟩
theorem tab_orStandIn {led:Bool} {t:SetTable} (h:TabOk led t) (n:Nat):TabOk led (t.orStandIn n):=by
 unfold SetTable.orStandIn
 split
 ·exact h
 ·exact tab_standIn h n
theorem slot_empty {t:SetTable} {j:Nat} (h:t.slot j = .empty):(t.place[SetTable.below t.place j]? == some j)=false:=by
 unfold SetTable.slot at h
 dsimp only at h
 split at h
 ·cases h
 ·rename_i z;simpa using z
theorem slot_not_dummy {t:SetTable} {j:Nat} (hd:t.dummies = #[]):t.slot j ≠ .dummy:=by
 unfold SetTable.slot
 dsimp only
 split
 ·intro h;cases h
 ·have:SetTable.has t.dummies j=false:=by unfold SetTable.has;rw [hd];simp
  rw [this];intro h;cases h
theorem adv_dummy {t:SetTable} {p:SetTable.Probe}:(t.advance p).dummy=p.dummy:=by
 unfold SetTable.advance
 split <;> rfl
theorem probe_go {t : SetTable} {f : Nat → Int} {h : Int} (hd : t.dummies = #[]) : ∀ (fuel : Nat) (p : SetTable.Probe) (j : Nat) (d : Option Nat), p.dummy = none → SetTable.probe.go t f h fuel p = some (.empty j d) → d = none ∧ t.slot j = .empty
  | 0, p, j, d, _, e => by cases e
  | fuel + 1, p, j, d, hp, e => by
    unfold SetTable.probe.go at e
    split at e
    · rename_i hs
      cases e
      exact ⟨hp, hs⟩
    · rename_i hs; exact absurd hs (slot_not_dummy hd)
    · split at e
      · cases e
      · exact probe_go hd fuel _ j d (by rw [adv_dummy]; exact hp) e
theorem free_spec {t:SetTable} {h:Int} {j:Nat} {b:Bool} (hd:t.dummies = #[]) (e:t.freeSlot h=some (j,b)):t.slot j = .empty:=by
 unfold SetTable.freeSlot at e
 split at e
 ·rename_i j' d hp
  obtain ⟨rfl,hs⟩:=probe_go hd _ _ j' d rfl hp
  cases e
  exact hs
 ·cases e
theorem tab_put {led:Bool} {t:SetTable} (h:TabOk led t) {j:Nat} (hj:t.slot j = .empty):TabOk led (t.put j).1:=by
 refine ⟨up_insert h.up (slot_empty hj),?_,h.led⟩
 show (if SetTable.has t.dummies j then _ else t.dummies) = #[]
 have:SetTable.has t.dummies j=false:=by unfold SetTable.has;rw [h.nod];simp
 rw [this];exact h.nod
theorem tab_layNew {led:Bool} {t:SetTable} (h:TabOk led t) (es:Array (Int × Value)) (k:Int) (x:Value):TabOk led (layNew t es k x).2.1:=by
 unfold layNew
 split
 ·rename_i slot b hf
  exact tab_orStandIn (tab_put h (free_spec h.nod hf)) _
 ·exact tab_standIn h _
theorem tab_laid {mask fi mo : Nat} {led pl : Bool} {hs : Array Int} {t : SetTable} {o : Array Nat} (e : SetTable.laid mask fi mo led pl hs = some (t, o)) : TabOk led t := by
  unfold SetTable.laid at e
  cases hc : SetTable.layClean mask hs with
  | none => rw [hc] at e; cases e
  | some ow =>
    rw [hc] at e
    cases e
    refine ⟨?_, rfl, rfl⟩
    show UpL (List.map (·.1) ((List.range (mask + 1)).filterMap fun j => (ow.getD j none).map (j, ·)))
    have : ∀ l : List Nat, List.Sublist (List.map (fun z : Nat × Nat => z.1) (l.filterMap fun j => (ow.getD j none).map (j, ·))) l := by
      intro l
      induction l with
      | nil => exact .slnil
      | cons a l ih =>
        rw [List.filterMap_cons]
        cases ow.getD a none with
        | none => exact .cons _ ih
        | some q => exact .cons₂ _ ih
    exact (up_range _).sublist (this _)
theorem tab_relay {led:Bool} {t:SetTable} (h:TabOk led t) (es:Array (Int × Value)) (n:Nat):TabOk led (relayAll t es n).2.1:=by
 unfold relayAll
 split
 ·rename_i t' o e
  dsimp only
  split
  ·have z:TabOk t.led t':=tab_laid e
   rw [h.led] at z;exact z
  ·exact tab_standIn h _
 ·exact tab_standIn h _
theorem tab_plain {led:Bool} {t:SetTable} (h:TabOk led t) (b:Bool):TabOk led { t with plain:=b }:=⟨h.up,h.nod,h.led⟩
set_option maxHeartbeats 3000000
section
variable {prog : Program} {w : World} {A : Around} {E : Value → Shared → Prop} {s : Shared}
def ledW (w:World):Bool:=!w.params.followText "set-order"
def SetT (prog:Program) (w:World) (h:Heap) (a:Addr) (S:Int→Bool) (n:Nat):Prop:=
 ∃ o es ep t,h.get? a=some o∧o.ExactSet∧o.data = .set es ep t∧ElemsOf (intKind prog w) es.toList∧(∀ k,S k=true ↔ ∃ e ∈ es.toList,(intKind prog w).is k e.2=true)
  ∧ es.size < scanBound∧t.fits es.size=true∧es.size=n∧TabOk (ledW w) t
theorem setT_congr {h:Heap} {a:Addr} {S S':Int→Bool} {n n':Nat} (z:SetT prog w h a S n) (e : ∀ k,S k=S' k) (en:n=n'):SetT prog w h a S' n':=by
 have q:S=S':=funext e
 rw [q,en] at z;exact z
theorem setT_kept {h h':Heap} {a:Addr} {S:Int→Bool} {n:Nat} (z:SetT prog w h a S n) (k : ∀ o,h.get? a=some o→h'.get? a=some o):SetT prog w h' a S n:=by
 obtain ⟨o,es,ep,t,ho,r⟩:=z
 exact ⟨o,es,ep,t,k o ho,r⟩
theorem setT_store {h:Heap} {a:Addr} {o:Obj} {es:Array (Int × Value)} {ep:Nat} {t:SetTable} (ho:h.get? a=some o) (hex:o.ExactSet) (hd:o.data = .set es ep t)
  {es':Array (Int × Value)} {t':SetTable} {S':Int→Bool} (hel:ElemsOf (intKind prog w) es'.toList) (hmem : ∀ k,S' k=true ↔ ∃ e ∈ es'.toList,(intKind prog w).is k e.2=true) (hb:es'.size < scanBound)
  (hf:t'.fits es'.size=true) (ht:TabOk (ledW w) t') :
  (h.update a (Obj.putSet es' t')).get? a=some { o with data:=.set es' (ep+1) t' }∧SetT prog w (h.update a (Obj.putSet es' t')) a S' es'.size:=by
 have g:=(SetOf_store (knd:=intKind prog w) ho hex hd hel hmem hb hf).1
 exact ⟨g,_,es',ep+1,t',g,hex,rfl,hel,hmem,hb,hf,rfl,ht⟩
theorem addT_tail {g : Bool → Sem Unit} (hg : ∀ (b : Bool) (s₁ : Shared) (Q' : Unit → Shared → Prop), Q' () s₁ → wpAny (model prog w) A (g b) Q' E s₁)
    {a : Addr} {o : Obj} {es : Array (Int × Value)} {ep : Nat} {t : SetTable} (ho : s.heap.get? a = some o) (hex : o.ExactSet) (hd : o.data = .set es ep t)
    {es1 : Array (Int × Value)} {t2 : SetTable} {S' : Int → Bool} (el : ElemsOf (intKind prog w) es1.toList) (me : ∀ k', S' k' = true ↔ ∃ e ∈ es1.toList, (intKind prog w).is k' e.2 = true)
    (b1 : es1.size < scanBound) (f2 : t2.fits es1.size = true) (ht : TabOk (ledW w) t2) {wd : Bool} {R : Option Bool → Shared → Prop}
    (h : ∀ h', Heap.SameBut a s.heap h' → SetT prog w h' a S' es1.size → R (some true) { s with heap := h' }) :
    wpAny (model prog w) A (do
        storeSet a es1 t2
        if (!wd && t2.tooFull) = true then do
            g (relayAll t2 es1 (SetTable.grown es1.size)).2.2
            storeSet a (relayAll t2 es1 (SetTable.grown es1.size)).1 (relayAll t2 es1 (SetTable.grown es1.size)).2.1; pure (some true)
          else pure (some true)) R E s := by
  refine wpAny_bind (wpAny_storeSet_of ho hd ?_ (fits_of_scanBound b1))
  have z1 := setT_store (prog := prog) (w := w) ho hex hd el me b1 f2 ht
  have k1 := Heap.SameBut.update s.heap a (Obj.putSet es1 t2)
  split
  · have p := relayAll_perm t2 es1 (SetTable.grown es1.size)
    have f := relayAll_fits t2 es1 (SetTable.grown es1.size)
    have tr := tab_relay ht es1 (SetTable.grown es1.size)
    generalize relayAll t2 es1 (SetTable.grown es1.size) = rl at p f tr ⊢
    obtain ⟨es2, t3, gv⟩ := rl
    dsimp only at p f tr ⊢
    have sz : es2.size = es1.size := by have := p.length_eq; rwa [Array.length_toList, Array.length_toList] at this
    have me2 : ∀ k', S' k' = true ↔ ∃ e ∈ es2.toList, (intKind prog w).is k' e.2 = true := fun k' => by
      rw [me k']; exact ⟨fun ⟨e, he, q⟩ => ⟨e, p.mem_iff.mpr he, q⟩, fun ⟨e, he, q⟩ => ⟨e, p.mem_iff.mp he, q⟩⟩
    refine wpAny_bind (hg _ _ _ (wpAny_bind (wpAny_storeSet_of z1.1 rfl ?_ (fits_of_scanBound (by omega)))))
    have z2 := (setT_store (prog := prog) (w := w) z1.1 hex rfl (el.perm p) me2 (by omega) f tr).2
    rw [sz] at z2
    exact wpAny_pure (h _ (k1.trans (Heap.SameBut.update _ a _)) z2)
  · exact wpAny_pure (h _ k1 z1.2)
theorem addT {a : Addr} {S : Int → Bool} {n : Nat} {k : Int} {x : Value} {Q : Bool → Shared → Prop} (hx : (intKind prog w).is k x = true) (sc : x.scannable = true) (hS : SetT prog w s.heap a S n) (room : n + 1 < scanBound)
    (h : ∀ h', Heap.SameBut a s.heap h' → SetT prog w h' a (fun k' => S k' || decide (k' = k)) (if S k then n else n + 1) → Q (!S k) { s with heap := h' }) :
    wpAny (model prog w) A (setAddHashed a x ((intKind prog w).hash k)) Q E s := by
  obtain ⟨o, es, ep, t, ho, hex, hd, el, me, hb, hf, hn, ht⟩ := hS
  unfold setAddHashed setAddHashedIn
  refine wpAny_holding (wpAny_bind (wpAny_setState_of ho hd hf ?_))
  dsimp only
  rw [byScan_of sc hb el, if_pos rfl]
  unfold setAddByScan
  refine wpAny_bind (wpAny_bind (wpAny_rule (wpAny_bind (wpAny_setScan_of hx ho hd hf el ?_))))
  cases hr : List.findIdx? (fun e => (intKind prog w).is k e.2) es.toList with
  | some j =>
    dsimp only
    obtain ⟨hj, pj, _⟩ := List.findIdx?_eq_some_iff_getElem.mp hr
    have hk : S k = true := (me k).mpr ⟨es.toList[j], List.getElem_mem hj, pj⟩
    have q := h s.heap (Heap.SameBut.refl a s.heap) ⟨o, es, ep, t, ho, hex, hd, el, fun k' => by
      rw [Bool.or_eq_true, decide_eq_true_eq, ← me k']
      exact ⟨fun z => z.elim id (fun e => by rw [e]; exact hk), .inl⟩, hb, hf, by rw [if_pos hk]; exact hn, ht⟩
    rw [hk] at q
    exact wpAny_pure (wpAny_pure q)
  | none =>
    dsimp only
    have hk : S k = false := by
      cases z : S k with
      | false => rfl
      | true =>
        obtain ⟨e, he, hp⟩ := (me k).mp z
        rw [List.findIdx?_eq_none_iff.mp hr e he] at hp; cases hp
    have gw : ∀ (b : Bool) (s₁ : Shared) (Q' : Unit → Shared → Prop), Q' () s₁ → wpAny (model prog w) A (match b with | true => rule "set.scan.the-table-gave-way" | false => pure ()) Q' E s₁ := by
      intro b s₁ Q' hq; cases b
      · exact wpAny_pure hq
      · exact wpAny_rule hq
    have p := layNew_perm t es ((intKind prog w).hash k) x
    have f := layNew_fits t es ((intKind prog w).hash k) x
    have tl := tab_layNew ht es ((intKind prog w).hash k) x
    generalize layNew t es ((intKind prog w).hash k) x = L at p f tl ⊢
    obtain ⟨es1, t1, wd, gv⟩ := L
    dsimp only at p f tl ⊢
    rw [Array.toList_push] at p
    have sz : es1.size = n + 1 := by have := p.length_eq; rw [List.length_append, Array.length_toList, Array.length_toList] at this; simp at this; omega
    have fin : ∀ h', Heap.SameBut a s.heap h' → SetT prog w h' a (fun k' => S k' || decide (k' = k)) es1.size → Q true { s with heap := h' } := fun h' k1 z => by
      have q := h h' k1
      rw [hk, if_neg (by decide), ← sz] at q
      exact q z
    refine wpAny_bind (gw _ _ _ ?_)
    split
    · refine wpAny_bind ?_
      rw [hashByValue_scannable 8 sc]
      refine wpAny_pure (addT_tail gw ho hex hd ((el.push hx sc).perm p) (mem_push_iff hx me p) (by omega) ?_ ?_ fun h' k1 z => by dsimp only; exact wpAny_pure (fin h' k1 z))
      · split
        · exact f
        · exact SetTable.fits_plain_off f
      · split
        · exact tl
        · exact tab_plain tl _
    · refine wpAny_bind (wpAny_pure ?_)
      rw [if_pos rfl]
      exact addT_tail gw ho hex hd ((el.push hx sc).perm p) (mem_push_iff hx me p) (by omega) f tl fun h' k1 z => by dsimp only; exact wpAny_pure (fin h' k1 z)
end
set_option maxHeartbeats 3200000
section
variable {prog : Program} {w : World} {A : Around} {I : Addr} {fp wr : List Addr} {G : Array GenState → Array GenState → Prop} {n : Nat} {P : Nat → Value → Prop} {St : Nat → Shared → Prop}
abbrev SetF (prog:Program) (w:World) (h:Heap) (S:Addr) (val:Nat→Int) (i:Nat):Prop:=SetT prog w h S (fun k=>(firstMet val i).any (· == k)) (firstMet val i).length
theorem set_loopT {R : Result → Shared → Prop} (W : WalksS prog w A.in1 I fp wr G n P St) (S : Addr) (hSf : S ∉ fp) (val : Nat → Int) (hval : ∀ i v, P i v → ∃ t, v = .int (val i) t) (hb : n + 1 < scanBound) :
    ∀ (k i : Nat) (s : Shared), n - i = k → i ≤ n → St i s → SetF prog w s.heap S val i → (∀ s', Moved (S :: wr) G s s' → SetF prog w s'.heap S val n → R (.ok (.ret .none)) s') →
      codeAny (model prog w) A (.builtin "set.update.loop" ⟨[.ref S, .ref I], []⟩) R s := by
  have nw : S ∉ wr := fun h => hSf (W.sub _ h)
  have su : ∀ b ∈ wr, b ∈ S :: wr := fun b hb => List.mem_cons_of_mem _ hb
  intro k
  induction k with
  | zero =>
    intro i s hk hi st z hR
    have e : i = n := by omega
    subst e
    refine codeAny_builtin PyProof.Rows.F.entry_set_update_loop ?_
    rw [Around.under_plainId PyProof.Rows.F.plain_set_update_loop _]
    show wpAny _ A.in1 (pyNext (.ref I) >>= _) _ _ s
    refine wpAny_bind (W.done s _ _ st fun s' hm => ?_)
    show wpAny _ A.in1 (ret Value.none) _ _ s'
    exact wpAny_pure (hR s' (hm.mono su) (setT_kept z fun o ho => hm.heap S o nw ho))
  | succ k ih =>
    intro i s hk hi st z hR
    refine codeAny_builtin PyProof.Rows.F.entry_set_update_loop ?_
    rw [Around.under_plainId PyProof.Rows.F.plain_set_update_loop _]
    show wpAny _ A.in1 (pyNext (.ref I) >>= _) _ _ s
    refine wpAny_bind (W.item i s _ _ (by omega) st fun v s' hP st' hm => ?_)
    obtain ⟨t, rfl⟩ := hval i v hP
    have z' : SetF prog w s'.heap S val i := setT_kept z fun o ho => hm.heap S o nw ho
    show wpAny _ A.in1 (holding [Value.int (val i) t] (setAdd S (.int (val i) t)) >>= _) _ _ s'
    refine wpAny_bind (wpAny_holding ?_)
    unfold setAdd
    refine wpAny_holding (wpAny_bind ((intKind prog w).pyHash (k := val i) (intKind_is _ _ _ _) ?_))
    have rm : (firstMet val i).length + 1 < scanBound := by have := firstMet_length_le val i; omega
    refine addT (s := { s' with toks := s'.toks + 1 }) (intKind_is _ _ _ _) rfl z' rm fun h' sb z2 => ?_
    have z3 : SetF prog w h' S val (i + 1) := setT_congr z2 (fun k' => by rw [firstMet_succ, step_any]) (by rw [firstMet_succ, step_length])
    refine wpAny_pure ⟨plainId_quiet PyProof.Rows.F.plain_set_update_loop _, ih (i + 1) _ (by omega) (by omega) (W.frame _ s' _ _ st' (Nat.le_succ _) fun b hb o e => ?_) z3 fun s'' hm2 z4 => ?_⟩
    · rw [sb.2 b (fun h : b = S => hSf (by rw [← h]; exact hb))]; exact e
    · refine hR s'' (Moved.trans W.gtrans ((hm.mono su).then_heap (Nat.le_succ _) fun b o hb e => ?_) hm2) z4
      rw [sb.2 b (fun h : b = S => hb (by rw [h]; exact List.mem_cons_self))]; exact e
end
section
variable {prog : Program} {w : World} {A : Around} {E : Value → Shared → Prop} {s : Shared}
def setO (w:World):Obj:={ cls:=.type "set", dict:=none,data:=.set #[] 0 (.fresh 0 0 (ledW w)) }
theorem code_set_newT (a:Value) {Q₁:Value→Shared→Prop} (h:Q₁ (.ref s.heap.objs.size) { s with heap:=s.heap.push (setO w) }) :
  codeAny (model prog w) A (.call (.builtin "set.__new__") ⟨[.type "set", a],[]⟩) (wants Q₁ E) s:=by
 refine codeAny_of_tree ?_
 show wpAny _ A.in1 (checkBuiltinCall "set.__new__" ⟨[.type "set", a],[]⟩ >>= fun _=>again (.builtin "set.__new__" ⟨[.type "set", a],[]⟩)) _ _ s
 refine wpAny_bind (wpAny_of_eq (PySem.F.newCall_set_1 a) (wpAny_pure ⟨plainId_quiet PySem.F.plain_set_new _,codeAny_builtin PySem.F.entry_set_new ?_⟩))
 rw [Around.under_plainId PySem.F.plain_set_new _]
 unfold Builtin.«set.__new__» Builtin.Frozenset.newClass
 have hsub:=sub_set_self
 obtain ⟨hp,g,d,tk,os⟩:=s
 dsimp only
 wp_walk
 refine wpAny_askSetting (wpAny_pure ?_)
 dsimp only
 simp only [newObj]
 exact wpAny_bind (wpAny_alloc (wpAny_pure (wpAny_pure h)))
theorem call_setT {l : Addr} {its : Array Value} {ns : List Int} {Q : Value → Shared → Prop} (hh : A.handled = none) (hl : s.heap.IsList l its) (hi : IntsAre its.toList ns) (hb : its.size + 1 < scanBound)
    (h : ∀ (h' : Heap) (tk : Nat), SetF prog w h' s.heap.objs.size (fun i => ns.getD i 0) its.size → (∀ b o, b < s.heap.objs.size → s.heap.get? b = some o → h'.get? b = some o) → Q (.ref s.heap.objs.size) { s with heap := h', toks := tk }) :
    wpAny (model prog w) A (call (.type "set") [.ref l]) Q E s := by
  obtain ⟨c, tl, hmro⟩ := PySem.F.called_set.mro
  have hmade := PySem.F.called_set.made
  have hsub := PySem.F.called_set.sub
  refine wpAny_call (codeAny_of_tree ?_)
  show wpAny _ _ (callAny (.type "set") _) _ _ _
  refine wpAny_pure ⟨Code.quiet_builtin _ (by decide +kernel), codeAny_builtin PySem.F.entry_type_call ?_⟩
  rw [Around.under_plain (weight_type_call_type "set" [.ref l] []) rfl]
  have h1 := PySem.F.called_set.notType
  have h2 := PySem.F.called_set.canCreate
  have hct := PySem.F.typeCall_set_1 (.ref l)
  repeat (any_goals (first | assumption | wp_step))
  refine codeAny_mono (code_set_newT (.ref l) (E := E) (Q₁ := fun obj s₁ => obj = .ref s.heap.objs.size ∧ s₁ = { s with heap := s.heap.push (setO w) }) ⟨rfl, rfl⟩) fun r s₁ hr => ?_
  cases r with
  | error e => exact hr
  | ok fl =>
    cases fl with
    | ret obj =>
      obtain ⟨rfl, rfl⟩ := hr
      have g0 : (s.heap.push (setO w)).get? s.heap.objs.size = some (setO w) := Heap.get?_push_size _ rfl
      have hT : Shared.TypeIs { s with heap := s.heap.push (setO w) } (.ref s.heap.objs.size) "set" := ⟨_, g0, rfl⟩
      have hli := PySem.F.called_set.init.lookup
      have hbi := PySem.F.called_set.init.bind (.ref s.heap.objs.size)
      repeat (any_goals (first | assumption | wp_step))
      refine codeAny_mono (codeAny_call_builtin (R := wants (fun r s₂ => r = .none ∧ ∃ h' tk, s₂ = { s with heap := h', toks := tk } ∧ SetF prog w h' s.heap.objs.size (fun i => ns.getD i 0) its.size ∧
          (∀ b o, b < s.heap.objs.size → s.heap.get? b = some o → h'.get? b = some o)) E) PySem.F.called_set.init.plain PySem.F.entry_set_init (check_set_init_1 hT ?_)) fun r₂ s₂ hr₂ => ?_
      · obtain ⟨⟨oc, od, oda, os⟩, hol, hcl, nl, hdl⟩ := hl
        simp only at hcl hdl
        subst hcl; subst hdl
        have ol' : (s.heap.push (setO w)).get? l = some { cls := .type "list", dict := od, data := .seq its nl, slots := os } := Heap.get?_push_of_some _ hol
        have g1 : (s.heap.push (setO w)).get? s.heap.objs.size = some { cls := .type "set", dict := none, data := .set #[] 0 (.fresh 0 0 (ledW w)) } := g0
        have hsls := PySem.F.sub_list_set
        have hslf := PySem.F.sub_list_frozenset
        have hne : (Value.type "list" == Value.type "dict") = false := by decide
        have hl1 : (s.heap.push (setO w)).IsList l its := ⟨_, ol', rfl, nl, rfl⟩
        unfold Builtin.«set.__init__» noKeywords Builtin.Frozenset.updateFrom
        generalize hPI : pyIter = PI
        wp_walk
        subst hPI
        refine wpAny_pyIter_list hl1 (wpAny_bind (wpAny_runValue ?_))
        have hlS : l < s.heap.objs.size := Heap.lt_size hol
        have hh3 : A.in1.in1.in1.handled = none := by simp [hh]
        have hneI : l ≠ (s.heap.push (setO w)).objs.size := by rw [Heap.size_push]; exact Nat.ne_of_lt (Nat.lt_succ_of_lt hlS)
        have hSf : s.heap.objs.size ∉ [(s.heap.push (setO w)).objs.size, l] := by
          rw [Heap.size_push]; simp only [List.mem_cons, List.not_mem_nil, or_false, not_or]
          exact ⟨Nat.ne_of_lt (Nat.lt_succ_self _), Nat.ne_of_gt hlS⟩
        refine set_loopT ((Walks.list hh3 _ l hneI its).toS) s.heap.objs.size hSf (fun i => ns.getD i 0)
          (fun i v hv => IntsAre.int_at hi i v (by rw [Array.getElem?_toList]; exact hv)) hb (its.size - 0) 0 _ (by omega) (Nat.zero_le _) ⟨⟨_, Heap.get?_push_size _ rfl, rfl, rfl⟩, (hl1.push _)⟩ ?_ ?_
        · refine ⟨_, #[], 0, .fresh 0 0 (ledW w), Heap.get?_push_of_some _ g0, ⟨rfl, rfl, rfl⟩, rfl, fun e he => by simp at he, fun k => by simp [firstMet_zero], by decide, rfl, rfl, tab_fresh⟩
        · intro s' hm z
          obtain ⟨h', g', d', tk', os'⟩ := s'
          have eg : g' = s.gens := hm.gens
          have ed : d' = s.drawn := hm.drawn
          have eo : os' = s.os := hm.os
          subst eg; subst ed; subst eo
          show wpAny _ _ _ _ _ _
          refine wpAny_pure ?_
          show wpAny _ _ (ret Value.none) _ _ _
          refine wpAny_pure ⟨rfl, h', tk', rfl, z, fun b o hb e => ?_⟩
          refine hm.heap b o ?_ (Heap.get?_push_of_some _ (Heap.get?_push_of_some _ e))
          rw [Heap.size_push]; simp only [List.mem_cons, List.not_mem_nil, or_false, not_or]
          exact ⟨Nat.ne_of_lt hb, Nat.ne_of_lt (Nat.lt_succ_of_lt hb)⟩
      · cases r₂ with
        | error e => exact hr₂
        | ok fl₂ =>
          cases fl₂ with
          | ret r =>
            obtain ⟨rfl, h', tk, rfl, z, k'⟩ := hr₂
            repeat (any_goals (first | assumption | wp_step))
            exact h _ _ z k'
          | next => exact hr₂.elim
          | brk => exact hr₂.elim
          | cont => exact hr₂.elim
    | next => exact hr.elim
    | brk => exact hr.elim
    | cont => exact hr.elim
end
theorem erase_perm {α:Type} : ∀ {l:List α} {i:Nat} (h:i < l.length),(l[i]::l.eraseIdx i).Perm l
 | _::_,0,_=>.rfl
 | a::l,i+1,h=>(List.Perm.swap a _ _).trans (.cons a (erase_perm (l:=l) (i:=i) (by simpa using h)))
theorem pick_go {α : Type} (next : Nat → Nat) : ∀ (fuel k : Nat) (left : List α) (out : Array α), left.length = fuel → (pickOrder.go next fuel k left out).toList.Perm (out.toList ++ left)
  | 0, k, left, out, h => by
    have : left = [] := List.length_eq_zero_iff.mp h
    subst this
    unfold pickOrder.go; rw [List.append_nil]
  | fuel + 1, k, left, out, h => by
    unfold pickOrder.go
    have hlt : next k % left.length < left.length := Nat.mod_lt _ (by omega)
    generalize next k % left.length = j at hlt ⊢
    rw [List.getElem?_eq_getElem hlt]
    dsimp only
    refine (pick_go next fuel (k + 1) _ _ (by rw [List.length_eraseIdx_of_lt hlt]; omega)).trans ?_
    rw [Array.toList_push, List.append_assoc]
    exact List.Perm.append_left _ (erase_perm hlt)
theorem pick_perm {α:Type} (next:Nat→Nat) (xs:Array α):(pickOrder next xs).toList.Perm xs.toList:=by
 unfold pickOrder
 have:=pick_go next xs.size 0 xs.toList #[] (by simp)
 simpa using this
section
variable {M : Model} {A : Around} {E : Value → Shared → Prop}
theorem choose_any {src:Source} {n:Nat} {s:Shared} {Q:Nat→Shared→Prop} (hn:n≠0) (h : ∀ i d,i < n→Q i { s with drawn:=d }):wpAny M A (choose src n) Q E s:=by
 intro Γ p hΓ
 exact ⟨hn,h _ _ (Nat.mod_lt _ (Nat.pos_of_ne_zero hn))⟩
theorem draw_ok {α : Type} : ∀ (n : Nat) (xs : List α) {s : Shared} {Q : List α → Shared → Prop}, xs.length = n → (∀ l d, List.Perm l xs → Q l { s with drawn := d }) → wpAny M A (drawOrder n xs) Q E s
  | 0, xs, s, Q, e, h => by
    have : xs = [] := List.length_eq_zero_iff.mp e
    subst this
    exact wpAny_pure (h [] s.drawn .rfl)
  | n + 1, [], s, Q, e, h => by cases e
  | n + 1, x :: xs, s, Q, e, h => by
    unfold drawOrder
    refine wpAny_bind (choose_any (by simp) fun i d hi => ?_)
    rw [List.getElem?_eq_getElem hi]
    dsimp only
    refine wpAny_bind (draw_ok n _ (by rw [List.length_eraseIdx_of_lt hi]; simpa using e) fun l d' p => ?_)
    exact wpAny_pure (h _ _ ((List.Perm.cons _ p).trans (erase_perm hi)))
end
namespace SF
theorem slot_next:Slot "set_iterator" "__next__" "set_iterator.__next__" :=
 .of (owner:="set_iterator") (n:="__next__") (by rw [typeLookup_type,builtinLookup_eq_fast];kernel_rfl) (by decide +kernel) (by decide +kernel) (by decide +kernel) (.inl (by decide +kernel)) (by rw [isSubtype_type];kernel_rfl)
theorem slot_iter:Slot "set_iterator" "__iter__" "set_iterator.__iter__" :=
 .of (owner:="set_iterator") (n:="__iter__") (by rw [typeLookup_type,builtinLookup_eq_fast];kernel_rfl) (by decide +kernel) (by decide +kernel) (by decide +kernel) (.inl (by decide +kernel)) (by rw [isSubtype_type];kernel_rfl)
theorem owner_it:Manifest.owners.lookup (String.ofList ['r', 'o', 't', 'a', 'r', 'e', 't', 'i', '_', 't', 'e', 's'].reverse)=some Manifest.sig_set_iterator:=by kernel_rfl
theorem args_next (a:Value):argsOk "set_iterator.__next__" ⟨[a],[]⟩:=by
 unfold argsOk;rw [signature?_of (id:="set_iterator.__next__") (n:=['_', '_', 't', 'x', 'e', 'n', '_', '_']) (o:=['r', 'o', 't', 'a', 'r', 'e', 't', 'i', '_', 't', 'e', 's']) (by kernel_rfl) owner_it];kernel_rfl
theorem args_iter (a:Value):argsOk "set_iterator.__iter__" ⟨[a],[]⟩:=by
 unfold argsOk;rw [signature?_of (id:="set_iterator.__iter__") (n:=['_', '_', 'r', 'e', 't', 'i', '_', '_']) (o:=['r', 'o', 't', 'a', 'r', 'e', 't', 'i', '_', 't', 'e', 's']) (by kernel_rfl) owner_it];kernel_rfl
theorem entry_next:entryFor table "set_iterator.__next__" = some Builtin.«set_iterator.__next__» := entryFor_of_tree (by kernel_rfl)
theorem entry_iter:entryFor table "set_iterator.__iter__" = some Builtin.«dict_keyiterator.__iter__» :=
 entryFor_alias (id':="dict_keyiterator.__iter__") (by kernel_rfl) rfl (by decide +kernel) (by kernel_rfl)
theorem entry_set_iter:entryFor table "set.__iter__" = some Builtin.«frozenset.__iter__» :=
 entryFor_alias (id':="frozenset.__iter__") (by kernel_rfl) rfl (by decide +kernel) (by kernel_rfl)
end SF
section
variable {prog : Program} {w : World} {A : Around} {E : Value → Shared → Prop} {s : Shared}
def SetIs (h:Heap) (a:Addr) (es:Array (Int × Value)) (ep:Nat) (t:SetTable):Prop:=∃ o,h.get? a=some o∧o.ExactSet∧o.data = .set es ep t
def ItIs (h:Heap) (it a:Addr) (first:Value) (i n ep:Nat):Prop:=∃ o,h.get? it=some o∧o.cls = .type "set_iterator" ∧ o.data = .fields #[first,.int i 0,.ref a,.int n 0,.int ep 0]
theorem SetIs.kept {h h':Heap} {a:Addr} {es:Array (Int × Value)} {ep:Nat} {t:SetTable} (z:SetIs h a es ep t) (k : ∀ o,h.get? a=some o→h'.get? a=some o):SetIs h' a es ep t:=let ⟨o,ho,r⟩:=z;⟨o,k o ho,r⟩
theorem ItIs.kept {h h':Heap} {it a:Addr} {f:Value} {i n ep:Nat} (z:ItIs h it a f i n ep) (k : ∀ o,h.get? it=some o→h'.get? it=some o):ItIs h' it a f i n ep:=let ⟨o,ho,r⟩:=z;⟨o,k o ho,r⟩
theorem ItIs.ty {it a:Addr} {f:Value} {i n ep:Nat} (z:ItIs s.heap it a f i n ep):s.TypeIs (.ref it) "set_iterator" := let ⟨o,ho,hc,_⟩:=z;⟨o,ho,hc⟩
theorem SetIs.ty {a:Addr} {es:Array (Int × Value)} {ep:Nat} {t:SetTable} (z:SetIs s.heap a es ep t):s.TypeIs (.ref a) "set" := let ⟨o,ho,hc,_⟩:=z;⟨o,ho,hc.1⟩
theorem it_self {it a:Addr} {f:Value} {i n ep:Nat} {Q:Value→Shared→Prop} (z:ItIs s.heap it a f i n ep) (h:Q (.ref it) s):wpAny (model prog w) A (pyIter (.ref it)) Q E s:=by
 refine wpAny_pyIter_slot z.ty SF.slot_iter (wpAny_call_entry SF.slot_iter z.ty SF.entry_iter ?_ (SF.args_iter _))
 show wpAny _ _ (ret (.ref it)) _ _ s
 exact wpAny_pure ⟨_,rfl, "set_iterator", _,z.ty,SF.slot_next.lookup,h⟩
def NextBy (prog:Program) (w:World) (A:Around) (a:Addr) (es:Array (Int × Value)) (ep:Nat) (t:SetTable) (ord:List Value) (sl:Nat→Nat):Prop:=
 ∀ (i:Nat) (s:Shared) (E:Value→Shared→Prop) (Q:Option (Value × Nat)→Shared→Prop),SetIs s.heap a es ep t→i≤es.size→Q (ord[i]?.map fun v=>(v,sl (i+1))) s→wpAny (model prog w) A (setNext a (sl i) i ep) Q E s
theorem next_item {it a:Addr} {es:Array (Int × Value)} {ep:Nat} {t:SetTable} {ord:List Value} {sl:Nat→Nat} {i:Nat} {v:Value} {Q:Option Value→Shared→Prop} (hf:t.fits es.size=true) (N:NextBy prog w A.in1 a es ep t ord sl)
  (hI:ItIs s.heap it a (.int (sl i) 0) i es.size ep) (hS:SetIs s.heap a es ep t) (hv:ord[i]? = some v) (hi:i < es.size) (hne:a≠it)
  (hQ : ∀ h',ItIs h' it a (.int (sl (i+1)) 0) (i+1) es.size ep→Heap.SameBut it s.heap h'→Q (some v) { s with heap:=h' }):wpAny (model prog w) A (pyNext (.ref it)) Q E s:=by
 obtain ⟨o,ho,hc,hd⟩:=id hI
 obtain ⟨os,hos,hex,hds⟩:=id hS
 unfold pyNext
 refine wpAny_bind (wpAny_attempt (wpAny_callSpecial?_slot (name:=Str.ofString "__next__") hI.ty SF.slot_next (wpAny_call_entry SF.slot_next hI.ty SF.entry_next ?_ (SF.args_next _))))
 unfold Builtin.«set_iterator.__next__»
 refine wpAny_bind (wpAny_pure ?_)
 refine wpAny_bind (wpAny_fieldsOf ho hd ?_)
 dsimp only
 refine wpAny_bind (wpAny_setEntries_of hos hds hf ?_)
 rw [if_neg (by simp)]
 refine wpAny_bind (N i s _ _ hS (Nat.le_of_lt hi) ?_)
 rw [hv]
 show wpAny _ A.in1 (setField (Value.ref it) 0 (rawInt (sl (i+1):Nat)) >>= fun _=>setField (Value.ref it) 1 (rawInt ((i:Int)+1)) >>= fun _=>ret v) _ _ s
 refine wpAny_bind (wpAny_setField ho hd (by simp) ?_)
 have g1:=Heap.get?_update_self (Obj.mapFields (·.setIfInBounds 0 (rawInt (sl (i+1):Nat)))) ho (Obj.isFreed_of_fields (Obj.data_mapFields hd _))
 refine wpAny_bind (wpAny_setField g1 (Obj.data_mapFields hd _) (by simp) (wpAny_pure ⟨v,rfl,wpAny_pure (hQ _ ?_ ((Heap.SameBut.update ..).trans (Heap.SameBut.update ..)))⟩))
 refine ⟨_,Heap.get?_update_self _ g1 (Obj.isFreed_of_fields (Obj.data_mapFields (Obj.data_mapFields hd _) _)),(Obj.cls_mapFields ..).trans ((Obj.cls_mapFields ..).trans hc),?_⟩
 rw [Obj.data_mapFields (Obj.data_mapFields hd _)]
 simp [rawInt]
theorem stop_tail {it:Addr} {Q:Option Value→Shared→Prop} {h1:Heap} (hh:A.handled=none) (k:Heap.ExtBut it s.heap h1) (hQ : ∀ h',Heap.ExtBut it s.heap h'→Q none { s with heap:=h' }) :
  wpAny (model prog w) A.in1 (newExc (Value.type "StopIteration") [] >>= fun x=>raiseNew x) (fun fin s'=>∃ v,fin=Fin.done (Flow.ret v)∧wpAny (model prog w) A (pure (some v)) Q E s')
   (fun e s'=>wpAny (model prog w) A (isInstance e (Value.type "StopIteration") >>= fun b=>if b=true then pure none else throw e) Q E s') { s with heap:=h1 }:=by
 refine wpAny_bind ?_
 simp only [newExc,newTuple]
 refine wpAny_bind (wpAny_newObj_type ?_ (by size_fits))
 refine wpAny_bind (m:=firstArgMember _ _) (wpAny_of_eq (a:=Value.none) (by first | rfl | (simp only [firstArgMember];rfl)) ?_)
 refine wpAny_newObj_type ?_ (by size_fits)
 simp only [raiseNew]
 refine wpAny_bind (wpAny_handled ?_)
 rw [show A.in1.handled=none from hh]
 refine wpAny_bind (wpAny_pure (wpAny_throw ?_))
 refine wpAny_bind (wpAny_isInstance (T:="StopIteration") (b:=true) ⟨_,Heap.get?_push_size _ rfl,rfl⟩ isSubtype_stop ?_)
 exact wpAny_pure (hQ _ ((k.push _).push _))
theorem next_end {it a:Addr} {es:Array (Int × Value)} {ep:Nat} {t:SetTable} {ord:List Value} {sl:Nat→Nat} {Q:Option Value→Shared→Prop} (hh:A.handled=none) (hf:t.fits es.size=true) (N:NextBy prog w A.in1 a es ep t ord sl)
  (hI:ItIs s.heap it a (.int (sl es.size) 0) es.size es.size ep) (hS:SetIs s.heap a es ep t) (hv:ord[es.size]? = none)
  (hQ : ∀ h',Heap.ExtBut it s.heap h'→Q none { s with heap:=h' }):wpAny (model prog w) A (pyNext (.ref it)) Q E s:=by
 obtain ⟨o,ho,hc,hd⟩:=id hI
 obtain ⟨os,hos,hex,hds⟩:=id hS
 unfold pyNext
 refine wpAny_bind (wpAny_attempt (wpAny_callSpecial?_slot (name:=Str.ofString "__next__") hI.ty SF.slot_next (wpAny_call_entry SF.slot_next hI.ty SF.entry_next ?_ (SF.args_next _))))
 unfold Builtin.«set_iterator.__next__»
 refine wpAny_bind (wpAny_pure (wpAny_bind (wpAny_fieldsOf ho hd ?_)))
 dsimp only
 refine wpAny_bind (wpAny_setEntries_of hos hds hf ?_)
 rw [if_neg (by simp)]
 refine wpAny_bind (N es.size s _ _ hS (Nat.le_refl _) ?_)
 rw [hv]
 show wpAny _ A.in1 (setField (Value.ref it) 2 Value.none >>= fun _=>newExc (Value.type "StopIteration") [] >>= fun x=>raiseNew x) _ _ s
 exact wpAny_bind (wpAny_setField ho hd (by simp) (stop_tail hh (Heap.SameBut.update ..).extBut hQ))
theorem walks_slots (hh:A.handled=none) (I a:Addr) (hne:a≠I) {es:Array (Int × Value)} {ep:Nat} {t:SetTable} {ord:List Value} {sl:Nat→Nat} (hf:t.fits es.size=true) (hl:ord.length=es.size) (N:NextBy prog w A.in1 a es ep t ord sl) :
  Walks prog w A I [I,a] [I] es.size (fun i v=>ord[i]? = some v) (fun i h=>ItIs h I a (.int (sl i) 0) i es.size ep∧SetIs h a es ep t) where
 sub:=fun b hb=>by simp at hb;simp [hb]
 frame:=fun _ _ _ st hk=>⟨st.1.kept fun o e=>hk I (by simp) o e,st.2.kept fun o e=>hk a (by simp) o e⟩
 item:=fun i s Q E hi st hQ=>by
  have hv:ord[i]? = some ord[i]:=List.getElem?_eq_getElem (by omega)
  refine next_item hf N st.1 st.2 hv hi hne fun h' hit hs=>?_
  exact hQ _ h' s.toks hv ⟨hit,st.2.kept fun o e=>hs.extBut a o hne e⟩ fun b o hb e=>hs.extBut b o (fun h=>hb (by simp [h])) e
 done:=fun s Q E st hQ=>next_end hh hf N st.1 st.2 (List.getElem?_eq_none (by omega)) fun h' he=>hQ h' s.toks fun b o hb e=>he b o (fun h=>hb (by simp [h])) e
 self:=fun _ _ _ _ st hQ=>it_self st.1 hQ
theorem walks_drawn (hh:A.handled=none) (I a p:Addr) (hne:a≠I) (hnp:p≠I) {es:Array (Int × Value)} {ep:Nat} {t:SetTable} {ord:List Nat} (hf:t.fits es.size=true) (hl:ord.length=es.size) (hb : ∀ j ∈ ord,j < es.size) :
  Walks prog w A I [I,a,p] [I] es.size (fun i v=>∃ j,ord[i]? = some j∧(es[j]?).map (·.2)=some v) (fun i h=>ItIs h I a (.ref p) i es.size ep∧SetIs h a es ep t ∧ ∃ o n,h.get? p=some o∧o.data = .seq (ord.map fun j=>rawInt (j:Nat)).toArray n) where
 sub:=fun b hb=>by simp at hb;simp [hb]
 frame:=fun _ _ _ st hk=>⟨st.1.kept fun o e=>hk I (by simp) o e,st.2.1.kept fun o e=>hk a (by simp) o e,let ⟨o,n,ho,hd⟩:=st.2.2;⟨o,n,hk p (by simp) o ho,hd⟩⟩
 item:=fun i s Q E hi st hQ=>by
  obtain ⟨⟨o,ho,hc,hd⟩,⟨os,hos,hex,hds⟩,op,n,hop,hdp⟩:=id st
  have hv:ord[i]? = some ord[i]:=List.getElem?_eq_getElem (by omega)
  have hlt:=hb _ (List.getElem_mem (l:=ord) (n:=i) (by omega))
  generalize ord[i]=j at hv hlt
  have hej:es[j]? = some es[j]:=Array.getElem?_eq_getElem hlt
  unfold pyNext
  refine wpAny_bind (wpAny_attempt (wpAny_callSpecial?_slot (name:=Str.ofString "__next__") st.1.ty SF.slot_next (wpAny_call_entry SF.slot_next st.1.ty SF.entry_next ?_ (SF.args_next _))))
  unfold Builtin.«set_iterator.__next__»
  refine wpAny_bind (wpAny_pure (wpAny_bind (wpAny_fieldsOf ho hd ?_)))
  dsimp only
  refine wpAny_bind (wpAny_setEntries_of hos hds hf ?_)
  rw [if_neg (by simp)]
  refine wpAny_bind (wpAny_seqItems hop hdp ?_)
  dsimp only
  rw [show (List.map (fun j:Nat=>rawInt (j:Nat)) ord).toArray[((i:Nat):Int).toNat]? = some (.int (j:Nat) 0) by simp [hv,rawInt]]
  dsimp only
  refine wpAny_bind ?_
  unfold setNextDrawn
  refine wpAny_bind (wpAny_setState_of hos hds hf ?_)
  dsimp only
  rw [if_neg (by simp),show ((j:Nat):Int).toNat=j from rfl,hej]
  dsimp only
  refine wpAny_pure ?_
  refine wpAny_bind (wpAny_setField ho hd (by simp) (wpAny_pure ⟨_,rfl,wpAny_pure (hQ _ _ s.toks ⟨j,hv,by rw [hej];rfl⟩ ⟨?_,?_,?_⟩ ?_)⟩))
  ·refine ⟨_,Heap.get?_update_self _ ho (Obj.isFreed_of_fields (Obj.data_mapFields hd _)),(Obj.cls_mapFields ..).trans hc,?_⟩
   rw [Obj.data_mapFields hd];simp [rawInt]
  ·exact st.2.1.kept fun o e=>(Heap.SameBut.update ..).extBut a o hne e
  ·exact ⟨op,n,(Heap.SameBut.update ..).extBut p op hnp hop,hdp⟩
  ·exact fun b o hb e=>(Heap.SameBut.update ..).extBut b o (fun h=>hb (by simp [h])) e
 done:=fun s Q E st hQ=>by
  obtain ⟨⟨o,ho,hc,hd⟩,⟨os,hos,hex,hds⟩,op,n,hop,hdp⟩:=id st
  unfold pyNext
  refine wpAny_bind (wpAny_attempt (wpAny_callSpecial?_slot (name:=Str.ofString "__next__") st.1.ty SF.slot_next (wpAny_call_entry SF.slot_next st.1.ty SF.entry_next ?_ (SF.args_next _))))
  unfold Builtin.«set_iterator.__next__»
  refine wpAny_bind (wpAny_pure (wpAny_bind (wpAny_fieldsOf ho hd ?_)))
  dsimp only
  refine wpAny_bind (wpAny_setEntries_of hos hds hf ?_)
  rw [if_neg (by simp)]
  refine wpAny_bind (wpAny_seqItems hop hdp ?_)
  dsimp only
  rw [show (List.map (fun j:Nat=>rawInt (j:Nat)) ord).toArray[((es.size:Nat):Int).toNat]? = none by simp [hl]]
  dsimp only
  refine wpAny_bind (wpAny_setField ho hd (by simp) ?_)
  have g1:=Heap.get?_update_self (Obj.mapFields (·.setIfInBounds 0 (rawInt 0))) ho (Obj.isFreed_of_fields (Obj.data_mapFields hd _))
  refine wpAny_bind (wpAny_setField g1 (Obj.data_mapFields hd _) (by simp) ?_)
  exact stop_tail (s:=s) hh ((Heap.SameBut.update ..).trans (Heap.SameBut.update ..)).extBut fun h' he=>hQ h' s.toks fun b o hb e=>he b o (fun h=>hb (by simp [h])) e
 self:=fun _ _ _ _ st hQ=>it_self st.1 hQ
end
end L2
namespace L2
open PySem PySem.Spec PyProof.Rows
section
variable {prog : Program} {w : World} {A : Around} {E : Value → Shared → Prop} {s : Shared}
theorem byText_is {b:Bool} (e:w.params.followText "set-order" = b) {Q:Bool→Shared→Prop} (h:Q b s):wpAny (model prog w) A setsByText Q E s:=by
 unfold setsByText
 refine wpAny_bind (wpAny_askSetting (wpAny_pure ?_))
 show Q (w.params.followText "set-order") s
 rw [e];exact h
theorem next_text {a:Addr} {es:Array (Int × Value)} {ep:Nat} {t:SetTable} (hf:t.fits es.size=true) (e:w.params.followText "set-order" = true):NextBy prog w A a es ep t ((pickOrder (w.params.setOrder a ep) es).toList.map (·.2)) (fun _=>0):=by
 intro i s E Q hS hi hQ
 obtain ⟨o,ho,hex,hd⟩:=hS
 unfold setNext
 refine wpAny_bind (wpAny_setState_of ho hd hf ?_)
 dsimp only
 refine wpAny_bind (byText_is e ?_)
 rw [if_pos rfl,if_neg (by simp)]
 refine wpAny_bind ?_
 unfold setWalk
 refine wpAny_bind (wpAny_setState_of ho hd hf ?_)
 dsimp only
 refine wpAny_bind (byText_is e ?_)
 rw [if_pos rfl]
 refine wpAny_bind (wpAny_askSetting (wpAny_pure (wpAny_pure ?_)))
 have z:((pickOrder (w.params.setOrder a ep) es)[i]?).map (fun e:Int × Value=>(e.2,0))=(((pickOrder (w.params.setOrder a ep) es).toList.map (·.2))[i]?).map fun v=>(v,0):=by
  rw [List.getElem?_map,Array.getElem?_toList]
  cases (pickOrder (w.params.setOrder a ep) es)[i]? <;> rfl
 rw [← z] at hQ
 exact hQ
def slotAt (t:SetTable):Nat→Nat
 | 0=>0
 | i+1=>t.place.getD i 0+1
theorem below_slot {t : SetTable} (up : UpL t.place.toList) : ∀ i, i ≤ t.place.size → SetTable.below t.place (slotAt t i) = i := by
  intro i hi
  obtain ⟨h1, h2, h3⟩ := below_spec (slotAt t i) up
  generalize SetTable.below t.place (slotAt t i) = p at *
  have lt : ∀ a b, a < b → b < t.place.size → t.place.getD a 0 < t.place.getD b 0 := fun a b hab hb => by
    have := (List.pairwise_iff_getElem.mp up) a b (by simp; omega) (by simp; omega) hab
    simpa [Array.getD, hb, show a < t.place.size by omega] using this
  have gd : ∀ a d, a < t.place.size → t.place.getD a d = t.place.getD a 0 := fun a d ha => by simp [Array.getD, ha]
  cases i with
  | zero =>
    rcases Nat.eq_zero_or_pos p with z | z
    · exact z
    · have := h2 0 z
      exact absurd this (by show ¬ _ < 0; omega)
  | succ i =>
    have e : slotAt t (i + 1) = t.place.getD i 0 + 1 := rfl
    rw [e] at h2 h3
    rcases Nat.lt_trichotomy p (i + 1) with z | z | z
    · have := h3 i (by omega) (by omega)
      rw [gd i (t.place.getD i 0 + 1) (by omega)] at this
      omega
    · exact z
    · have h := h2 (i + 1) z
      rw [gd (i + 1) _ (by omega)] at h
      have := lt i (i + 1) (by omega) (by omega)
      omega
theorem next_table {a:Addr} {es:Array (Int × Value)} {ep:Nat} {t:SetTable} (hf:t.fits es.size=true) (e:w.params.followText "set-order" = false) (ht:TabOk (ledW w) t) (hp:(!t.plain && decide (es.size > 1))=false):NextBy prog w A a es ep t (es.toList.map (·.2)) (slotAt t):=by
 intro i s E Q hS hi hQ
 obtain ⟨o,ho,hex,hd⟩:=hS
 have hl:t.led=true:=by rw [ht.led];unfold ledW;rw [e];rfl
 have hsz:t.place.size=es.size:=by
  unfold SetTable.fits at hf
  rw [Bool.and_eq_true,beq_iff_eq] at hf
  exact hf.1
 unfold setNext
 refine wpAny_bind (wpAny_setState_of ho hd hf ?_)
 dsimp only
 refine wpAny_bind (byText_is e ?_)
 rw [if_neg (by decide)]
 have hp' : ∀ {β:Type} (x y:β),(if (!t.plain && decide (es.size > 1))=true then x else y)=y:=fun x y=>if_neg (by rw [hp];decide)
 show wpAny _ _ (if (!t.plain && decide (es.size > 1))=true then _ else _) _ _ _
 rw [hp']
 have hm : ∀ {Q':Unit→Shared→Prop},Q' () s→wpAny (model prog w) A (if (!t.led && !es.isEmpty)=true then unsupported "set:maker-not-led" else pure ()) Q' E s:=fun q=>by
  rw [hl];exact wpAny_pure q
 refine wpAny_bind (hm ?_)
 rw [below_slot ht.up i (by omega)]
 refine wpAny_pure ?_
 rcases Nat.lt_or_ge i es.size with z | z
 ·rw [Array.getElem?_eq_getElem z,Array.getElem?_eq_getElem (show i < t.place.size by omega)]
  rw [List.getElem?_map,Array.getElem?_toList,Array.getElem?_eq_getElem z] at hQ
  have e2:slotAt t (i+1)=t.place[i]'(by omega)+1:=by show t.place.getD i 0+1=_;simp [Array.getD,show i < t.place.size by omega]
  rw [e2] at hQ
  exact hQ
 ·rw [Array.getElem?_eq_none z]
  rw [List.getElem?_map,Array.getElem?_toList,Array.getElem?_eq_none z] at hQ
  exact hQ
structure Kp (s s':Shared):Prop where
 heap : ∀ b o,s.heap.get? b=some o→s'.heap.get? b=some o
 gens:s'.gens=s.gens
 os:s'.os=s.os
 sz:s.heap.objs.size≤s'.heap.objs.size
theorem isList_no:(Value.type "set" == Value.type "list")=false:=by decide
theorem isTuple_no:(Value.type "set" == Value.type "tuple")=false:=by decide
theorem split_len:splitId "set.__len__" = some ("set", "__len__"):=by decide +kernel
theorem set_iter {a : Addr} {es : Array (Int × Value)} {ep : Nat} {t : SetTable} {Q : Value → Shared → Prop} (hh : A.handled = none) (hS : SetIs s.heap a es ep t) (hf : t.fits es.size = true) (ht : TabOk (ledW w) t) (hn : es.size ≤ sizeLine)
    (h : ∀ (I : Addr) (s' : Shared) (fp : List Addr) (P : Nat → Value → Prop) (St : Nat → Heap → Prop), Kp s s' → s.heap.objs.size ≤ I → Walks prog w A I fp [I] es.size P St → (∀ b ∈ fp, b = a ∨ s.heap.objs.size ≤ b) → St 0 s'.heap →
      (∀ acc : Array Value, ItemsOf P acc es.size → acc.toList.Perm (es.toList.map (·.2))) → Q (.ref I) s') :
    wpAny (model prog w) A (pyIter (.ref a)) Q E s := by
  obtain ⟨o, ho, hex, hd⟩ := id hS
  have hlt := Heap.lt_size ho
  refine wpAny_pyIter_slot hS.ty PySem.F.slot_set_iter (wpAny_call_entry PySem.F.slot_set_iter hS.ty SF.entry_set_iter ?_ (PySem.F.args_set_iter_1 _))
  unfold Builtin.«frozenset.__iter__»
  refine wpAny_bind (wpAny_pure ?_)
  unfold Builtin.Frozenset.sizeOf
  refine wpAny_bind (wpAny_bind (wpAny_setEntries_of ho hd hf (wpAny_pure ?_)))
  have drw : ∀ {Q' : Bool → Shared → Prop}, Q' (!w.params.followText "set-order" && (!t.plain && decide (es.size > 1))) s → wpAny (model prog w) A.in1 (setDrawn a) Q' E s := fun q => by
    unfold setDrawn
    refine wpAny_bind (wpAny_setState_of ho hd hf ?_)
    dsimp only
    exact wpAny_bind (byText_is rfl (wpAny_pure q))
  have ends : ∀ (first : Value) (s1 : Shared), Kp s s1 → (∀ I, I = s1.heap.objs.size → Q (.ref I) { s1 with heap := s1.heap.push { cls := .type "set_iterator", data := .fields #[first, .int 0 0, .ref a, .int es.size 0, .int ep 0] } }) →
      wpAny (model prog w) A.in1 (setEpoch a >>= fun e => newFields "set_iterator" [first, rawInt 0, Value.ref a, rawInt es.size, rawInt e] >>= fun v => ret v) (fun fin s' => ∃ v, fin = Fin.done (Flow.ret v) ∧ ∃ T' r, s'.TypeIs v T' ∧ typeLookup (Value.type T') (Str.ofString "__next__") = pure (some r) ∧ Q v s') E s1 := fun first s1 k q => by
    refine wpAny_bind (wpAny_setEpoch_of (k.heap a o ho) hd hf ?_)
    exact wpAny_bind (wpAny_newObj_type (wpAny_pure ⟨_, rfl, "set_iterator", _, ⟨_, Heap.get?_push_size _ rfl, rfl⟩, SF.slot_next.lookup, q _ rfl⟩))
  have sz : ∀ (h0 : Heap) (x : Obj), (h0.push x).objs.size = h0.objs.size + 1 := fun h0 x => Heap.size_push ..
  refine wpAny_bind (drw ?_)
  dsimp only
  cases hb : (!w.params.followText "set-order" && (!t.plain && decide (es.size > 1))) with
  | true =>
    rw [if_pos rfl]
    refine wpAny_bind (draw_ok es.size (List.range es.size) (by simp) fun l d pm => ?_)
    refine wpAny_bind (wpAny_newObj_type ?_ (by show (List.map (fun i : Nat => rawInt (i : Nat)) l).toArray.size ≤ sizeLine; have := pm.length_eq; simp at this; simpa [this] using hn))
    refine ends _ _ ⟨fun b o e => Heap.get?_push_of_some _ e, rfl, rfl, by rw [sz]; exact Nat.le_succ _⟩ fun I hI => ?_
    have len : l.length = es.size := by have := pm.length_eq; simpa using this
    have hIe : I = s.heap.objs.size + 1 := by rw [hI]; exact sz _ _
    refine h I _ _ _ _ ⟨fun b o e => Heap.get?_push_of_some _ (Heap.get?_push_of_some _ e), rfl, rfl, by rw [sz, sz]; exact Nat.le_succ_of_le (Nat.le_succ _)⟩ (by rw [hIe]; exact Nat.le_succ _) (walks_drawn hh I a s.heap.objs.size (by rw [hIe]; exact Nat.ne_of_lt (Nat.lt_succ_of_lt hlt)) (by rw [hIe]; exact Nat.ne_of_lt (Nat.lt_succ_self _)) (ep := ep) (t := t) (ord := l) hf len (fun j hj => by simpa using (pm.mem_iff.mp hj))) (fun b hb => ?_) ⟨?_, ?_, ?_⟩ (fun acc ha => ?_)
    · simp only [List.mem_cons, List.not_mem_nil, or_false] at hb
      rcases hb with rfl | rfl | rfl
      · rw [hIe]; exact .inr (Nat.le_succ _)
      · exact .inl rfl
      · exact .inr (Nat.le_refl _)
    · rw [hI]; exact ⟨_, Heap.get?_push_size _ rfl, rfl, rfl⟩
    · exact hS.kept fun o e => Heap.get?_push_of_some _ (Heap.get?_push_of_some _ e)
    · exact ⟨_, 0, Heap.get?_push_of_some _ (Heap.get?_push_size _ rfl), rfl⟩
    · have e0 : acc.toList = l.map fun j => ((es[j]?).map (·.2)).getD .none := by
        apply List.ext_getElem?
        intro j
        rw [Array.getElem?_toList, List.getElem?_map]
        rcases Nat.lt_or_ge j es.size with z | z
        · have e1 : acc[j]? = some (acc[j]'(by rw [ha.1]; exact z)) := Array.getElem?_eq_getElem _
          obtain ⟨q, e2, e3⟩ := ha.2 j _ e1
          rw [e1, e2, Option.map_some, e3]; rfl
        · rw [Array.getElem?_eq_none (by rw [ha.1]; exact z), List.getElem?_eq_none (by omega)]; rfl
      rw [e0]
      refine (pm.map _).trans (List.Perm.of_eq ?_)
      apply List.ext_getElem?
      intro j
      rw [List.getElem?_map, List.getElem?_map, show es.toList[j]? = es[j]? from Array.getElem?_toList]
      rcases Nat.lt_or_ge j es.size with z | z
      · rw [List.getElem?_range z, Array.getElem?_eq_getElem z]
        show some (((es[j]?).map (·.2)).getD .none) = _
        rw [Array.getElem?_eq_getElem z]; rfl
      · rw [List.getElem?_eq_none (by simpa using z), Array.getElem?_eq_none z]; rfl
  | false =>
    rw [if_neg (by decide)]
    refine wpAny_bind (wpAny_pure (ends _ _ ⟨fun b o e => e, rfl, rfl, Nat.le_refl _⟩ fun I hI => ?_))
    have fin : ∀ (ord : List Value) (sl : Nat → Nat), sl 0 = 0 → ord.Perm (es.toList.map (·.2)) → NextBy prog w A.in1 a es ep t ord sl → Q (.ref I) { s with heap := s.heap.push { cls := .type "set_iterator", data := .fields #[rawInt 0, .int 0 0, .ref a, .int es.size 0, .int ep 0] } } := fun ord sl e0 pm N => by
      have len : ord.length = es.size := by have := pm.length_eq; simpa using this
      refine h I _ _ _ _ ⟨fun b o e => Heap.get?_push_of_some _ e, rfl, rfl, by rw [sz]; exact Nat.le_succ _⟩ (by rw [hI]; exact Nat.le_refl _) (walks_slots hh I a (by rw [hI]; exact Nat.ne_of_lt hlt) hf len N) (fun b hb => ?_) ⟨?_, ?_⟩ (fun acc ha => ?_)
      · simp only [List.mem_cons, List.not_mem_nil, or_false] at hb
        rcases hb with rfl | rfl
        · rw [hI]; exact .inr (Nat.le_refl _)
        · exact .inl rfl
      · rw [hI, e0]; exact ⟨_, Heap.get?_push_size _ rfl, rfl, rfl⟩
      · exact hS.kept fun o e => Heap.get?_push_of_some _ e
      · have : acc.toList = ord := by
          apply List.ext_getElem?
          intro j
          rw [Array.getElem?_toList]
          rcases Nat.lt_or_ge j es.size with z | z
          · have e1 : acc[j]? = some (acc[j]'(by rw [ha.1]; exact z)) := Array.getElem?_eq_getElem _
            rw [e1, ha.2 j _ e1]
          · rw [Array.getElem?_eq_none (by rw [ha.1]; exact z), List.getElem?_eq_none (by omega)]
        rw [this]; exact pm
    cases hx : w.params.followText "set-order" with
    | true => exact fin _ _ rfl ((pick_perm _ es).map _) (next_text hf hx)
    | false =>
      rw [hx] at hb
      exact fin _ _ rfl .rfl (next_table hf hx ht (by simpa using hb))
theorem collect_set {a:Addr} {es:Array (Int × Value)} {ep:Nat} {t:SetTable} {Q:List Value→Shared→Prop} (hh:A.handled=none) (hS:SetIs s.heap a es ep t) (hf:t.fits es.size=true) (ht:TabOk (ledW w) t) (hn:es.size≤sizeLine)
  (h : ∀ (l:List Value) (s':Shared),Kp s s'→l.Perm (es.toList.map (·.2))→Q l s'):wpAny (model prog w) A (collect (.ref a)) Q E s:=by
 obtain ⟨o,ho,hex,hd⟩:=id hS
 have hlt:=Heap.lt_size ho
 unfold collect
 refine wpAny_bind (wpAny_runValue (codeAny_builtin PySem.F.entry_proto_collect ?_))
 rw [Around.under_plainId PySem.F.plain_proto_collect _]
 show wpAny _ A.in1 (newList [] >>= fun l=>again (.builtin "list.__iadd__" ⟨[l,.ref a],[]⟩)) _ _ s
 refine wpAny_bind (wpAny_newObj_type (wpAny_pure ⟨plainId_quiet PySem.F.plain_list_iadd _,codeAny_builtin PySem.F.entry_list_iadd ?_⟩))
 rw [Around.under_plainId PySem.F.plain_list_iadd _]
 show wpAny _ A.in1 (Builtin.List.listExtendWith (.ref s.heap.objs.size) (.ref a) (.ref s.heap.objs.size)) _ _ _
 unfold Builtin.List.listExtendWith
 have hS1:SetIs (s.heap.push { cls:=.type "list", data:=.seq ([]:List Value).toArray }) a es ep t:=hS.kept fun o e=>Heap.get?_push_of_some _ e
 refine wpAny_bind (wpAny_typeOf (T:="set") (SetIs.ty (s:={ s with heap:=s.heap.push { cls:=.type "list", data:=.seq ([]:List Value).toArray } }) hS1) ?_)
 have n1:Builtin.List.listSameRef (.ref s.heap.objs.size) (.ref a)=false:=by
  have:s.heap.objs.size≠a:=Nat.ne_of_gt hlt
  simp [Builtin.List.listSameRef,this]
 rw [if_neg (by rw [n1,isList_no,isTuple_no];decide)]
 refine wpAny_bind (set_iter (show A.in1.handled=none from hh) hS1 hf ht hn fun I s2 fp P St k2 hI W hfp st hacc=>?_)
 have nI:s.heap.objs.size≠I:=fun e=>by
  have:s.heap.objs.size+1≤I:=by have:=hI;rwa [show ({ s with heap:=s.heap.push { cls:=.type "list", data:=.seq ([]:List Value).toArray } }:Shared).heap.objs.size=s.heap.objs.size+1 from Heap.size_push ..] at this
  rw [← e] at this;exact Nat.lt_irrefl _ this
 have hS2:SetIs s2.heap a es ep t:=hS1.kept fun o e=>k2.heap a o e
 have g0:s2.heap.get? s.heap.objs.size=some { cls:=.type "list", data:=.seq ([]:List Value).toArray }:=k2.heap _ _ (Heap.get?_push_size _ rfl)
 have hint : ∀ {Q':Bool→Shared→Prop},Q' false s2→wpAny (model prog w) A.in1 (Builtin.List.listLengthHint (.ref a)) Q' E s2:=fun q=>by
  unfold Builtin.List.listLengthHint
  refine wpAny_bind (wpAny_specialOf hS2.ty PySem.F.slot_set_len.lookup ?_)
  generalize hid:("set.__len__" : String)=id0
  wp_delta
  rw [show splitId id0=some ("set", "__len__") by rw [← hid];exact split_len]
  subst hid
  refine wpAny_bind (wpAny_isInstance (b:=true) hS2.ty sub_set_self ?_)
  rw [if_neg (by decide),if_pos (by decide +kernel)]
  refine wpAny_bind (wpAny_typeOf hS2.ty ?_)
  exact wpAny_pure q
 refine wpAny_bind (wpAny_holding (hint ?_))
 show wpAny _ A.in1 (rule "list.extend.makes-room" >>= fun _=>Builtin.List.listTouch (.ref s.heap.objs.size) >>= fun _=>again (.builtin "list.extend.loop" ⟨[.ref s.heap.objs.size,.ref I,.ref s.heap.objs.size],[]⟩)) _ _ _
 refine wpAny_bind (wpAny_rule (wpAny_bind ?_))
 show wpAny _ A.in1 (updateSeq s.heap.objs.size (·.push .none) >>= fun _=>updateSeq s.heap.objs.size (·.pop)) _ _ _
 refine wpAny_bind (wpAny_updateSeq g0 rfl ?_)
 have g1:=Heap.get?_update_self (Obj.mapSeq (·.push Value.none)) g0 rfl
 refine wpAny_updateSeq g1 rfl ?_
 have g2:=Heap.get?_update_self (Obj.mapSeq (·.pop)) g1 rfl
 have oth : ∀ b o,b≠s.heap.objs.size→s2.heap.get? b=some o→((s2.heap.update s.heap.objs.size (Obj.mapSeq (·.push Value.none))).update s.heap.objs.size (Obj.mapSeq (·.pop))).get? b=some o:=
  fun b o hb e=>(Heap.get?_update_other _ _ (Ne.symm hb)).trans ((Heap.get?_update_other _ _ (Ne.symm hb)).trans e)
 have nfp:s.heap.objs.size ∉ fp:=fun z=>by
  rcases hfp _ z with e | e
  ·exact Nat.lt_irrefl _ (e ▸ hlt)
  ·rw [show ({ s with heap:=s.heap.push { cls:=.type "list", data:=.seq ([]:List Value).toArray } }:Shared).heap.objs.size=s.heap.objs.size+1 from Heap.size_push ..] at e
   exact Nat.lt_irrefl _ e
 refine wpAny_pure ⟨plainId_quiet PySem.F.plain_extend_loop _,codeAny_extend_loopS W.toS hn s.heap.objs.size nfp _ es.size 0 _ _ _ rfl (Nat.zero_le _) (W.frame 0 s2.heap _ st fun b hb o e=>oth b o (fun z=>nfp (z ▸ hb)) e) g2 (ItemsOf.nil P) fun s' acc c' mv g3 ia=>?_⟩
 show wpAny _ A (load s.heap.objs.size >>= _) _ _ s'
 refine wpAny_bind (wpAny_load g3 (wpAny_pure (h _ s' ⟨fun b o e=>?_,?_,?_,Nat.le_of_lt (Heap.lt_size g3)⟩ (hacc acc ia))))
 ·have hb:b < s.heap.objs.size:=Heap.lt_size e
  have ne:b≠s.heap.objs.size:=Nat.ne_of_lt hb
  refine mv.heap b o ?_ (oth b o ne (k2.heap b o (Heap.get?_push_of_some _ e)))
  have:b≠I:=fun z=>by
   have q:=hI
   rw [show ({ s with heap:=s.heap.push { cls:=.type "list", data:=.seq ([]:List Value).toArray } }:Shared).heap.objs.size=s.heap.objs.size+1 from Heap.size_push ..,← z] at q
   exact Nat.lt_irrefl _ (Nat.lt_of_lt_of_le (Nat.lt_succ_of_lt hb) q)
  simp [ne,this]
 ·exact mv.gens.trans k2.gens
 ·exact mv.os.trans k2.os
end
theorem perm_of_sub : ∀ {l1 l2 : List Int}, l1.Nodup → (∀ x ∈ l1, x ∈ l2) → l2.length ≤ l1.length → l1.Perm l2
  | [], l2, _, _, h => by
    have : l2 = [] := List.length_eq_zero_iff.mp (by simpa using h)
    rw [this]
  | a :: l1, l2, nd, sub, h => by
    have ha := sub a List.mem_cons_self
    have p := List.perm_cons_erase ha
    have nd' := List.nodup_cons.mp nd
    refine (List.Perm.cons a (perm_of_sub nd'.2 (fun x hx => ?_) ?_)).trans p.symm
    · exact (List.mem_erase_of_ne (fun e => nd'.1 (by rw [← e]; exact hx))).mpr (sub x (List.mem_cons_of_mem _ hx))
    · rw [List.length_erase_of_mem ha]; simp at h; omega
theorem dedup_nodup {l:List Int} {v:Int} (h:l.Nodup):(step_dedup l v).Nodup:=by
 unfold step_dedup
 split
 ·exact h
 ·rename_i z
  rw [List.nodup_append]
  refine ⟨h,by simp,fun a ha b hb e=>z ?_⟩
  rw [List.any_eq_true]
  have:b=v:=by simpa using hb
  exact ⟨a,ha,by rw [e,this];simp⟩
theorem firstMet_nodup (val:Nat→Int) : ∀ i,(firstMet val i).Nodup
 | 0=>by rw [firstMet_zero];exact .nil
 | i+1=>by rw [firstMet_succ];exact dedup_nodup (firstMet_nodup val i)
theorem firstMet_mem {ns:List Int} {k:Int}:((firstMet (fun i=>ns.getD i 0) ns.length).any (· == k)=true)↔k ∈ ns:=by
 rw [firstMet_any,List.any_eq_true]
 constructor
 ·rintro ⟨x,hx,e⟩
  obtain ⟨i,hi,rfl⟩:=List.mem_map.mp hx
  have hi':i < ns.length:=by simpa using hi
  have:ns.getD i 0=k:=by simpa using e
  rw [← this,List.getD_eq_getElem?_getD,List.getElem?_eq_getElem hi']
  exact List.getElem_mem hi'
 ·intro h
  obtain ⟨i,hi,e⟩:=List.getElem_of_mem h
  refine ⟨k,List.mem_map.mpr ⟨i,by simpa using hi,?_⟩,by simp⟩
  rw [List.getD_eq_getElem?_getD,List.getElem?_eq_getElem hi,e];rfl
section
variable {prog : Program} {w : World}
theorem elems_ints : ∀ {l : List (Int × Value)}, ElemsOf (intKind prog w) l → ∃ ks : List Int, IntsAre (l.map (·.2)) ks ∧ ∀ k, k ∈ ks ↔ ∃ e ∈ l, (intKind prog w).is k e.2 = true
  | [], _ => ⟨[], .nil, fun k => by simp⟩
  | e :: l, h => by
    obtain ⟨ks, i, m⟩ := elems_ints h.tail
    obtain ⟨⟨k, hk, _⟩, _⟩ := h.head
    obtain ⟨t, et⟩ := Value.isInt_shape (k := k) (v := e.2) hk
    refine ⟨k :: ks, by rw [List.map_cons, et]; exact .cons k t i, fun j => ?_⟩
    rw [List.mem_cons]
    constructor
    · rintro (rfl | z)
      · exact ⟨e, List.mem_cons_self, hk⟩
      · obtain ⟨e', h1, h2⟩ := (m j).mp z
        exact ⟨e', List.mem_cons_of_mem _ h1, h2⟩
    · rintro ⟨e', h1, h2⟩
      rcases List.mem_cons.mp h1 with rfl | h1
      · exact .inl ((intKind prog w).inj _ _ _ h2 hk)
      · exact .inr ((m j).mpr ⟨e', h1, h2⟩)
theorem ints_perm {vs us : List Value} (p : us.Perm vs) : ∀ {ns : List Int}, IntsAre vs ns → ∃ ms, IntsAre us ms ∧ ms.Perm ns := by
  induction p with
  | nil => intro ns h; exact ⟨ns, h, .rfl⟩
  | cons x _ ih =>
    intro ns h
    cases h with
    | cons n t h => obtain ⟨ms, a, b⟩ := ih h; exact ⟨n :: ms, .cons n t a, .cons n b⟩
  | swap x y l =>
    intro ns h
    cases h with
    | cons n t h => cases h with
      | cons n' t' h => exact ⟨_, .cons n' t' (.cons n t h), .swap n n' _⟩
  | trans _ _ ih1 ih2 =>
    intro ns h
    obtain ⟨ms, a, b⟩ := ih2 h
    obtain ⟨ms', a', b'⟩ := ih1 a
    exact ⟨ms', a', b'.trans b⟩
def SetAtI (P:Program) (w:World) (p:Addr) (ns:List Int) (h:Heap):Prop:=SetF P w h p (fun i=>ns.getD i 0) ns.length
def isetO (P:Program) (w:World) (p:Addr) (ns:List Int):HO:=.ext (SetAtI P w p ns)
theorem iset_ok {H:Hp} {h:Heap} {p:Addr} {ns:List Int} (m:SetAtI prog w p ns h):ObjOk prog w H h p (isetO prog w p ns):=by
 refine ⟨m,?_,fun h1 h2 m1 k=>setT_kept m1 k⟩
 obtain ⟨o,es,ep,t,ho,_⟩:=m
 exact ⟨o,ho⟩
end
section
variable {X : Cx}
theorem Inv.drew {pins:List (Addr × Obj)} {σ:St} {H:Hp} {s:Shared} {d:Drawn} (I:Inv X pins σ H s):Inv X pins σ H { s with drawn:=d }:=⟨I.ok,I.os,I.bare,I.base,I.loc,I.cell,I.free,I.freeC,I.pin,I.hok,I.len⟩
def rSetI (P:Program) (w:World) (K:W.Frag):List V→Hp→VK→Prop:=fun xs H Q=>∃ (p:Addr) (ns:List Int),xs=[.ref p]∧SqL K H p (ns.map V.int)∧ns.length < 64 ∧ ∀ (q:Addr) (H':Hp),Same H H'→H' q=some (isetO P w q ns)→Q (.ref q) H'
theorem call_setI (hc:X.calm=true):CallR X (.type "set") (rSetI X.prog X.w X.K):=by
 intro pins s σ H xs us Q I r h
 obtain ⟨p,ns,rfl,hq,h64,q⟩:=h
 obtain ⟨u,rfl,rx⟩:=vals1 r
 cases rx
 obtain ⟨its,r',pl,hz⟩:=I.list hq
 have hl:=r'.length
 rw [List.length_map] at hl hz
 refine call_setT (I.ok.hd hc) pl.isList (ns:=ns) (by simpa using intsAre_of r') (by rw [List.size_toArray];unfold scanBound;omega) fun h' tk z k=>?_
 have hf:H s.heap.objs.size=none:=I.hok.fresh (Nat.le_refl _)
 rw [show its.toArray.size=ns.length by rw [List.size_toArray];omega] at z
 exact ⟨.ref s.heap.objs.size,_,I.laid (t':=tk) (fun b o e=>k b o (Heap.lt_size e) e) (Nat.le_refl _) (iset_ok z),rfl,q _ _ (same_new hf _) upd_same⟩
def rSortedI (P:Program) (w:World):List V→Hp→VK→Prop:=fun xs H Q=>∃ (p:Addr) (ns:List Int),xs=[.ref p]∧H p=some (isetO P w p ns)∧ns.length < 64 ∧
 ∀ (ms:List Int) (q:Addr) (H':Hp),ms.Pairwise (· < ·)→(∀ k,k ∈ ms↔k ∈ ns)→ms.length≤ns.length→Same H H'→H' q=some (.lst (ms.map V.int))→Q (.ref q) H'
theorem call_sortedI (hc:X.calm=true):CallR X (.builtin "sorted") (rSortedI X.prog X.w):=by
 intro pins s σ H xs us Q I r h
 obtain ⟨p,ns,rfl,hp,h64,q⟩:=h
 obtain ⟨u,rfl,rx⟩:=vals1 r
 cases rx
 obtain ⟨o,es,ep,t,ho,hex,hd,el,me,hb,hf,hn,ht⟩:=(I.hok p _ hp).1
 obtain ⟨ks,hk,mk⟩:=elems_ints el
 have hle:=firstMet_length_le (fun i=>ns.getD i 0) ns.length
 have lk:ks.length=es.size:=by have:=IntsAre.length hk;simp at this;omega
 have pk:(firstMet (fun i=>ns.getD i 0) ns.length).Perm ks:=perm_of_sub (firstMet_nodup _ _) (fun x hx=>(mk x).mpr ((me x).mp (by rw [List.any_eq_true];exact ⟨x,hx,by simp⟩))) (by omega)
 refine Calls.call_function_entry kind_sorted plain_sorted entry_sorted (args_sorted1 _) ?_
 unfold Builtin.«sorted»
 refine wpAny_bind (m:=checkCount "sorted" 1 1 _) (wpAny_pure ?_)
 refine wpAny_bind (collect_set (show X.A.in1.handled=none from I.ok.hd hc) ⟨o,ho,hex,hd⟩ hf ht (by have:sizeLine=16777216:=sizeLine_eq;unfold scanBound at hb;omega) fun l s' kp pl=>?_)
 obtain ⟨ls,hl,pls⟩:=ints_perm pl hk
 have ll:l.length=es.size:=by have:=pl.length_eq;simpa using this
 refine wpAny_bind (wpAny_newList ?_ (hsz:=by have:sizeLine=16777216:=sizeLine_eq;unfold scanBound at hb;omega))
 have gL:(s'.heap.push (seqObj "list" l.toArray 0)).get? s'.heap.objs.size=some (seqObj "list" l.toArray 0):=Heap.get?_push_size _ rfl
 refine wpAny_bind (wpAny_holding (wpAny_call_entry slot_list_sort ⟨_,gL,rfl⟩ entry_list_sort (list_sort_tree gL hl (by omega) fun out ms im pm sm=>⟨_,rfl,?_⟩) (args_list_sort _)))
 obtain ⟨e,he⟩:=sortedHeap_at (out:=out) gL
 have pa:ms.Perm (firstMet (fun i=>ns.getD i 0) ns.length):=(pm.trans pls).trans pk.symm
 have lm:ms.length=es.size:=by have:=pa.length_eq;omega
 have st:ms.Pairwise (· < ·):=by
  have nd:ms.Nodup:=pa.nodup_iff.mpr (firstMet_nodup _ _)
  have:=List.Pairwise.and sm nd
  exact this.imp fun ⟨a,b⟩=>by omega
 have kk : ∀ k,k ∈ ms↔k ∈ ns:=fun k=>by
  rw [pa.mem_iff,← firstMet_mem (ns:=ns),List.any_eq_true]
  exact ⟨fun z=>⟨k,z,by simp⟩,fun ⟨x,hx,ex⟩=>by rw [← show x=k by simpa using ex];exact hx⟩
 obtain ⟨hp',gn',dr',tk',os'⟩:=s'
 have e1:gn'=s.gens:=kp.gens
 have e2:os'=s.os:=kp.os
 subst e1;subst e2
 refine wpAny_pure ⟨_,rfl,.ref hp'.objs.size,_,(I.drew (d:=dr')).laid (a:=hp'.objs.size) (o:=.lst (ms.map V.int)) (t':=tk') (fun b o z=>?_) kp.sz ⟨by rw [List.length_map];have:sizeLine=16777216:=sizeLine_eq;unfold scanBound at hb;omega,out.toList,e,vals_of_ints im,by rw [Array.toArray_toList];exact he⟩,rfl,q _ _ _ st kk (by omega) (same_new (I.hok.fresh kp.sz) _) upd_same⟩
 have z':=kp.heap b o z
 have lt:=Heap.lt_size z'
 rw [sortedHeap_old (Nat.ne_of_lt lt) (by rw [size_push'];exact Nat.lt_succ_of_lt lt)]
 exact Heap.get?_push_of_some _ z'
theorem r_setI {P:Program} {w:World} {K:W.Frag} {H:Hp} {Q:VK} {p:Addr} {ns:List Int} (h:SqL K H p (ns.map V.int)) (h64:ns.length < 64) (q : ∀ (q:Addr) (H':Hp),Same H H'→H' q=some (isetO P w q ns)→Q (.ref q) H'):rSetI P w K [.ref p] H Q:=⟨p,ns,rfl,h,h64,q⟩
theorem r_sortedI {P:Program} {w:World} {H:Hp} {Q:VK} {p:Addr} {ns:List Int} (h:H p=some (isetO P w p ns)) (h64:ns.length < 64)
  (q : ∀ (ms:List Int) (q:Addr) (H':Hp),ms.Pairwise (· < ·)→(∀ k,k ∈ ms↔k ∈ ns)→ms.length≤ns.length→Same H H'→H' q=some (.lst (ms.map V.int))→Q (.ref q) H'):rSortedI P w [.ref p] H Q:=⟨p,ns,rfl,h,h64,q⟩
theorem bo_set:bootBuiltins "set" = some (.type "set"):=by decide +kernel
def rListR:List V→Hp→VK→Prop:=fun xs H Q=>∃ (p:Addr) (n:Int),xs=[.ref p]∧H p=some (.rng 0 n)∧0≤n∧n≤1000 ∧ ∀ (q:Addr) (H':Hp),Same H H'→H' q=some (.lst ((List.range n.toNat).map fun i=>V.int (i:Nat)))→Q (.ref q) H'
def rRng:List V→Hp→VK→Prop:=fun xs H Q=>∃ n:Int,xs=[.int n] ∧ ∀ (q:Addr) (H':Hp),Same H H'→H' q=some (.rng 0 n)→Q (.ref q) H'
theorem call_rng:CallR X (.type "range") rRng:=by
 intro pins s σ H xs us Q I r h
 obtain ⟨n,rfl,q⟩:=h
 obtain ⟨u,rfl,rx⟩:=vals1 r
 obtain ⟨t,rfl⟩:=rx
 have hf:H s.heap.objs.size=none:=I.hok.fresh (Nat.le_refl _)
 exact call_range_1 ⟨.ref s.heap.objs.size,_,I.laid (o:=.rng 0 n) (t':=s.toks+1+1) (fun _ _ e=>Heap.get?_push_of_some _ e) (Nat.le_refl _) ⟨_,_,_,Heap.get?_push_size _ rfl⟩,rfl,q _ _ (same_new hf _) upd_same⟩
theorem r_rng {H:Hp} {Q:VK} {n:Int} (q : ∀ (q:Addr) (H':Hp),Same H H'→H' q=some (.rng 0 n)→Q (.ref q) H'):rRng [.int n] H Q:=⟨n,rfl,q⟩
theorem r_listR {H:Hp} {Q:VK} {p:Addr} {n:Int} (h:H p=some (.rng 0 n)) (h0:0≤n) (h1:n≤1000) (q : ∀ (q:Addr) (H':Hp),Same H H'→H' q=some (.lst ((List.range n.toNat).map fun i=>V.int (i:Nat)))→Q (.ref q) H'):rListR [.ref p] H Q:=⟨p,n,rfl,h,h0,h1,q⟩
theorem vals_range : ∀ {l : List Nat} {us : List Value}, us.length = l.length → (∀ (j : Nat) v, us[j]? = some v → ∃ c u, l[j]? = some c ∧ v = .int (c : Nat) u) → Vals (l.map fun i => V.int (i : Nat)) us
  | [], [], _, _ => .nil
  | [], _ :: _, h, _ => by simp at h
  | _ :: _, [], h, _ => by simp at h
  | c :: l, v :: us, h, hv => by
    obtain ⟨c', u, e, hu⟩ := hv 0 v rfl
    cases e
    exact .cons ⟨u, hu⟩ (vals_range (by simpa using h) fun j w hw => hv (j + 1) w hw)
theorem call_listR (hc:X.calm=true):CallR X (.type "list") rListR:=by
 intro pins s σ H xs us Q I r h
 obtain ⟨p,n,rfl,hp,h0,h1,q⟩:=h
 obtain ⟨u,rfl,rx⟩:=vals1 r
 cases rx
 obtain ⟨t,u,v,e⟩:=I.hok p _ hp
 have hs:Builtin.Range.rangeSize 0 n 1=n.toNat:=by
  unfold Builtin.Range.rangeSize
  rw [if_pos (by decide)]
  split <;> omega
 refine call_list_range (I.ok.hd hc) e (small_one (by decide) (by decide) (by omega) (by omega)) hs (by omega) fun h' tk acc c' kp e2 hacc=>?_
 have hf:H s.heap.objs.size=none:=I.hok.fresh (Nat.le_refl _)
 refine ⟨.ref s.heap.objs.size,_,I.laid (t':=tk) kp (Nat.le_refl _) (show ObjOk X.prog X.w _ h' _ (.lst ((List.range n.toNat).map fun i=>V.int (i:Nat))) from ⟨?_,acc.toList,c',?_,by rw [Array.toArray_toList];exact e2⟩),rfl,q _ _ (same_new hf _) upd_same⟩
 ·rw [List.length_map,List.length_range];have:sizeLine=16777216:=sizeLine_eq;omega
 ·refine vals_range (by rw [Array.length_toList,hacc.1,List.length_range]) fun j v hv=>?_
  obtain ⟨u,e1⟩:=hacc.2 j v (by rw [← Array.getElem?_toList];exact hv)
  have hj:j < n.toNat:=by
   have:=(List.getElem?_eq_some_iff.mp hv).1
   rw [Array.length_toList,hacc.1] at this;exact this
  exact ⟨j,u,List.getElem?_range hj,by rw [e1];congr 1;omega⟩
end
end L2
set_option maxHeartbeats 4000000
namespace Pw
open PySem L2
set_option maxHeartbeats 4000000
seal PySem.Sem.wp
def top (i:Nat):Stmt:=PySem.Challenge.pw_padwright_k65_whole_in_order.main.body.getD i (.Pass ⟨0,0,0,0⟩)
abbrev s_is_whole:Stmt:=top 9
theorem sc_is_whole:FnScope ["thing"] ["thing"] (defScope s_is_whole):=⟨rfl,rfl,rfl,by decide +kernel,rfl,by decide +kernel,by decide +kernel⟩
abbrev s_power_of:Stmt:=top 10
theorem sc_power_of:FnScope ["base", "times", "power", "turn"] ["base", "times"] (defScope s_power_of):=⟨rfl,rfl,rfl,by decide +kernel,rfl,by decide +kernel,by decide +kernel⟩
abbrev s_common_divisor:Stmt:=top 11
theorem sc_common_divisor:FnScope ["one", "other", "greater", "lesser", "rest"] ["one", "other"] (defScope s_common_divisor):=⟨rfl,rfl,rfl,by decide +kernel,rfl,by decide +kernel,by decide +kernel⟩
abbrev s_fraction:Stmt:=top 13
theorem sc_fraction:FnScope ["top", "bottom", "divisor"] ["top", "bottom"] (defScope s_fraction):=⟨rfl,rfl,rfl,by decide +kernel,rfl,by decide +kernel,by decide +kernel⟩
abbrev s_is_fraction:Stmt:=top 14
theorem sc_is_fraction:FnScope ["thing"] ["thing"] (defScope s_is_fraction):=⟨rfl,rfl,rfl,by decide +kernel,rfl,by decide +kernel,by decide +kernel⟩
abbrev s_gridded:Stmt:=top 16
theorem sc_gridded:FnScope ["value", "base", "places", "way", "top", "bottom", "below", "rest"] ["value", "base", "places", "way"] (defScope s_gridded):=⟨rfl,rfl,rfl,by decide +kernel,rfl,by decide +kernel,by decide +kernel⟩
abbrev s_goes_up:Stmt:=top 17
theorem sc_goes_up:FnScope ["below", "rest", "bottom", "way"] ["below", "rest", "bottom", "way"] (defScope s_goes_up):=⟨rfl,rfl,rfl,by decide +kernel,rfl,by decide +kernel,by decide +kernel⟩
abbrev s_grid_value:Stmt:=top 18
theorem sc_grid_value:FnScope ["k", "base", "places"] ["k", "base", "places"] (defScope s_grid_value):=⟨rfl,rfl,rfl,by decide +kernel,rfl,by decide +kernel,by decide +kernel⟩
abbrev s_in_order:Stmt:=top 20
theorem sc_in_order:FnScope ["form", "length", "k", "one", "other"] ["form"] (defScope s_in_order):=⟨rfl,rfl,rfl,by decide +kernel,rfl,by decide +kernel,by decide +kernel⟩
abbrev s_figures_of:Stmt:=top 23
theorem sc_figures_of:FnScope ["number", "base", "text", "left"] ["number", "base"] (defScope s_figures_of):=⟨rfl,rfl,rfl,by decide +kernel,rfl,by decide +kernel,by decide +kernel⟩
abbrev s_grouped:Stmt:=top 25
theorem sc_grouped:FnScope ["text", "size", "mark"] ["text", "size", "mark"] (defScope s_grouped):=⟨rfl,rfl,rfl,by decide +kernel,rfl,by decide +kernel,by decide +kernel⟩
abbrev s_parts_of:Stmt:=top 26
theorem sc_parts_of:FnScope ["text", "size", "between", "parts", "end"] ["text", "size", "between"] (defScope s_parts_of):=⟨rfl,rfl,rfl,by decide +kernel,rfl,by decide +kernel,by decide +kernel⟩
abbrev s_body_of:Stmt:=top 28
theorem sc_body_of:FnScope ["number", "base", "places", "point", "size", "mark", "text", "cut", "whole"] ["number", "base", "places", "point", "size", "mark"] (defScope s_body_of):=⟨rfl,rfl,rfl,by decide +kernel,rfl,by decide +kernel,by decide +kernel⟩
abbrev s_ends_of:Stmt:=top 31
theorem sc_ends_of:FnScope ["style", "below"] ["style", "below"] (defScope s_ends_of):=⟨rfl,rfl,rfl,by decide +kernel,rfl,by decide +kernel,by decide +kernel⟩
abbrev s_signed:Stmt:=top 32
theorem sc_signed:FnScope ["body", "style", "below", "ends"] ["body", "style", "below"] (defScope s_signed):=⟨rfl,rfl,rfl,by decide +kernel,rfl,by decide +kernel,by decide +kernel⟩
abbrev s_unsigned:Stmt:=top 33
theorem sc_unsigned:FnScope ["core", "style", "below", "ends", "body"] ["core", "style"] (defScope s_unsigned):=⟨rfl,rfl,rfl,by decide +kernel,rfl,by decide +kernel,by decide +kernel⟩
abbrev s_stands_between_figures:Stmt:=top 34
theorem sc_stands_between_figures:FnScope ["body"] ["body"] (defScope s_stands_between_figures):=⟨rfl,rfl,rfl,by decide +kernel,rfl,by decide +kernel,by decide +kernel⟩
abbrev s_pads_of:Stmt:=top 36
theorem sc_pads_of:FnScope ["length", "width", "side", "lacks"] ["length", "width", "side"] (defScope s_pads_of):=⟨rfl,rfl,rfl,by decide +kernel,rfl,by decide +kernel,by decide +kernel⟩
abbrev s_padded:Stmt:=top 37
theorem sc_padded:FnScope ["text", "width", "fill", "side", "pads"] ["text", "width", "fill", "side"] (defScope s_padded):=⟨rfl,rfl,rfl,by decide +kernel,rfl,by decide +kernel,by decide +kernel⟩
abbrev s_padded_inside:Stmt:=top 38
theorem sc_padded_inside:FnScope ["lead", "rest", "width", "fill"] ["lead", "rest", "width", "fill"] (defScope s_padded_inside):=⟨rfl,rfl,rfl,by decide +kernel,rfl,by decide +kernel,by decide +kernel⟩
abbrev s_Form___init__:Stmt:=inClass (top 40) 0
theorem sc_Form___init__:FnScope ["self", "width", "fill", "side", "strict"] ["self", "width", "fill", "side", "strict"] (defScope s_Form___init__):=⟨rfl,rfl,rfl,by decide +kernel,rfl,by decide +kernel,by decide +kernel⟩
abbrev s_Form_put:Stmt:=inClass (top 40) 1
theorem sc_Form_put:FnScope ["self", "value", "core"] ["self", "value"] (defScope s_Form_put):=⟨rfl,rfl,rfl,by decide +kernel,rfl,by decide +kernel,by decide +kernel⟩
abbrev s_Form_is_too_wide:Stmt:=inClass (top 40) 3
theorem sc_Form_is_too_wide:FnScope ["self", "core"] ["self", "core"] (defScope s_Form_is_too_wide):=⟨rfl,rfl,rfl,by decide +kernel,rfl,by decide +kernel,by decide +kernel⟩
abbrev s_Form_filled:Stmt:=inClass (top 40) 5
theorem sc_Form_filled:FnScope ["self", "core", "lead"] ["self", "core"] (defScope s_Form_filled):=⟨rfl,rfl,rfl,by decide +kernel,rfl,by decide +kernel,by decide +kernel⟩
abbrev s_NumberForm___init__:Stmt:=inClass (top 42) 0
theorem sc_NumberForm___init__:FnScope ["self", "figures", "places", "base", "sign", "size", "mark", "point", "way", "width", "fill", "side", "strict"] ["self", "figures", "places", "base", "sign", "size", "mark", "point", "way", "width", "fill", "side", "strict"] (defScope s_NumberForm___init__):=⟨rfl,rfl,rfl,by decide +kernel,rfl,by decide +kernel,by decide +kernel⟩
abbrev s_NumberForm_core:Stmt:=inClass (top 42) 1
theorem sc_NumberForm_core:FnScope ["self", "value", "k", "body"] ["self", "value"] (defScope s_NumberForm_core):=⟨rfl,rfl,rfl,by decide +kernel,rfl,by decide +kernel,by decide +kernel⟩
abbrev s_NumberForm_lead_of:Stmt:=inClass (top 42) 5
theorem sc_NumberForm_lead_of:FnScope ["self", "core"] ["self", "core"] (defScope s_NumberForm_lead_of):=⟨rfl,rfl,rfl,by decide +kernel,rfl,by decide +kernel,by decide +kernel⟩
abbrev s_NumberForm_is_too_great:Stmt:=inClass (top 42) 6
theorem sc_NumberForm_is_too_great:FnScope ["self", "number"] ["self", "number"] (defScope s_NumberForm_is_too_great):=⟨rfl,rfl,rfl,by decide +kernel,rfl,by decide +kernel,by decide +kernel⟩
abbrev s_law_cell_at:Stmt:=top 44
theorem sc_law_cell_at:FnScope ["_law_script", "_law_k"] ["_law_script", "_law_k"] (defScope s_law_cell_at):=⟨rfl,rfl,rfl,by decide +kernel,rfl,by decide +kernel,by decide +kernel⟩
abbrev s_law_whole:Stmt:=top 45
theorem sc_law_whole:FnScope ["_law_thing"] ["_law_thing"] (defScope s_law_whole):=⟨rfl,rfl,rfl,by decide +kernel,rfl,by decide +kernel,by decide +kernel⟩
abbrev s_law_pick:Stmt:=top 46
theorem sc_law_pick:FnScope ["_law_cell", "_law_salt", "_law_many", "_law_one", "_law_two"] ["_law_cell", "_law_salt", "_law_many"] (defScope s_law_pick):=⟨rfl,rfl,rfl,by decide +kernel,rfl,by decide +kernel,by decide +kernel⟩
abbrev s_law_signs:Stmt:=top 47
theorem sc_law_signs:FnScope [] [] (defScope s_law_signs):=⟨rfl,rfl,rfl,by decide +kernel,rfl,by decide +kernel,by decide +kernel⟩
abbrev s_law_sign:Stmt:=top 48
theorem sc_law_sign:FnScope ["_law_cell", "_law_salt", "_law_some"] ["_law_cell", "_law_salt"] (defScope s_law_sign):=⟨rfl,rfl,rfl,by decide +kernel,rfl,by decide +kernel,by decide +kernel⟩
abbrev s_law_number_spec:Stmt:=top 49
theorem sc_law_number_spec:FnScope ["_law_cell", "_law_other", "_law_small", "_law_figures_here", "_law_places", "_law_base", "_law_sign_here", "_law_size", "_law_way", "_law_signs_here", "_law_widths", "_law_width", "_law_side", "_law_strict"] ["_law_cell", "_law_other", "_law_small"] (defScope s_law_number_spec):=⟨rfl,rfl,rfl,by decide +kernel,rfl,by decide +kernel,by decide +kernel⟩
abbrev s_law_number_form:Stmt:=top 50
theorem sc_law_number_form:FnScope ["_law_spec", "_law_figures_here", "_law_places", "_law_base", "_law_sign_here", "_law_size", "_law_mark", "_law_point", "_law_way", "_law_width", "_law_fill", "_law_side", "_law_strict"] ["_law_spec"] (defScope s_law_number_form):=⟨rfl,rfl,rfl,by decide +kernel,rfl,by decide +kernel,by decide +kernel⟩
abbrev s_law_power:Stmt:=top 51
theorem sc_law_power:FnScope ["_law_base", "_law_times", "_law_found", "_law_k"] ["_law_base", "_law_times"] (defScope s_law_power):=⟨rfl,rfl,rfl,by decide +kernel,rfl,by decide +kernel,by decide +kernel⟩
abbrev s_law_divisor:Stmt:=top 52
theorem sc_law_divisor:FnScope ["_law_one", "_law_other"] ["_law_one", "_law_other"] (defScope s_law_divisor):=⟨rfl,rfl,rfl,by decide +kernel,rfl,by decide +kernel,by decide +kernel⟩
abbrev s_law_lowest:Stmt:=top 53
theorem sc_law_lowest:FnScope ["_law_top", "_law_bottom", "_law_many"] ["_law_top", "_law_bottom"] (defScope s_law_lowest):=⟨rfl,rfl,rfl,by decide +kernel,rfl,by decide +kernel,by decide +kernel⟩
abbrev s_law_figures:Stmt:=top 54
theorem sc_law_figures:FnScope ["_law_number", "_law_base", "_law_found"] ["_law_number", "_law_base"] (defScope s_law_figures):=⟨rfl,rfl,rfl,by decide +kernel,rfl,by decide +kernel,by decide +kernel⟩
abbrev s_law_body:Stmt:=top 55
theorem sc_law_body:FnScope ["_law_steps", "_law_spec", "_law_places", "_law_base", "_law_size", "_law_mark", "_law_point", "_law_step", "_law_figures_here", "_law_whole_here", "_law_k", "_law_rest"] ["_law_steps", "_law_spec"] (defScope s_law_body):=⟨rfl,rfl,rfl,by decide +kernel,rfl,by decide +kernel,by decide +kernel⟩
abbrev s_law_parts:Stmt:=top 56
theorem sc_law_parts:FnScope ["_law_steps", "_law_spec", "_law_body_here"] ["_law_steps", "_law_spec"] (defScope s_law_parts):=⟨rfl,rfl,rfl,by decide +kernel,rfl,by decide +kernel,by decide +kernel⟩
abbrev s_law_filled:Stmt:=top 57
theorem sc_law_filled:FnScope ["_law_lead", "_law_rest", "_law_spec", "_law_width", "_law_fill", "_law_side", "_law_lacks", "_law_ahead"] ["_law_lead", "_law_rest", "_law_spec"] (defScope s_law_filled):=⟨rfl,rfl,rfl,by decide +kernel,rfl,by decide +kernel,by decide +kernel⟩
abbrev s_law_great:Stmt:=top 58
theorem sc_law_great:FnScope ["_law_cell", "_law_at", "_law_limit_here", "_law_one"] ["_law_cell", "_law_at", "_law_limit_here"] (defScope s_law_great):=⟨rfl,rfl,rfl,by decide +kernel,rfl,by decide +kernel,by decide +kernel⟩
abbrev s_law_put:Stmt:=top 59
theorem sc_law_put:FnScope ["_law_steps", "_law_spec", "_law_lead", "_law_rest"] ["_law_steps", "_law_spec"] (defScope s_law_put):=⟨rfl,rfl,rfl,by decide +kernel,rfl,by decide +kernel,by decide +kernel⟩
abbrev s_law_rising:Stmt:=top 60
theorem sc_law_rising:FnScope ["_law_some", "_law_spec", "_law_texts", "_law_k"] ["_law_some", "_law_spec"] (defScope s_law_rising):=⟨rfl,rfl,rfl,by decide +kernel,rfl,by decide +kernel,by decide +kernel⟩
abbrev s_law_drawn:Stmt:=top 61
theorem sc_law_drawn:FnScope ["_law_spec", "_law_cell", "_law_limit_here", "_law_some", "_law_k", "_law_wide", "_law_steps"] ["_law_spec", "_law_cell"] (defScope s_law_drawn):=⟨rfl,rfl,rfl,by decide +kernel,rfl,by decide +kernel,by decide +kernel⟩
abbrev s_law_is_number:Stmt:=top 62
theorem sc_law_is_number:FnScope ["_law_found", "_law_spec", "_law_step"] ["_law_found", "_law_spec"] (defScope s_law_is_number):=⟨rfl,rfl,rfl,by decide +kernel,rfl,by decide +kernel,by decide +kernel⟩
abbrev s_law_limit:Stmt:=top 63
theorem sc_law_limit:FnScope ["_law_spec"] ["_law_spec"] (defScope s_law_limit):=⟨rfl,rfl,rfl,by decide +kernel,rfl,by decide +kernel,by decide +kernel⟩
abbrev s_law_breaks:Stmt:=top 64
theorem sc_law_breaks:FnScope ["_law_found", "_law_spec", "_law_step", "_law_one", "_law_other", "_law_texts"] ["_law_found", "_law_spec"] (defScope s_law_breaks):=⟨rfl,rfl,rfl,by decide +kernel,rfl,by decide +kernel,by decide +kernel⟩
abbrev s_law:Stmt:=top 65
theorem sc_law:FnScope ["_law_script", "_law_k", "_law_cell", "_law_spec", "_law_found", "_law_few"] ["_law_script"] (defScope s_law):=⟨rfl,rfl,rfl,by decide +kernel,rfl,by decide +kernel,by decide +kernel⟩
structure Blt (mg:Str→Option Value):Prop where
 z_len:mg "len" = none
 z_max:mg "max" = none
 z_range:mg "range" = none
 z_isinstance:mg "isinstance" = none
 z_bool:mg "bool" = none
 z_int:mg "int" = none
 z_abs:mg "abs" = none
 z_tuple:mg "tuple" = none
 z_min:mg "min" = none
 z_sorted:mg "sorted" = none
 z_set:mg "set" = none
 z_list:mg "list" = none
section
variable {P : Program} {w : World} {K : W.Frag} {mg : Str → Option Value} {base : Heap}
local macro_rules | `(tactic| walk_at "sd")=>`(tactic| first | omega | (unfold CPos;omega) | (unfold CNn;omega) | (unfold CNz;omega) | (unfold CDivB GL;omega) | (unfold CDivS GL;omega) | (unfold CMulA CMul CMulB GL;omega))
local macro_rules | `(tactic| walk_at "hp")=>`(tactic| first | assumption | (refine Same.at (by assumption) ?_;walk_at "hp") | exact upd_same)
local macro_rules | `(tactic| walk_at "sq")=>`(tactic| first | assumption | (refine Same.seq (by assumption) ?_;walk_at "sq") | exact SqL.of (by walk_at "hp"))
local macro_rules | `(tactic| walk_at "sm")=>`(tactic| first | assumption | exact Same.refl _ | (refine Same.trans ?_ (by assumption);walk_at "sm"))
local macro_rules | `(tactic| walk_at "rdc")=>`(tactic| fail "no callee")
local macro_rules | `(tactic| walk_at "rd1")=>`(tactic| first
 | (with_reducible refine r_seq ?_)
 | (with_reducible refine r_asg ?_)
 | (with_reducible refine r_ifS ?_)
 | (with_reducible refine r_ret ?_)
 | (with_reducible refine r_next ?_)
 | (with_reducible refine r_name ?_)
 | ((with_reducible refine' r_var ?e ?_);(case e=>rfl))
 | (with_reducible refine r_c ?_)
 | (with_reducible refine r_op ?_)
 | (with_reducible refine r_I0 ?_)
 | ((with_reducible refine' r_I ?hc ?_);(case hc=>walk_at "sd"))
 | (with_reducible refine r_test ?_)
 | (with_reducible refine r_tB ?_)
 | (with_reducible refine r_exbl ?_)
 | (with_reducible refine r_eqI ?_)
 | (with_reducible refine r_neI ?_)
 | (with_reducible refine iteT ?_)
 | (with_reducible refine iteF ?_)
 | (with_reducible refine i_nT ?_)
 | ((with_reducible refine' i_dP ?hc ?_);(case hc=>omega))
 | ((with_reducible refine' i_dN ?hc ?_);(case hc=>omega))
 | ((with_reducible refine' i_ndP ?hc ?_);(case hc=>omega))
 | (with_reducible refine i_d (fun hc=>?_) (fun hc=>?_))
 | (with_reducible refine i_nd (fun hc=>?_) (fun hc=>?_))
 | (with_reducible refine i_b (fun hc=>?_) (fun hc=>?_))
 | (with_reducible refine r_cons ?_)
 | (with_reducible refine r_nil ?_)
 | (with_reducible refine r_call ?_)
 | (with_reducible refine r_cb ?_)
 | (with_reducible refine r_un ?_)
 | (with_reducible refine r_U ?_)
 | (with_reducible refine r_and ?_)
 | (with_reducible refine r_or ?_)
 | (with_reducible refine r_not ?_)
 | (with_reducible refine r_andV ?_)
 | (with_reducible refine r_orV ?_)
 | (with_reducible refine r_notV ?_)
 | (with_reducible refine r_tup ?_)
 | (with_reducible refine r_lst ?_)
 | ((with_reducible refine' r_kTup ?hz ?_);(case hz=>exact small (by simp only [List.length_cons,List.length_nil];decide));intro p' H' g' e')
 | ((with_reducible refine' r_kLst ?hz ?_);(case hz=>exact small (by simp only [List.length_cons,List.length_nil];decide));intro p' H' g' e')
 | (with_reducible refine r_isi_ii ?_)
 | (with_reducible refine r_isi_ib ?_)
 | ((with_reducible refine' r_isi_tt ?h ?_);(case h=>walk_at "hp"))
 | ((with_reducible refine' r_ixT ?h ?e ?_);(case h=>walk_at "hp");(case e=>rfl))
 | (with_reducible refine r_absA (fun k' hk'=>?_))
 | (with_reducible refine r_max2A (fun k' hk'=>?_))
 | (with_reducible refine r_min2A (fun k' hk'=>?_))
 | ((with_reducible refine' r_lenT2 ?h ?_);(case h=>walk_at "hp"))
 | ((with_reducible refine' r_lenL ?h ?_);(case h=>walk_at "sq"))
 | (with_reducible refine r_par ?_)
 | (with_reducible refine r_two ?_)
 | (with_reducible refine r_exN ?_)
 | (with_reducible refine r_forR ?_)
 | ((with_reducible refine' r_gTup ?h ?n ?_);(case h=>walk_at "hp");(case n=>rfl))
 | (with_reducible refine r_gCons ?_)
 | (with_reducible refine r_gNil ?_)
 | (with_reducible refine r_drop ?_)
 | walk_at "rdc"
 | fail "rd stops")
local macro_rules | `(tactic| walk_at "rd")=>`(tactic| repeat' walk_at "rd1")
local macro_rules | `(tactic| walk_at "st")=>`(tactic| dsimp only [L2.start,List.map,List.length,List.replicate,List.append,HAppend.hAppend,Append.append,Nat.reduceAdd,Nat.reduceSub])
local macro_rules | `(tactic| walk_at "rdc")=>`(tactic| first
 | (with_reducible refine r_slice ?_)
 | (with_reducible refine r_noPart ?_)
 | (with_reducible refine r_part ?_)
 | (with_reducible refine r_exint ?_)
 | (with_reducible refine r_compL ?_)
 | (with_reducible refine r_noIf ?_)
 | ((with_reducible refine' r_eqS (b:=true) ?e ?_);(case e=>exact decide_eq_true rfl))
 | ((with_reducible refine' r_eqS (b:=false) ?e ?_);(case e=>exact (by decide +kernel)))
 | fail "rd2 stops")
local macro_rules | `(tactic| walk_at "odd")=>`(tactic| first | assumption | exact .non | exact .bl _ | exact .str _ | exact .lst (by walk_at "hp") | exact .tup (by walk_at "hp") | exact .dct (by walk_at "hp") | (refine Odd.same ?_ (by assumption);walk_at "odd"))
local macro_rules | `(tactic| walk_at "rdc")=>`(tactic| first
 | (with_reducible refine r_raise ?_)
 | (with_reducible refine r_bmL ?_)
 | ((with_reducible refine' r_tyLL ?h ?_);(case h=>walk_at "sq"))
 | fail "rd3 stops")
local macro_rules | `(tactic| walk_at "tl")=>`(tactic| first | omega | (simp only [Lt_T,List.length_append,List.length_replicate,List.length_cons,List.length_nil,List.length_take,List.length_drop];omega) | (with_unfolding_all decide))
local macro_rules | `(tactic| walk_at "rdc")=>`(tactic| first
 | ((with_reducible refine' rTT_add ?hz ?_);(case hz=>walk_at "tl"))
 | ((with_reducible refine' rT_add ?hz ?_);(case hz=>walk_at "tl"))
 | ((with_reducible refine' rTT_len ?hz ?_);(case hz=>walk_at "tl"))
 | ((with_reducible refine' rT_len ?hz ?_);(case hz=>walk_at "tl"))
 | ((with_reducible refine' rT_ixK (z:=Str.ofString _) 94 ?hn ?hz ?h0 ?h1 ?_);(case hn=>decide +kernel);(case hz=>decide);(case h0=>omega);(case h1=>omega);intro c' hc')
 | ((with_reducible refine' rT_ixK (z:=Str.ofString _) 16 ?hn ?hz ?h0 ?h1 ?_);(case hn=>decide +kernel);(case hz=>decide);(case h0=>omega);(case h1=>omega);intro c' hc')
 | ((with_reducible refine' rT_ixK (z:=Str.ofString _) 8 ?hn ?hz ?h0 ?h1 ?_);(case hn=>decide +kernel);(case hz=>decide);(case h0=>omega);(case h1=>omega);intro c' hc')
 | ((with_reducible refine' rT_ixK (z:=Str.ofString _) 32 ?hn ?hz ?h0 ?h1 ?_);(case hn=>decide +kernel);(case hz=>decide);(case h0=>omega);(case h1=>omega);intro c' hc')
 | ((with_reducible refine' rT_ixK (z:=Str.ofString _) 13 ?hn ?hz ?h0 ?h1 ?_);(case hn=>decide +kernel);(case hz=>decide);(case h0=>omega);(case h1=>omega);intro c' hc')
 | ((with_reducible refine' rT_ixK (z:=Str.ofString _) 17 ?hn ?hz ?h0 ?h1 ?_);(case hn=>decide +kernel);(case hz=>decide);(case h0=>omega);(case h1=>omega);intro c' hc')
 | ((with_reducible refine' rT_ixK (z:=Str.ofString _) 5 ?hn ?hz ?h0 ?h1 ?_);(case hn=>decide +kernel);(case hz=>decide);(case h0=>omega);(case h1=>omega);intro c' hc')
 | ((with_reducible refine' rTT_ix ?hz ?h0 ?h1 ?_);(case hz=>walk_at "tl");(case h0=>omega);(case h1=>walk_at "tl"))
 | ((with_reducible refine' rT_ix ?hz ?h0 ?h1 ?_);(case hz=>walk_at "tl");(case h0=>omega);(case h1=>walk_at "tl"))
 | ((with_reducible refine' rTT_ixL ?hz ?h1 ?_);(case hz=>walk_at "tl");(case h1=>walk_at "tl"))
 | ((with_reducible refine' rTT_sl0 ?hz ?h0 ?_);(case hz=>walk_at "tl");(case h0=>omega))
 | ((with_reducible refine' rTT_sli ?hz ?h0 ?_);(case hz=>walk_at "tl");(case h0=>omega))
 | ((with_reducible refine' rTT_slij ?hz ?h0 ?h1 ?_);(case hz=>walk_at "tl");(case h0=>omega);(case h1=>omega))
 | ((with_reducible refine' rT_mul1 ?h0 ?h1 ?_);(case h0=>omega);(case h1=>omega))
 | ((with_reducible refine' r_eqS (b:=true) ?e ?_);(case e=>exact decide_eq_true rfl))
 | ((with_reducible refine' r_eqS (b:=false) ?e ?_);(case e=>exact (by decide +kernel)))
 | ((with_reducible refine' r_neS (b:=true) ?e ?_);(case e=>exact decide_eq_true rfl))
 | ((with_reducible refine' r_neS (b:=false) ?e ?_);(case e=>exact (by decide +kernel)))
 | (with_reducible refine rTT_eq ?_)
 | (with_reducible refine rTT_ne ?_)
 | (with_reducible refine r_eqT2 ?_)
 | (with_reducible refine r_neT2 ?_)
 | (with_reducible refine r_bmL ?_)
 | (with_reducible refine r_tyS ?_)
 | fail "rd4 stops")
local macro_rules | `(tactic| walk_at "rdc")=>`(tactic| first
 | ((with_reducible refine' r_eqS (x:=T _) (b:=true) ?e ?_);(case e=>exact decide_eq_true rfl))
 | (with_reducible refine rTT_eq ?_)
 | ((with_reducible refine' r_neS (x:=T _) (b:=true) ?e ?_);(case e=>exact decide_eq_true rfl))
 | (with_reducible refine rTT_ne ?_)
 | fail "rd5 stops")
local macro_rules | `(tactic| walk_at "rdc")=>`(tactic| first
 | (with_reducible refine r_bm0 ?_)
 | ((with_reducible refine' r_ixTs ?h ?h0 ?h1 ?_);(case h=>walk_at "sq");(case h0=>omega);(case h1=>omega))
 | fail "rd6 stops")
local macro_rules | `(tactic| walk_at "asc")=>`(tactic| first | assumption | exact Asc.nil | exact Asc.one (by omega) | exact Asc.app (by walk_at "asc") (by walk_at "asc") | exact Asc.take (by walk_at "asc") _ | exact Asc.drop (by walk_at "asc") _ | exact Asc.rep (by walk_at "asc") _)
local macro_rules | `(tactic| walk_at "rdc")=>`(tactic| first
 | (with_reducible refine r_isNN ?_)
 | fail "rd7 stops")
local macro_rules | `(tactic| walk_at "rdc")=>`(tactic| first
 | (with_reducible refine r_forR2 ?_)
 | fail "rd8 stops")
local macro_rules | `(tactic| walk_at "sqt")=>`(tactic| first | assumption | exact SqT.same (by assumption) (by assumption) | exact SqT.same (SqT.same (by assumption) (by assumption)) (by assumption) | exact SqT.of (by walk_at "hp"))
local macro_rules | `(tactic| walk_at "rdc")=>`(tactic| first
 | ((with_reducible refine' r_ixQ ?h ?e ?_);(case h=>walk_at "sqt");(case e=>rfl))
 | fail "rd9 stops")
local macro_rules | `(tactic| walk_at "rdc")=>`(tactic| first
 | (with_reducible refine r_forT ?_)
 | ((with_reducible refine' r_inF ?h ?_);(case h=>first | assumption | omega))
 | (with_reducible refine rTT_slE ?_)
 | fail "rd10 stops")
local macro_rules | `(tactic| walk_at "rdc")=>`(tactic| first
 | ((with_reducible refine' r_rjT ?h0 ?h1 ?_);(case h0=>omega);(case h1=>omega))
 | fail "rd11 stops")
local macro_rules | `(tactic| walk_at "rdc")=>`(tactic| first
 | ((with_reducible refine' r_tyLL ?h ?_);(case h=>walk_at "sq"))
 | (with_reducible refine r_bm0 ?_)
 | fail "rd12 stops")
local macro_rules | `(tactic| walk_at "rdc")=>`(tactic| first
 | fail "rd13 stops")
local macro_rules | `(tactic| walk_at "fm")=>`(tactic| first | assumption | (refine' FormAt.same (by assumption) ?_;walk_at "fm"))
local macro_rules | `(tactic| walk_at "fld2")=>`(tactic| fail "no own field")
local macro_rules | `(tactic| walk_at "fld")=>`(tactic| first | (exact FormAt.width (by walk_at "fm")) | (exact FormAt.fill (by walk_at "fm")) | (exact FormAt.side (by walk_at "fm")) | (exact FormAt.strict (by walk_at "fm")) | walk_at "fld2")
local macro_rules | `(tactic| walk_at "wk")=>`(tactic| repeat (first | exact Wk.nil | refine Wk.one ?_ | refine Wk.any ?_))
local macro_rules | `(tactic| walk_at "rdc")=>`(tactic| first
 | (with_reducible refine r_fld ?_)
 | (with_reducible refine r_raise ?_)
 | ((with_reducible refine' r_kFld ?h ?_);(case h=>walk_at "fld"))
 | (with_reducible refine r_meth ?_)
 | ((with_reducible refine' r_kMeth ?h ?_);(case h=>walk_at "ins"))
 | (with_reducible refine r_sFld ?_)
 | (with_reducible refine r_make ?_)
 | (with_reducible refine r_par3 ?_)
 | (with_reducible refine r_three ?_)
 | fail "rd14 stops")
local macro_rules | `(tactic| walk_at "rd1")=>`(tactic| first | ((with_reducible refine' r_ixL ?h ?e ?_);(case h=>walk_at "sq");(case e=>rfl)) | fail "no written place")
def lowS (t b:Int):Int:=if b < 0 then -(Int.gcd t b:Int) else (Int.gcd t b:Int)
def low1 (t b:Int):Int:=t.fdiv (lowS t b)
def low2 (t b:Int):Int:=b.fdiv (lowS t b)
theorem gcd_turn {g l:Int} (hg:0≤g) (hl:0 < l):Int.gcd l (g % l)=Int.gcd g l:=by
 rw [Int.gcd_comm g l]
 have e:g % l=g+l*(-(g / l)):=by
  have:=Int.emod_add_mul_ediv g l
  rw [Int.mul_neg];omega
 rw [e,Int.gcd_add_mul_left_right]
theorem lowS_dvd1 (t b:Int):lowS t b ∣ t:=by
 unfold lowS;split
 ·exact (Int.neg_dvd).mpr (Int.gcd_dvd_left ..)
 ·exact Int.gcd_dvd_left ..
theorem lowS_dvd2 (t b:Int):lowS t b ∣ b:=by
 unfold lowS;split
 ·exact (Int.neg_dvd).mpr (Int.gcd_dvd_right ..)
 ·exact Int.gcd_dvd_right ..
theorem lowS_pos {t b:Int} (h:0 < b):0 < lowS t b:=by
 unfold lowS;rw [if_neg (by omega)]
 have:0 < Int.gcd t b:=Int.gcd_pos_of_ne_zero_right _ (by omega)
 omega
theorem low_mul1 (t b:Int):low1 t b*lowS t b=t:=by
 unfold low1;exact Int.fdiv_mul_cancel (lowS_dvd1 t b)
theorem low_mul2 (t b:Int):low2 t b*lowS t b=b:=by
 unfold low2;exact Int.fdiv_mul_cancel (lowS_dvd2 t b)
theorem low2_pos {t b:Int} (h:0 < b):0 < low2 t b:=by
 have h1:=lowS_pos (t:=t) h
 have h2:=low_mul2 t b
 rcases Int.lt_trichotomy 0 (low2 t b) with h3 | h3 | h3
 ·exact h3
 ·rw [← h3] at h2;simp at h2;omega
 ·have:=Int.mul_neg_of_neg_of_pos h3 h1;omega
theorem low2_le {t b:Int} (h:0 < b):low2 t b≤b:=by
 have h1:=lowS_pos (t:=t) h
 have h2:=low_mul2 t b
 have h3:=low2_pos (t:=t) h
 have:=Int.mul_le_mul_of_nonneg_left (show 1≤lowS t b by omega) (Int.le_of_lt h3)
 omega
theorem low1_bd {t b L:Int} (h:0 < b) (h1 : -L < t) (h2:t < L) : -L < low1 t b∧low1 t b < L:=by
 have h3:=lowS_pos (t:=t) h
 have h4:=low_mul1 t b
 rcases Int.lt_or_le (low1 t b) 0 with h5 | h5
 ·have:=Int.mul_le_mul_of_nonneg_left (show 1≤lowS t b by omega) (show 0 ≤ -low1 t b by omega)
  simp only [Int.neg_mul,Int.mul_one] at this;omega
 ·have:=Int.mul_le_mul_of_nonneg_left (show 1≤lowS t b by omega) h5
  omega
theorem low_bd {t b L:Int} (h:0 < b) (h':b < L) (h1 : -L < t) (h2:t < L) : -L < low1 t b∧low1 t b < L∧0 < low2 t b∧low2 t b < L:=by
 have a1:=low1_bd h h1 h2
 have a2:=low2_pos (t:=t) h
 have a3:=low2_le (t:=t) h
 exact ⟨a1.1,a1.2,a2,by omega⟩
theorem gcd_abs {a b g l:Int} (h1:(0≤a∧g=a)∨(a < 0∧g = -a)) (h2:(0≤b∧l=b)∨(b < 0∧l = -b)):0≤g∧0≤l∧Int.gcd g l=Int.gcd a b:=by
 rcases h1 with ⟨h,rfl⟩ | ⟨h,rfl⟩ <;> rcases h2 with ⟨h',rfl⟩ | ⟨h',rfl⟩ <;> simp only [Int.gcd_neg,Int.neg_gcd,and_true] <;> omega
theorem mul_bd {x y L M:Int} (h1 : -L < x) (h2:x < L) (h3:0 < y) (h4:y < M) : -(L*M) < x*y∧x*y < L*M:=by
 have hL:0 < L:=by omega
 have hM:0 < M:=by omega
 have e : ∀ z:Int,0≤z→z < L→z*y < L*M:=fun z p q =>
  Int.lt_of_le_of_lt (Int.mul_le_mul_of_nonneg_right (Int.le_of_lt q) (Int.le_of_lt h3)) (Int.mul_lt_mul_of_pos_left h4 hL)
 rcases Int.lt_or_le x 0 with p | p
 ·have a1:=e (-x) (by omega) (by omega)
  have a2:=Int.mul_pos hL hM
  have a3:=Int.mul_nonneg (show 0 ≤ -x by omega) (Int.le_of_lt h3)
  rw [Int.neg_mul] at a1 a3;omega
 ·have a1:=e x p h2
  have a2:=Int.mul_pos hL hM
  have a3:=Int.mul_nonneg p (Int.le_of_lt h3)
  omega
def GrB (a b:Int):Prop:=-10000000000000000000000000000000000000000000000000000000000000000000000000000000000000000000000000000000000000000000000000000000000000000000000000000000000000000000000000000000000000000000000 < a∧a < 10000000000000000000000000000000000000000000000000000000000000000000000000000000000000000000000000000000000000000000000000000000000000000000000000000000000000000000000000000000000000000000000∧0 < b∧b < 10000000000000000000000000000000000000000000000000000000000000000000000000000000000000000000000000000000000000000000000000000000000000000000000000000000000000000000000000000000000000000000000
def Way (w:Str):Prop:=w = "down" ∨ w = "up" ∨ w = "cut" ∨ w = "near" ∨ w = "even"
def upB (w:Str) (be re bo:Int):Bool:=if w = "down" then false else if w = "up" then true else if w = "cut" then decide (be < 0) else if 2*re=bo then (decide (w = "near") || decide (be % 2=1)) else decide (2*re > bo)
def grid (w:Str) (a b P:Int):Int:=if 0 < a*P % b∧upB w (a*P / b) (a*P % b) b=true then a*P / b+1 else a*P / b
theorem up_down {be re bo:Int}:upB "down" be re bo=false:=by unfold upB;rw [if_pos rfl]
theorem up_up {be re bo:Int}:upB "up" be re bo=true:=by unfold upB;rw [if_neg (by decide +kernel),if_pos rfl]
theorem up_cut {be re bo:Int}:upB "cut" be re bo=decide (be < 0):=by unfold upB;rw [if_neg (by decide +kernel),if_neg (by decide +kernel),if_pos rfl]
theorem up_near {be re bo:Int} (h:2*re=bo):upB "near" be re bo=true:=by unfold upB;rw [if_neg (by decide +kernel),if_neg (by decide +kernel),if_neg (by decide +kernel),if_pos h,decide_eq_true rfl];rfl
theorem up_near' {be re bo:Int} (h : ¬ 2*re=bo):upB "near" be re bo=decide (2*re > bo):=by unfold upB;rw [if_neg (by decide +kernel),if_neg (by decide +kernel),if_neg (by decide +kernel),if_neg h]
theorem up_even {be re bo:Int} (h:2*re=bo):upB "even" be re bo=decide (be % 2=1):=by unfold upB;rw [if_neg (by decide +kernel),if_neg (by decide +kernel),if_neg (by decide +kernel),if_pos h,decide_eq_false (by decide +kernel)];rfl
theorem up_even' {be re bo:Int} (h : ¬ 2*re=bo):upB "even" be re bo=decide (2*re > bo):=by unfold upB;rw [if_neg (by decide +kernel),if_neg (by decide +kernel),if_neg (by decide +kernel),if_neg h]
theorem pw_bd {b : Int} (h1 : 2 ≤ b) (h2 : b ≤ 16) : ∀ n : Nat, 1 ≤ b ^ n ∧ b ^ n ≤ 16 ^ n
  | 0 => by simp
  | n + 1 => by
    obtain ⟨p, q⟩ := pw_bd h1 h2 n
    rw [Int.pow_succ, Int.pow_succ]
    have a1 := Int.mul_le_mul p (show 1 ≤ b by omega) (by decide) (by omega)
    have a2 := Int.mul_le_mul q h2 (by omega) (by omega)
    omega
theorem pw_mono {n m : Nat} (h : n ≤ m) : (16 : Int) ^ n ≤ 16 ^ m := by
  induction h with
  | refl => exact Int.le_refl _
  | step h ih =>
    rename_i m
    have := (pw_bd (b := 16) (by decide) (by decide) m).1
    rw [Int.pow_succ]; omega
theorem pw6 {b t:Int} (h1:2≤b) (h2:b≤16) (h3:t≤6):1≤b ^ t.toNat∧b ^ t.toNat≤16777216:=by
 have a:=pw_bd h1 h2 t.toNat
 have b:=pw_mono (n:=t.toNat) (m:=6) (by omega)
 have c:(16:Int) ^ 6=16777216:=by decide
 omega
theorem pw60 {b:Int} {n:Nat} (h1:2≤b) (h2:b≤16) (h3:n≤60):1≤b ^ n∧b ^ n≤1766847064778384329583297500742918515827483896875618958121606201292619776:=by
 have a:=pw_bd h1 h2 n
 have b:=pw_mono (n:=n) (m:=60) (by omega)
 have c:(16:Int) ^ 60=1766847064778384329583297500742918515827483896875618958121606201292619776:=by decide +kernel
 omega
theorem fl_bd (t:Int) {b:Int} (h:0 < b):t / b*b≤t∧t < (t / b+1)*b∧t / b*b=t - t % b∧0≤t % b∧t % b < b:=by
 have e:=Int.emod_add_mul_ediv t b
 have m0:=Int.emod_nonneg t (show b≠0 by omega)
 have m1:=Int.emod_lt_of_pos t h
 rw [Int.add_mul,Int.one_mul,Int.mul_comm (t / b) b]
 omega
def sp_power_of (K:W.Frag):Sp:=fun vs H Q _=>∃ b t:Int,vs=[.int b,.int t]∧2≤b∧b≤16∧0≤t∧t≤60∧Q (.int (b ^ t.toNat)) H
theorem c_power_of {K:W.Frag} {b t:Int} {H:Hp} {Q:VK} {E:XK} (h1:2≤b) (h2:b≤16) (h3:0≤t) (h4:t≤60) (q:Q (.int (b ^ t.toNat)) H):sp_power_of K ([.int b,.int t]++[]) H Q E:=⟨b,t,rfl,h1,h2,h3,h4,q⟩
def sp_goes_up (K:W.Frag):Sp:=fun vs H Q _=>∃ (be re bo:Int) (w:Str),vs=[.int be,.int re,.int bo,.str w]∧Way w∧0≤re∧re < 10000000000000000000000000000000000000000000000000000000000000000000000000000000000000000000000000000000000000000000000000000000000000000000000000000000000000000000000000000000000000000000000∧Q (.bl (upB w be re bo)) H
theorem c_goes_up {K:W.Frag} {be re bo:Int} {w:Str} {H:Hp} {Q:VK} {E:XK} (h1:Way w) (h2:0≤re) (h3:re < 10000000000000000000000000000000000000000000000000000000000000000000000000000000000000000000000000000000000000000000000000000000000000000000000000000000000000000000000000000000000000000000000) (q:Q (.bl (upB w be re bo)) H):sp_goes_up K ([.int be,.int re,.int bo,.str w]++[]) H Q E:=⟨be,re,bo,w,rfl,h1,h2,h3,q⟩
def sp_gridded (K:W.Frag):Sp:=fun vs H Q _=>∃ (p:Addr) (a b B t:Int) (w:Str),vs=[.ref p,.int B,.int t,.str w]∧H p=some (.tup [.int a,.int b])∧GrB a b∧2≤B∧B≤16∧0≤t∧t≤6∧Way w∧Q (.int (grid w a b (B ^ t.toNat))) H
theorem c_gridded {K:W.Frag} {p:Addr} {a b B t:Int} {w:Str} {H:Hp} {Q:VK} {E:XK} (h1:H p=some (.tup [.int a,.int b])) (h2:GrB a b) (h3:2≤B) (h4:B≤16) (h5:0≤t) (h6:t≤6) (h7:Way w) (q:Q (.int (grid w a b (B ^ t.toNat))) H):sp_gridded K ([.ref p,.int B,.int t,.str w]++[]) H Q E:=⟨p,a,b,B,t,w,rfl,h1,h2,h3,h4,h5,h6,h7,q⟩
def sp_law_cell_at (K:W.Frag):Sp:=fun vs H Q _=>∃ (a:Addr) (ns:List Int) (k:Int),vs=[.ref a,.int k]∧SqL K H a (ns.map V.int)∧0≤k ∧ ∀ v:Int,Q (.int v) H
theorem c_cell {K:W.Frag} {a:Addr} {ns:List Int} {k:Int} {H:Hp} {Q:VK} {E:XK} (h1:SqL K H a (ns.map V.int)) (h2:0≤k) (q : ∀ v:Int,Q (.int v) H):sp_law_cell_at K ([.ref a,.int k]++[]) H Q E:=⟨a,ns,k,rfl,h1,h2,q⟩
def sp_law_pick (K:W.Frag):Sp:=fun vs H Q _=>∃ c t m:Int,vs=[.int c,.int t,.int m]∧0≤t∧0 < m ∧ ∀ v:Int,0≤v→v < m→Q (.int v) H
theorem c_pick {K:W.Frag} {c t m:Int} {H:Hp} {Q:VK} {E:XK} (h1:0≤t) (h2:0 < m) (q : ∀ v:Int,0≤v→v < m→Q (.int v) H):sp_law_pick K ([.int c,.int t,.int m]++[]) H Q E:=⟨c,t,m,rfl,h1,h2,q⟩
def sp_pads_of (K:W.Frag):Sp:=fun vs H Q _=>∃ (n w:Int) (x:Str),vs=[.int n,.int w,.str x]∧Side x∧0≤n∧w≤40 ∧ ∀ p H',Same H H'→H' p=some (.tup [.int (pA x n w),.int (pB x n w)])→Q (.ref p) H'
theorem c_pads_of {K:W.Frag} {n w:Int} {x:Str} {H:Hp} {Q:VK} {E:XK} (h1:Side x) (h2:0≤n) (h3:w≤40) (q : ∀ p H',Same H H'→H' p=some (.tup [.int (pA x n w),.int (pB x n w)])→Q (.ref p) H'):sp_pads_of K ([.int n,.int w,.str x]++[]) H Q E:=⟨n,w,x,rfl,h1,h2,h3,q⟩
def sp_padded (K:W.Frag):Sp:=fun vs H Q _=>∃ (t:List Nat) (w:Int) (f:Nat) (x:Str),vs=[.str (T t),.int w,.str (T [f]),.str x]∧Side x∧t.length≤400∧w≤40 ∧ ∀ H',Same H H'→Q (.str (T (pad t w f x))) H'
theorem c_padded {K:W.Frag} {t:List Nat} {w:Int} {f:Nat} {x:Str} {H:Hp} {Q:VK} {E:XK} (h1:Side x) (h2:t.length≤400) (h3:w≤40) (q : ∀ H',Same H H'→Q (.str (T (pad t w f x))) H'):sp_padded K ([.str (T t),.int w,.str (T [f]),.str x]++[]) H Q E:=⟨t,w,f,x,rfl,h1,h2,h3,q⟩
local macro_rules | `(tactic| walk_at "rdc")=>`(tactic| ((with_reducible refine' c_pick ?h1 ?h2 ?_);(case h1=>omega);(case h2=>omega);intro v' h0' h1'))
local macro_rules | `(tactic| walk_at "rdc")=>`(tactic| ((with_reducible refine' c_cell ?h1 ?h2 ?_);(case h1=>walk_at "sq");(case h2=>omega);intro v'))
local macro_rules | `(tactic| walk_at "rdc")=>`(tactic| ((with_reducible refine' c_pads_of ?h1 ?h2 ?h3 ?_);(case h1=>first | assumption | exact .inl rfl | exact .inr (.inl rfl) | exact .inr (.inr rfl));(case h2=>omega);(case h3=>omega);intro p' H' g' e'))
local macro_rules | `(tactic| walk_at "rdc")=>`(tactic| ((with_reducible refine' c_padded ?h1 ?h2 ?h3 ?_);(case h1=>first | assumption | exact .inl rfl | exact .inr (.inl rfl) | exact .inr (.inr rfl));(case h2=>walk_at "tl");(case h3=>omega);intro H' g'))
theorem r_ixF {i:Int} {H:Hp} {Q:VK} (h0:0≤i) (h1:i < 16) (q:Q (.str (T [fc i.toNat])) H):rIxS (.str "0123456789abcdef") (.int i) H Q:=by
 have e:(Lt "0123456789abcdef").length=16:=by decide +kernel
 exact rT_ix (by omega) h0 (by omega) q
theorem rT_mulZ {n:Int} {H:Hp} {Q:VK} (h1:n < 16777216) (h2 : -16777216 < n) (q:Q (.str (T (List.replicate n.toNat 48))) H):rMulT (.str "0") (.int n) H Q:=by
 have e:("0" : Str)=T [48]:=by decide +kernel
 rw [e];exact rT_mul1 h1 h2 q
local macro_rules | `(tactic| walk_at "rdc")=>`(tactic| ((with_reducible refine' rT_mulZ ?h1 ?h2 ?_);(case h1=>omega);(case h2=>omega)))
local macro_rules | `(tactic| walk_at "rdc")=>`(tactic| ((with_reducible refine' r_ixF ?h1 ?h2 ?_);(case h1=>omega);(case h2=>omega)))
def sp_figures_of (K:W.Frag):Sp:=fun vs H Q _=>∃ n b:Int,vs=[.int n,.int b]∧0≤n∧2≤b∧b≤16∧n < 1766847064778384329583297500742918515827483896875618958121606201292619776∧(∀ l,l=figs b.toNat n.toNat→FigB b l→val b l=n→0 < l.length→l.length≤240→(l.getD 0 0=48→l=[48])→Q (.str (T l)) H)
theorem c_figures_of {K:W.Frag} {n b:Int} {H:Hp} {Q:VK} {E:XK} (h1:0≤n) (h2:2≤b) (h3:b≤16) (h4:n < 1766847064778384329583297500742918515827483896875618958121606201292619776) (q:(∀ l,l=figs b.toNat n.toNat→FigB b l→val b l=n→0 < l.length→l.length≤240→(l.getD 0 0=48→l=[48])→Q (.str (T l)) H)):sp_figures_of K ([.int n,.int b]++[]) H Q E:=⟨n,b,rfl,h1,h2,h3,h4,q⟩
local macro_rules | `(tactic| walk_at "rdc")=>`(tactic| ((with_reducible refine' c_figures_of ?h1 ?h2 ?h3 ?h4 ?_);(case h1=>omega);(case h2=>omega);(case h3=>omega);(case h4=>omega);intro l' el' f1' f2' f3' f4' f5'))
def sp_parts_of (K:W.Frag):Sp:=fun vs H Q _=>∃ (a:List Nat) (z g:Int),vs=[.str (T a),.int z,.int g]∧0 < z∧z≤9∧0≤g∧g≤1∧a.length≤400 ∧ ∀ p H',Same H H'→H' p=some (.lst ((pcs a z.toNat g.toNat a.length).map fun l=>V.str (T l)))→Q (.ref p) H'
theorem c_parts_of {K:W.Frag} {a:List Nat} {z g:Int} {H:Hp} {Q:VK} {E:XK} (h1:0 < z) (h2:z≤9) (h3:0≤g) (h4:g≤1) (h5:a.length≤400) (q : ∀ p H',Same H H'→H' p=some (.lst ((pcs a z.toNat g.toNat a.length).map fun l=>V.str (T l)))→Q (.ref p) H'):sp_parts_of K ([.str (T a),.int z,.int g]++[]) H Q E:=⟨a,z,g,rfl,h1,h2,h3,h4,h5,q⟩
local macro_rules | `(tactic| walk_at "rdc")=>`(tactic| ((with_reducible refine' c_parts_of ?h1 ?h2 ?h3 ?h4 ?h5 ?_);(case h1=>omega);(case h2=>omega);(case h3=>omega);(case h4=>omega);(case h5=>omega);intro p' H' g' e'))
def sp_grouped (K:W.Frag):Sp:=fun vs H Q _=>∃ (a:List Nat) (z:Int) (m:Nat),vs=[.str (T a),.int z,.str (T [m])]∧0≤z∧z≤9∧a.length≤400 ∧ ∀ H',Same H H'→Q (.str (T (gr z.toNat m a))) H'
theorem c_grouped {K:W.Frag} {a:List Nat} {z:Int} {m:Nat} {H:Hp} {Q:VK} {E:XK} (h1:0≤z) (h2:z≤9) (h5:a.length≤400) (q : ∀ H',Same H H'→Q (.str (T (gr z.toNat m a))) H'):sp_grouped K ([.str (T a),.int z,.str (T [m])]++[]) H Q E:=⟨a,z,m,rfl,h1,h2,h5,q⟩
local macro_rules | `(tactic| walk_at "rdc")=>`(tactic| ((with_reducible refine' c_grouped ?h1 ?h2 ?h5 ?_);(case h1=>omega);(case h2=>omega);(case h5=>omega);intro H' g'))
def NumB (n b p:Int):Prop:=0≤n∧2≤b∧b≤16∧0≤p∧p≤6∧n.toNat < b.toNat ^ (40+p.toNat)
def bdI (n b p:Int) (pt:Nat) (z:Int) (m:Nat):List Nat:=bdy b.toNat p.toNat pt z.toNat m n.toNat
theorem NumB.big {n b p:Int} (h:NumB n b p):n < 1766847064778384329583297500742918515827483896875618958121606201292619776:=by
 obtain ⟨h1,h2,h3,h4,h5,h6⟩:=h
 have e1:b.toNat ^ (40+p.toNat)≤16 ^ (40+p.toNat):=Nat.pow_le_pow_left (by omega) _
 have e2:(16:Nat) ^ (40+p.toNat)≤16 ^ 46:=Nat.pow_le_pow_right (by decide) (by omega)
 have e3:(16:Nat) ^ 46 < 1766847064778384329583297500742918515827483896875618958121606201292619776:=by decide +kernel
 omega
def sp_body_of (K:W.Frag):Sp:=fun vs H Q _=>∃ (n b p z:Int) (pt m:Nat),vs=[.int n,.int b,.int p,.str (T [pt]),.int z,.str (T [m])]∧NumB n b p∧0≤z∧z≤9 ∧ ∀ H',Same H H'→Q (.str (T (bdI n b p pt z m))) H'
theorem c_body_of {K:W.Frag} {n b p z:Int} {pt m:Nat} {H:Hp} {Q:VK} {E:XK} (h1:NumB n b p) (h2:0≤z) (h3:z≤9) (q : ∀ H',Same H H'→Q (.str (T (bdI n b p pt z m))) H'):sp_body_of K ([.int n,.int b,.int p,.str (T [pt]),.int z,.str (T [m])]++[]) H Q E:=⟨n,b,p,z,pt,m,rfl,h1,h2,h3,q⟩
local macro_rules | `(tactic| walk_at "rdc")=>`(tactic| ((with_reducible refine' c_body_of ?h1 ?h2 ?h3 ?_);(case h1=>assumption);(case h2=>omega);(case h3=>omega);intro H' g'))
def sp_ends_of (K:W.Frag):Sp:=fun vs H Q _=>∃ (x:Str) (b:Bool),vs=[.str x,.bl b]∧Style x ∧ ∀ p,SqT K H p [.str (T (stL x b)),.str (T (stT x b))]→Q (.ref p) H
theorem c_ends_of {K:W.Frag} {x:Str} {b:Bool} {H:Hp} {Q:VK} {E:XK} (h:Style x) (q : ∀ p,SqT K H p [.str (T (stL x b)),.str (T (stT x b))]→Q (.ref p) H):sp_ends_of K ([.str x,.bl b]++[]) H Q E:=⟨x,b,rfl,h,q⟩
local macro_rules | `(tactic| walk_at "rdc")=>`(tactic| ((with_reducible refine' c_ends_of ?h ?_);(case h=>assumption);intro p' e'))
def sg (x:Str) (b:Bool) (l:List Nat):List Nat:=stL x b++l++stT x b
theorem sg_len {x:Str} (h:Style x) (b:Bool) (l:List Nat):l.length≤(sg x b l).length∧(sg x b l).length≤l.length+2:=by
 have:=st_len h b
 unfold sg;simp only [List.length_append];omega
def sp_signed (K:W.Frag):Sp:=fun vs H Q _=>∃ (l:List Nat) (x:Str) (b:Bool),vs=[.str (T l),.str x,.bl b]∧Style x∧l.length≤1000∧Q (.str (T (sg x b l))) H
theorem c_signed {K:W.Frag} {l:List Nat} {x:Str} {b:Bool} {H:Hp} {Q:VK} {E:XK} (h:Style x) (h2:l.length≤1000) (q:Q (.str (T (sg x b l))) H):sp_signed K ([.str (T l),.str x,.bl b]++[]) H Q E:=⟨l,x,b,rfl,h,h2,q⟩
local macro_rules | `(tactic| walk_at "rdc")=>`(tactic| ((with_reducible refine' c_signed ?h ?h2 ?_);(case h=>assumption);(case h2=>omega)))
def sp_stands_between_figures (K:W.Frag):Sp:=fun vs H Q _=>∃ l:List Nat,vs=[.str (T l)]∧Asc l∧l.length≤1000∧(Fg l→Q (.bl true) H)∧(¬ Fg l→Q (.bl false) H)
theorem c_stands {K:W.Frag} {l:List Nat} {H:Hp} {Q:VK} {E:XK} (h1:Asc l) (h2:l.length≤1000) (q1:Fg l→Q (.bl true) H) (q2 : ¬ Fg l→Q (.bl false) H):sp_stands_between_figures K ([.str (T l)]++[]) H Q E:=⟨l,rfl,h1,h2,q1,q2⟩
local macro_rules | `(tactic| walk_at "rdc")=>`(tactic| ((with_reducible refine' c_stands ?h1 ?h2 (fun fg'=>?_) (fun fg'=>?_));(case h1=>assumption);(case h2=>omega)))
def sp_unsigned (K:W.Frag):Sp:=fun vs H Q E=>∃ (t:List Nat) (x:Str),vs=[.str (T t),.str x]∧Style x∧Asc t∧t.length≤1000∧(∀ b,Sgd x b t → ∀ p H',Same H H'→H' p=some (.tup [.bl b,.str (T (bod x b t))])→Q (.ref p) H')∧((¬ Sgd x false t)→(¬ Sgd x true t) → ∀ C H',Nm K "NoCore" C→Same H H'→E (.ref C) none H')
theorem c_unsigned {K:W.Frag} {t:List Nat} {x:Str} {b:Bool} {H:Hp} {Q:VK} {E:XK} (h1:Style x) (h2:Asc t) (h3:t.length≤1000) (g:Sgd x b t) (q : ∀ p H',Same H H'→H' p=some (.tup [.bl b,.str (T (bod x b t))])→Q (.ref p) H'):spc (sp_unsigned K) ([.str (T t),.str x]++[]) H Q E:=by
 refine ⟨t,x,rfl,h1,h2,h3,fun b' g' p H' gg e=>?_,fun n0 n1=>?_⟩
 ·have e2:b'=b:=by
   cases b' <;> cases b
   ·rfl
   ·exact (one_way h1 g' g).elim
   ·exact (one_way h1 g g').elim
   ·rfl
  subst e2
  exact q p H' gg e
 ·cases b
  ·exact absurd g n0
  ·exact absurd g n1
def sp_is_whole (K:W.Frag):Sp:=fun vs H Q _=>∃ i:Int,vs=[.int i]∧Q (.bl true) H
theorem c_is_whole {K:W.Frag} {i:Int} {H:Hp} {Q:VK} {E:XK} (q:Q (.bl true) H):sp_is_whole K ([.int i]++[]) H Q E:=⟨i,rfl,q⟩
def sp_common_divisor (K:W.Frag):Sp:=fun vs H Q _=>∃ a b:Int,vs=[.int a,.int b]∧Q (.int (Int.gcd a b)) H
theorem c_common_divisor {K:W.Frag} {a b:Int} {H:Hp} {Q:VK} {E:XK} (q:Q (.int (Int.gcd a b)) H):sp_common_divisor K ([.int a,.int b]++[]) H Q E:=⟨a,b,rfl,q⟩
local macro_rules | `(tactic| walk_at "rdc")=>`(tactic| (with_reducible refine c_is_whole ?_))
local macro_rules | `(tactic| walk_at "rdc")=>`(tactic| (with_reducible refine c_common_divisor ?_))
def sp_is_fraction (K:W.Frag):Sp:=fun vs H Q _=>∃ (p:Addr) (a b:Int),vs=[.ref p]∧H p=some (.tup [.int a,.int b])∧1≤b∧Int.gcd a b=1∧Q (.bl true) H
theorem c_is_fraction {K:W.Frag} {p:Addr} {a b:Int} {H:Hp} {Q:VK} {E:XK} (h1:H p=some (.tup [.int a,.int b])) (h2:1≤b) (h3:Int.gcd a b=1) (q:Q (.bl true) H):sp_is_fraction K ([.ref p]++[]) H Q E:=⟨p,a,b,rfl,h1,h2,h3,q⟩
local macro_rules | `(tactic| walk_at "rdc")=>`(tactic| ((with_reducible refine' c_is_fraction ?h1 ?h2 ?h3 ?_);(case h1=>walk_at "hp");(case h2=>omega);(case h3=>assumption)))
def SideI (x:Str):Prop:=Side x∨x = "inside"
structure NumS (fg pl b:Int) (sn:Str) (z:Int) (m pt:Nat) (wy:Str) (wd:Int) (f:Nat) (x:Str):Prop where
 fg1:1≤fg
 fg2:fg≤12
 pl1:0≤pl
 pl2:pl≤6
 b1:2≤b
 b2:b≤16
 sn:Style sn
 z1:0≤z
 z2:z≤9
 m:m < 127
 pt:pt < 127
 wy:Way wy
 wd1:0≤wd
 wd2:wd≤40
 f:f < 127
 x:SideI x
def nmore (fg pl b:Int) (sn:Str) (z:Int) (m pt:Nat) (wy:Str):List (Str × V):=[("figures", .int fg),("places", .int pl),("base", .int b),("sign", .str sn),("size", .int z),("mark", .str (T [m])),("point", .str (T [pt])),("way", .str wy)]
def nns:List Str:=["figures", "places", "base", "sign", "size", "mark", "point", "way"]
section
variable {H : Hp} {a C : Addr} {wd : Int} {f : Nat} {x : Str} {st : Bool} {fg pl b : Int} {sn : Str} {z : Int} {m pt : Nat} {wy : Str}
theorem nm_none {g:Str} (h:g ∉ nns):(nmore fg pl b sn z m pt wy).lookup g=none:=by
 simp only [nns,List.mem_cons,List.not_mem_nil,or_false,not_or] at h
 obtain ⟨h1,h2,h3,h4,h5,h6,h7,h8⟩:=h
 exact (lk_ne h1).trans ((lk_ne h2).trans ((lk_ne h3).trans ((lk_ne h4).trans ((lk_ne h5).trans ((lk_ne h6).trans ((lk_ne h7).trans ((lk_ne h8).trans rfl)))))))
theorem nf_own {g:Str} {v:V} (F:FormAt K H a C wd f x st (nmore fg pl b sn z m pt wy)) (h:g ∉ bns) (l:(nmore fg pl b sn z m pt wy).lookup g=some v) (n:g ∈ nns):FldAt K H a g v:=F.own h l n
theorem nf_figures (F:FormAt K H a C wd f x st (nmore fg pl b sn z m pt wy)):FldAt K H a "figures" (.int fg):=nf_own F (by decide +kernel) lk_eq (by decide +kernel)
theorem nf_places (F:FormAt K H a C wd f x st (nmore fg pl b sn z m pt wy)):FldAt K H a "places" (.int pl):=nf_own F (by decide +kernel) ((lk_ne (by decide +kernel)).trans lk_eq) (by decide +kernel)
theorem nf_base (F:FormAt K H a C wd f x st (nmore fg pl b sn z m pt wy)):FldAt K H a "base" (.int b):=nf_own F (by decide +kernel) ((lk_ne (by decide +kernel)).trans ((lk_ne (by decide +kernel)).trans lk_eq)) (by decide +kernel)
theorem nf_sign (F:FormAt K H a C wd f x st (nmore fg pl b sn z m pt wy)):FldAt K H a "sign" (.str sn):=nf_own F (by decide +kernel) ((lk_ne (by decide +kernel)).trans ((lk_ne (by decide +kernel)).trans ((lk_ne (by decide +kernel)).trans lk_eq))) (by decide +kernel)
theorem nf_size (F:FormAt K H a C wd f x st (nmore fg pl b sn z m pt wy)):FldAt K H a "size" (.int z):=nf_own F (by decide +kernel) ((lk_ne (by decide +kernel)).trans ((lk_ne (by decide +kernel)).trans ((lk_ne (by decide +kernel)).trans ((lk_ne (by decide +kernel)).trans lk_eq)))) (by decide +kernel)
theorem nf_mark (F:FormAt K H a C wd f x st (nmore fg pl b sn z m pt wy)):FldAt K H a "mark" (.str (T [m])):=nf_own F (by decide +kernel) ((lk_ne (by decide +kernel)).trans ((lk_ne (by decide +kernel)).trans ((lk_ne (by decide +kernel)).trans ((lk_ne (by decide +kernel)).trans ((lk_ne (by decide +kernel)).trans lk_eq))))) (by decide +kernel)
theorem nf_point (F:FormAt K H a C wd f x st (nmore fg pl b sn z m pt wy)):FldAt K H a "point" (.str (T [pt])):=nf_own F (by decide +kernel) ((lk_ne (by decide +kernel)).trans ((lk_ne (by decide +kernel)).trans ((lk_ne (by decide +kernel)).trans ((lk_ne (by decide +kernel)).trans ((lk_ne (by decide +kernel)).trans ((lk_ne (by decide +kernel)).trans lk_eq)))))) (by decide +kernel)
theorem nf_way (F:FormAt K H a C wd f x st (nmore fg pl b sn z m pt wy)):FldAt K H a "way" (.str wy):=nf_own F (by decide +kernel) ((lk_ne (by decide +kernel)).trans ((lk_ne (by decide +kernel)).trans ((lk_ne (by decide +kernel)).trans ((lk_ne (by decide +kernel)).trans ((lk_ne (by decide +kernel)).trans ((lk_ne (by decide +kernel)).trans ((lk_ne (by decide +kernel)).trans lk_eq))))))) (by decide +kernel)
theorem nf_meth {g:Str} (F:FormAt K H a C wd f x st (nmore fg pl b sn z m pt wy)) (h0:g ∉ bns) (h1:g ∉ nns):InsM H a C g:=F.meth h0 (nm_none h1)
end
local macro_rules | `(tactic| walk_at "fld2")=>`(tactic| first | (exact nf_figures (by walk_at "fm")) | (exact nf_places (by walk_at "fm")) | (exact nf_base (by walk_at "fm")) | (exact nf_sign (by walk_at "fm")) | (exact nf_size (by walk_at "fm")) | (exact nf_mark (by walk_at "fm")) | (exact nf_point (by walk_at "fm")) | (exact nf_way (by walk_at "fm")))
local macro_rules | `(tactic| walk_at "ins")=>`(tactic| exact nf_meth (by walk_at "fm") (by decide +kernel) (by decide +kernel))
def sp_padded_inside (K:W.Frag):Sp:=fun vs H Q _=>∃ (l t:List Nat) (w:Int) (f:Nat),vs=[.str (T l),.str (T t),.int w,.str (T [f])]∧l.length≤400∧t.length≤400∧w≤40 ∧ ∀ H',Same H H'→Q (.str (T (l++pad t (w - l.length) f "right"))) H'
theorem c_padded_inside {K:W.Frag} {l t:List Nat} {w:Int} {f:Nat} {H:Hp} {Q:VK} {E:XK} (h1:l.length≤400) (h2:t.length≤400) (h3:w≤40) (q : ∀ H',Same H H'→Q (.str (T (l++pad t (w - l.length) f "right"))) H'):sp_padded_inside K ([.str (T l),.str (T t),.int w,.str (T [f])]++[]) H Q E:=⟨l,t,w,f,rfl,h1,h2,h3,q⟩
local macro_rules | `(tactic| walk_at "rdc")=>`(tactic| ((with_reducible refine' c_padded_inside ?h1 ?h2 ?h3 ?_);(case h1=>walk_at "tl");(case h2=>walk_at "tl");(case h3=>omega);intro H' g'))
def sp_Form___init__ (K:W.Frag) (C:Addr):Sp:=fun vs H Q _=>∃ (a dx:Addr) (wd:Int) (f:Nat) (x:Str) (st:Bool),vs=[.ref a,.int wd,.str (T [f]),.str x,.bl st]∧H a=some (.ins C dx [])∧Q .non (upd H a (.ins C dx (bfs wd f x st [])))
def sp_NumberForm___init__ (K:W.Frag) (C:Addr):Sp:=fun vs H Q _=>∃ (a dx:Addr) (fg pl b:Int) (sn:Str) (z:Int) (m pt:Nat) (wy:Str) (wd:Int) (f:Nat) (x:Str) (st:Bool),vs=[.ref a,.int fg,.int pl,.int b,.str sn,.int z,.str (T [m]),.str (T [pt]),.str wy,.int wd,.str (T [f]),.str x,.bl st]∧H a=some (.ins C dx [])∧Q .non (upd H a (.ins C dx (bfs wd f x st (nmore fg pl b sn z m pt wy))))
def sp_NumberForm_is_too_great (K:W.Frag) (C:Addr):Sp:=fun vs H Q _=>∃ (a:Addr) (fg pl b:Int) (sn:Str) (z:Int) (m pt:Nat) (wy:Str) (wd:Int) (f:Nat) (x:Str) (st:Bool) (n:Int),vs=[.ref a,.int n]∧FormAt K H a C wd f x st (nmore fg pl b sn z m pt wy)∧NumS fg pl b sn z m pt wy wd f x∧Q (.bl (decide (b ^ (fg+pl).toNat≤n))) H
theorem c_too_great {K:W.Frag} {C a:Addr} {fg pl b:Int} {sn:Str} {z:Int} {m pt:Nat} {wy:Str} {wd:Int} {f:Nat} {x:Str} {st:Bool} {n:Int} {H:Hp} {Q:VK} {E:XK} (h1:FormAt K H a C wd f x st (nmore fg pl b sn z m pt wy)) (h2:NumS fg pl b sn z m pt wy wd f x) (q:Q (.bl (decide (b ^ (fg+pl).toNat≤n))) H):sp_NumberForm_is_too_great K C (.ref a::([.int n]++[])) H Q E:=⟨a,fg,pl,b,sn,z,m,pt,wy,wd,f,x,st,n,rfl,h1,h2,q⟩
local macro_rules | `(tactic| walk_at "rdc")=>`(tactic| ((with_reducible refine' c_too_great ?h1 ?h2 ?_);(case h1=>walk_at "fm");(case h2=>assumption)))
def ncore (pl b:Int) (sn:Str) (z:Int) (m pt:Nat) (k:Int):List Nat:=sg sn (decide (k < 0)) (bdI k.natAbs b pl pt z m)
def LimN (fg pl b:Int) (k:Int):Prop:=k.natAbs < b.toNat ^ (fg+pl).toNat
def sp_NumberForm_core (K:W.Frag) (C:Addr):Sp:=fun vs H Q _=>∃ (o p:Addr) (fg pl b:Int) (sn:Str) (z:Int) (m pt:Nat) (wy:Str) (wd:Int) (f:Nat) (x:Str) (st:Bool) (u v k:Int),vs=[.ref o,.ref p]∧FormAt K H o C wd f x st (nmore fg pl b sn z m pt wy)∧NumS fg pl b sn z m pt wy wd f x∧H p=some (.tup [.int u,.int v])∧GrB u v∧Int.gcd u v=1∧grid wy u v (b ^ pl.toNat)=k∧LimN fg pl b k ∧ ∀ H',Same H H'→Q (.str (T (ncore pl b sn z m pt k))) H'
theorem c_core {K:W.Frag} {C o p:Addr} {fg pl b:Int} {sn:Str} {z:Int} {m pt:Nat} {wy:Str} {wd:Int} {f:Nat} {x:Str} {st:Bool} {u v k:Int} {H:Hp} {Q:VK} {E:XK} (h1:FormAt K H o C wd f x st (nmore fg pl b sn z m pt wy)) (h2:NumS fg pl b sn z m pt wy wd f x) (h3:H p=some (.tup [.int u,.int v])) (h4:GrB u v) (h5:Int.gcd u v=1) (h6:grid wy u v (b ^ pl.toNat)=k) (h7:LimN fg pl b k) (q : ∀ H',Same H H'→Q (.str (T (ncore pl b sn z m pt k))) H'):sp_NumberForm_core K C (.ref o::([.ref p]++[])) H Q E:=⟨o,p,fg,pl,b,sn,z,m,pt,wy,wd,f,x,st,u,v,k,rfl,h1,h2,h3,h4,h5,h6,h7,q⟩
def sp_NumberForm_lead_of (K:W.Frag) (C:Addr):Sp:=fun vs H Q _=>∃ (a:Addr) (fg pl b:Int) (sn:Str) (z:Int) (m pt:Nat) (wy:Str) (wd:Int) (f:Nat) (x:Str) (st:Bool) (t:List Nat) (bl:Bool),vs=[.ref a,.str (T t)]∧FormAt K H a C wd f x st (nmore fg pl b sn z m pt wy)∧Style sn∧Asc t∧t.length≤400∧Sgd sn bl t ∧ ∀ H',Same H H'→Q (.str (T (stL sn bl))) H'
theorem c_lead_of {K:W.Frag} {C a:Addr} {fg pl b:Int} {sn:Str} {z:Int} {m pt:Nat} {wy:Str} {wd:Int} {f:Nat} {x:Str} {st:Bool} {t:List Nat} {bl:Bool} {H:Hp} {Q:VK} {E:XK} (h1:FormAt K H a C wd f x st (nmore fg pl b sn z m pt wy)) (h2:Style sn) (h3:Asc t) (h4:t.length≤400) (h5:Sgd sn bl t) (q : ∀ H',Same H H'→Q (.str (T (stL sn bl))) H'):sp_NumberForm_lead_of K C (.ref a::([.str (T t)]++[])) H Q E:=⟨a,fg,pl,b,sn,z,m,pt,wy,wd,f,x,st,t,bl,rfl,h1,h2,h3,h4,h5,q⟩
def nfil (ld t:List Nat) (wd:Int) (f:Nat) (x:Str):List Nat:=if x = "inside" then ld++pad (t.drop ld.length) (wd - ld.length) f "right" else pad t wd f x
def sp_Form_is_too_wide (K:W.Frag) (C:Addr):Sp:=fun vs H Q _=>∃ (a:Addr) (wd:Int) (f:Nat) (x:Str) (st:Bool) (more:List (Str × V)) (t:List Nat),vs=[.ref a,.str (T t)]∧FormAt K H a C wd f x st more∧t.length≤400∧Q (.bl (st && decide (wd < t.length))) H
theorem c_too_wide {K:W.Frag} {C a:Addr} {wd:Int} {f:Nat} {x:Str} {st:Bool} {more:List (Str × V)} {t:List Nat} {H:Hp} {Q:VK} {E:XK} (h1:FormAt K H a C wd f x st more) (h2:t.length≤400) (q:Q (.bl (st && decide (wd < t.length))) H):sp_Form_is_too_wide K C (.ref a::([.str (T t)]++[])) H Q E:=⟨a,wd,f,x,st,more,t,rfl,h1,h2,q⟩
local macro_rules | `(tactic| walk_at "rdc")=>`(tactic| ((with_reducible refine' c_too_wide ?h1 ?h2 ?_);(case h1=>walk_at "fm");(case h2=>omega)))
def sp_Form_filled (K:W.Frag) (C:Addr):Sp:=fun vs H Q _=>∃ (a:Addr) (fg pl b:Int) (sn:Str) (z:Int) (m pt:Nat) (wy:Str) (wd:Int) (f:Nat) (x:Str) (st:Bool) (t:List Nat) (bl:Bool),vs=[.ref a,.str (T t)]∧FormAt K H a C wd f x st (nmore fg pl b sn z m pt wy)∧SideI x∧wd≤40∧Style sn∧Asc t∧t.length≤400∧Sgd sn bl t ∧ ∀ H',Same H H'→Q (.str (T (nfil (stL sn bl) t wd f x))) H'
theorem c_filled {K:W.Frag} {C a:Addr} {fg pl b:Int} {sn:Str} {z:Int} {m pt:Nat} {wy:Str} {wd:Int} {f:Nat} {x:Str} {st:Bool} {t:List Nat} {bl:Bool} {H:Hp} {Q:VK} {E:XK} (h1:FormAt K H a C wd f x st (nmore fg pl b sn z m pt wy)) (h6:SideI x) (h7:wd≤40) (h2:Style sn) (h3:Asc t) (h4:t.length≤400) (h5:Sgd sn bl t) (q : ∀ H',Same H H'→Q (.str (T (nfil (stL sn bl) t wd f x))) H'):sp_Form_filled K C (.ref a::([.str (T t)]++[])) H Q E:=⟨a,fg,pl,b,sn,z,m,pt,wy,wd,f,x,st,t,bl,rfl,h1,h6,h7,h2,h3,h4,h5,q⟩
def nput (pl b:Int) (sn:Str) (z:Int) (m pt:Nat) (wd:Int) (f:Nat) (x:Str) (k:Int):List Nat:=nfil (stL sn (decide (k < 0))) (ncore pl b sn z m pt k) wd f x
def sp_Form_put (K:W.Frag) (C:Addr):Sp:=fun vs H Q _=>∃ (o p:Addr) (fg pl b:Int) (sn:Str) (z:Int) (m pt:Nat) (wy:Str) (wd:Int) (f:Nat) (x:Str) (st:Bool) (u v k:Int),vs=[.ref o,.ref p]∧FormAt K H o C wd f x st (nmore fg pl b sn z m pt wy)∧NumS fg pl b sn z m pt wy wd f x∧H p=some (.tup [.int u,.int v])∧GrB u v∧Int.gcd u v=1∧grid wy u v (b ^ pl.toNat)=k∧LimN fg pl b k ∧ ¬ (st=true∧wd < (ncore pl b sn z m pt k).length) ∧ ∀ H',Same H H'→Q (.str (T (nput pl b sn z m pt wd f x k))) H'
theorem c_put {K:W.Frag} {C o p:Addr} {fg pl b:Int} {sn:Str} {z:Int} {m pt:Nat} {wy:Str} {wd:Int} {f:Nat} {x:Str} {st:Bool} {u v k:Int} {H:Hp} {Q:VK} {E:XK} (h1:FormAt K H o C wd f x st (nmore fg pl b sn z m pt wy)) (h2:NumS fg pl b sn z m pt wy wd f x) (h3:H p=some (.tup [.int u,.int v])) (h4:GrB u v) (h5:Int.gcd u v=1) (h6:grid wy u v (b ^ pl.toNat)=k) (h7:LimN fg pl b k) (h8 : ¬ (st=true∧wd < (ncore pl b sn z m pt k).length)) (q : ∀ H',Same H H'→Q (.str (T (nput pl b sn z m pt wd f x k))) H'):sp_Form_put K C (.ref o::([.ref p]++[])) H Q E:=⟨o,p,fg,pl,b,sn,z,m,pt,wy,wd,f,x,st,u,v,k,rfl,h1,h2,h3,h4,h5,h6,h7,h8,q⟩
theorem ok_law_cell_at {f:Addr} {fd:FuncData} (F:Fun K "_law_cell_at" "_law_cell_at" s_law_cell_at f fd) (B:Blt mg):FnOk P w K mg base CX0 1 f fd ["_law_script", "_law_k"] (sp_law_cell_at K):=by
 refine F.ok sc_law_cell_at (fun vs H Q E h=>?_) (fun cdv A outer s H vs Q E hr h=>?_)
 ·obtain ⟨a,ns,k,rfl,hS,hk,q⟩:=h
  rfl
 obtain ⟨a,ns,k,rfl,hS,hk,q⟩:=h
 refine ⟨_,pss_cons (ps_if (pt_cmpR op_lt (pv 1) (pe_callBH call_lenN B.z_len rfl bo_len (pa_cons (pv 0) (pa_nil))) (nomark _)) (pss_one (ps_ret (pe_ix ix_list (pv 0) (pv 1) (fun _ _=>rfl)))) (pss_nil))
  (pss_one (ps_ret (pe_int))),?_⟩
 walk_at "st"
 walk_at "rd"
 ·rename_i hc
  rw [List.length_map] at hc
  exact r_ixAll hS hk (by rw [List.length_map];omega) fun x hx=>by
   obtain ⟨v,_,rfl⟩:=List.mem_map.mp (List.mem_of_getElem? hx)
   exact q v
 ·exact q 0
theorem ok_law_pick {f:Addr} {fd:FuncData} (F:Fun K "_law_pick" "_law_pick" s_law_pick f fd) (B:Blt mg):FnOk P w K mg base CX0 1 f fd ["_law_cell", "_law_salt", "_law_many"] (sp_law_pick K):=by
 refine F.ok sc_law_pick (fun vs H Q E h=>?_) (fun cdv A outer s H vs Q E hr h=>?_)
 ·obtain ⟨c,t,m,rfl,ht,hm,q⟩:=h
  rfl
 obtain ⟨c,t,m,rfl,ht,hm,q⟩:=h
 refine ⟨_,pss_cons (ps_if (PW.pt (pw_and (pt_cmpR op_gt (pv 0) (pe_powK (k:=1000000000000000000) (by unfold CPow;decide) (by decide +kernel)) (nomark _)) (pw_and1 (pt_cmpR op_gt (pe_op op_shrP (pv 0) (pe_op op_mulA (pe_int) (pv 1))) (pe_int) (nomark _))))) (pss_one (ps_ret (pe_op op_modP (pe_op op_modP (pe_op op_shrP (pv 0) (pe_op op_mulA (pe_int) (pv 1))) (pe_int)) (pv 2)))) (pss_nil))
  (pss_cons (ps_set (i:=3) sc_law_pick.nd rfl (Or.inl rfl) (pe_op op_modP (pe_op op_add (pe_op op_add (pe_op op_modP (pv 0) (pe_int)) (pe_int)) (pe_op op_mulA (pe_int) (pv 1))) (pe_int)))
  (pss_cons (ps_set (i:=3) sc_law_pick.nd rfl (Or.inl rfl) (pe_op op_modP (pe_op op_mulA (pv 3) (pv 3)) (pe_int)))
  (pss_cons (ps_set (i:=4) sc_law_pick.nd rfl (Or.inl rfl) (pe_op op_modP (pe_op op_mulA (pe_op op_add (pv 3) (pe_int)) (pe_op op_add (pe_op op_add (pe_op op_fdivB (pv 3) (pe_int)) (pe_int)) (pv 1))) (pe_int)))
  (pss_one (ps_ret (pe_op op_modP (pe_op op_fdivB (pv 4) (pe_int)) (pv 2))))))),?_⟩
 walk_at "st"
 walk_at "rd"
 all_goals exact q _ (Int.emod_nonneg _ (by omega)) (Int.emod_lt_of_pos _ hm)
theorem ok_pads_of {f:Addr} {fd:FuncData} (F:Fun K "pads_of" "pads_of" s_pads_of f fd) (B:Blt mg):FnOk P w K mg base CX0 1 f fd ["length", "width", "side"] (sp_pads_of K):=by
 refine F.ok sc_pads_of (fun vs H Q E h=>?_) (fun cdv A outer s H vs Q E hr h=>?_)
 ·obtain ⟨n,w,x,rfl,hs,h0,hw,q⟩:=h
  rfl
 obtain ⟨n,w,x,rfl,hs,h0,hw,q⟩:=h
 refine ⟨_,pss_cons (ps_set (i:=3) sc_pads_of.nd rfl (Or.inl rfl) (pe_callBH (call_max2N rfl) B.z_max rfl bo_max (pa_cons (pe_int) (pa_cons (pe_op op_sub (pv 1) (pv 0)) (pa_nil)))))
  (pss_cons (ps_if (pt_cmpR op_eq (pv 2) (pe_str) (nomark _)) (pss_one (ps_ret (pe_tup (pa_cons (pe_int) (pa_cons (pv 3) (pa_nil)))))) (pss_nil))
  (pss_cons (ps_if (pt_cmpR op_eq (pv 2) (pe_str) (nomark _)) (pss_one (ps_ret (pe_tup (pa_cons (pv 3) (pa_cons (pe_int) (pa_nil)))))) (pss_nil))
  (pss_one (ps_ret (pe_tup (pa_cons (pe_op op_fdivB (pv 3) (pe_int)) (pa_cons (pe_op op_sub (pv 3) (pe_op op_fdivB (pv 3) (pe_int))) (pa_nil)))))))),?_⟩
 walk_at "st"
 have b:=lk_bd n w h0 hw
 have e:pB x n w=lk n w - pA x n w:=rfl
 rcases hs with rfl | rfl | rfl
 ·rw [pAl] at q e
  walk_at "rd"
  rename_i k hk p' H' g' e'
  exact q _ _ g' (by rw [e',show k=pB "left" n w by omega])
 ·rw [pAr] at q e
  walk_at "rd"
  rename_i k hk p' H' g' e'
  exact q _ _ g' (by rw [e',show k=lk n w by omega,show pB "right" n w=0 by omega])
 ·rw [pAm] at q e
  walk_at "rd"
  rename_i k hk p' H' g' e'
  exact q _ _ g' (by rw [e',e,show k=lk n w by omega])
theorem ok_padded {f:Addr} {fd:FuncData} (F:Fun K "padded" "padded" s_padded f fd) (B:Blt mg) (C_pads_of:Has P w K mg base "pads_of" 1 ["length", "width", "side"] (sp_pads_of K)):FnOk P w K mg base CX0 2 f fd ["text", "width", "fill", "side"] (sp_padded K):=by
 refine F.ok sc_padded (fun vs H Q E h=>?_) (fun cdv A outer s H vs Q E hr h=>?_)
 ·obtain ⟨t,w,f,x,rfl,hs,h0,hw,q⟩:=h
  rfl
 obtain ⟨t,w,f,x,rfl,hs,h0,hw,q⟩:=h
 refine ⟨_,pss_cons (ps_set (i:=4) sc_padded.nd rfl (Or.inl rfl) (pe_callH C_pads_of hr rfl (pa_cons (pe_callBH call_lenT B.z_len rfl bo_len (pa_cons (pv 0) (pa_nil))) (pa_cons (pv 1) (pa_cons (pv 3) (pa_nil))))))
  (pss_one (ps_ret (pe_op op_addS (pe_op op_addS (pe_op op_mulT (pv 2) (pe_ix ix_tup (pv 4) (pe_int) (fun _ _=>rfl))) (pv 0)) (pe_op op_mulT (pv 2) (pe_ix ix_tup (pv 4) (pe_int) (fun _ _=>rfl)))))),?_⟩
 walk_at "st"
 have b:=pads_bd (n:=t.length) hs (by omega) hw
 have b':=b
 obtain ⟨b1,b2,b3,_⟩:=b'
 have bl:=lk_bd t.length w (by omega) hw
 walk_at "rd"
 exact q _ (by assumption)
local macro_rules | `(tactic| walk_at "rdc")=>`(tactic| ((with_reducible refine' c_power_of ?h1 ?h2 ?h3 ?h4 ?_);(case h1=>omega);(case h2=>omega);(case h3=>omega);(case h4=>omega)))
local macro_rules | `(tactic| walk_at "rdc")=>`(tactic| ((with_reducible refine' c_goes_up ?h1 ?h2 ?h3 ?_);(case h1=>assumption);(case h2=>omega);(case h3=>omega)))
local macro_rules | `(tactic| walk_at "rdc")=>`(tactic| ((with_reducible refine' c_gridded ?h1 ?h2 ?h3 ?h4 ?h5 ?h6 ?h7 ?_);(case h1=>walk_at "hp");(case h2=>assumption);(case h3=>omega);(case h4=>omega);(case h5=>omega);(case h6=>omega);(case h7=>first | assumption | exact .inl rfl | exact .inr (.inl rfl) | exact .inr (.inr (.inl rfl)) | exact .inr (.inr (.inr (.inl rfl))) | exact .inr (.inr (.inr (.inr rfl))))))
theorem ok_power_of {f:Addr} {fd:FuncData} (F:Fun K "power_of" "power_of" s_power_of f fd) (B:Blt mg):FnOk P w K mg base CX0 1 f fd ["base", "times"] (sp_power_of K):=by
 refine F.ok sc_power_of (fun vs H Q E h=>?_) (fun cdv A outer s H vs Q E hr h=>?_)
 ·obtain ⟨b,t,rfl,h1,h2,h3,h4,q⟩:=h
  rfl
 obtain ⟨b,t,rfl,h1,h2,h3,h4,q⟩:=h
 refine ⟨_,pss_cons (ps_set (i:=2) sc_power_of.nd rfl (Or.inl rfl) (pe_int))
  (pss_cons (ps_for PassesOwn.never rfl (pi_range1 rfl B.z_range (pa_cons (pv 1) (pa_nil))) (pg_name (i:=3) sc_power_of.nd rfl (Or.inl rfl)) (pss_one (ps_set (i:=2) sc_power_of.nd rfl (Or.inl rfl) (pe_op op_mulA (pv 2) (pv 0)))))
  (pss_one (ps_ret (pv 2)))),?_⟩
 walk_at "st"
 walk_at "rd"
 refine r_kForR (by omega) (by omega) (fun i σ H'=>H'=H ∧ ∃ r,σ=[some (.int b),some (.int t),some (.int (b ^ i)),r]) ⟨rfl,none,by rw [Int.pow_zero];rfl⟩ ?_ ?_
 ·rintro i σ H' hi ⟨rfl,r,rfl⟩
  have z:=pw60 (n:=i) h1 h2 (by omega)
  walk_at "rd"
  exact ⟨rfl,some (.int (0+i)),by rw [Int.pow_succ];rfl⟩
 ·rintro σ H' ⟨rfl,r,rfl⟩
  walk_at "rd"
  exact q
theorem ok_goes_up {f:Addr} {fd:FuncData} (F:Fun K "goes_up" "goes_up" s_goes_up f fd) (B:Blt mg):FnOk P w K mg base CX0 1 f fd ["below", "rest", "bottom", "way"] (sp_goes_up K):=by
 refine F.ok sc_goes_up (fun vs H Q E h=>?_) (fun cdv A outer s H vs Q E hr h=>?_)
 ·obtain ⟨be,re,bo,w,rfl,h1,h2,h3,q⟩:=h
  rfl
 obtain ⟨be,re,bo,w,rfl,h1,h2,h3,q⟩:=h
 refine ⟨_,pss_cons (ps_if (pt_cmpR op_eq (pv 3) (pe_str) (nomark _)) (pss_one (ps_ret (pe_bl))) (pss_nil))
  (pss_cons (ps_if (pt_cmpR op_eq (pv 3) (pe_str) (nomark _)) (pss_one (ps_ret (pe_bl))) (pss_nil))
  (pss_cons (ps_if (pt_cmpR op_eq (pv 3) (pe_str) (nomark _)) (pss_one (ps_ret (pe_cmpR op_lt (pv 0) (pe_int) (nomark _)))) (pss_nil))
  (pss_cons (ps_if (pt_cmpR op_ne (pe_op op_mulA (pe_int) (pv 1)) (pv 2) (nomark _)) (pss_one (ps_ret (pe_cmpR op_gt (pe_op op_mulA (pe_int) (pv 1)) (pv 2) (nomark _)))) (pss_nil))
  (pss_one (ps_ret (pe_or (pe_cmpR op_eq (pv 3) (pe_str) (nomark _)) (pe_one (pe_cmpR op_eq (pe_op op_modP (pv 0) (pe_int)) (pe_int) (nomark _))))))))),?_⟩
 walk_at "st"
 rcases h1 with rfl | rfl | rfl | rfl | rfl
 all_goals walk_at "rd"
 ·rw [up_down] at q;exact q
 ·rw [up_up] at q;exact q
 ·rw [up_cut] at q;exact q
 ·rw [up_near (by assumption)] at q;exact q
 ·rw [up_near' (by assumption)] at q;exact q
 ·rw [up_even (by assumption)] at q;exact q
 ·rw [up_even' (by assumption)] at q;exact q
theorem ok_gridded {f:Addr} {fd:FuncData} (F:Fun K "gridded" "gridded" s_gridded f fd) (B:Blt mg) (C_power_of:Has P w K mg base "power_of" 1 ["base", "times"] (sp_power_of K)) (C_goes_up:Has P w K mg base "goes_up" 1 ["below", "rest", "bottom", "way"] (sp_goes_up K)):FnOk P w K mg base CX0 2 f fd ["value", "base", "places", "way"] (sp_gridded K):=by
 refine F.ok sc_gridded (fun vs H Q E h=>?_) (fun cdv A outer s H vs Q E hr h=>?_)
 ·obtain ⟨p,a,b,c,t,w,rfl,h1,⟨g1,g2,g3,g4⟩,h3,h4,h5,h6,h7,q⟩:=h
  rfl
 obtain ⟨p,a,b,c,t,w,rfl,h1,⟨g1,g2,g3,g4⟩,h3,h4,h5,h6,h7,q⟩:=h
 refine ⟨_,pss_cons (ps_set (i:=4) sc_gridded.nd rfl (Or.inl rfl) (pe_op op_mulA (pe_ix ix_tup (pv 0) (pe_int) (fun _ _=>rfl)) (pe_callH C_power_of hr rfl (pa_cons (pv 1) (pa_cons (pv 2) (pa_nil))))))
  (pss_cons (ps_set (i:=5) sc_gridded.nd rfl (Or.inl rfl) (pe_ix ix_tup (pv 0) (pe_int) (fun _ _=>rfl)))
  (pss_cons (ps_set (i:=6) sc_gridded.nd rfl (Or.inl rfl) (pe_op op_fdivB (pv 4) (pv 5)))
  (pss_cons (ps_set (i:=7) sc_gridded.nd rfl (Or.inl rfl) (pe_op op_modP (pv 4) (pv 5)))
  (pss_cons (ps_if (PW.pt (pw_and (pt_cmpR op_gt (pv 7) (pe_int) (nomark _)) (pw_and1 (pt_val (pe_callH C_goes_up hr rfl (pa_cons (pv 6) (pa_cons (pv 7) (pa_cons (pv 5) (pa_cons (pv 3) (pa_nil)))))))))) (pss_one (ps_ret (pe_op op_add (pv 6) (pe_int)))) (pss_nil))
  (pss_one (ps_ret (pv 6))))))),?_⟩
 walk_at "st"
 have z:=pw6 (t:=t) h3 h4 h6
 have m:=mul_bd (M:=16777217) g1 g2 (show 0 < c ^ t.toNat by omega) (by omega)
 have n:=fl_bd (a*c ^ t.toNat) g3
 unfold grid at q
 walk_at "rd"
 ·rw [if_pos ⟨by assumption,by assumption⟩] at q;exact q
 ·rename_i hc1 hc2
  rw [if_neg (fun z=>by rw [hc2] at z;exact Bool.false_ne_true z.2)] at q;exact q
 ·rename_i hc1
  rw [if_neg (fun z=>hc1 z.1)] at q;exact q
theorem ok_figures_of {f:Addr} {fd:FuncData} (F:Fun K "figures_of" "figures_of" s_figures_of f fd) (B:Blt mg) {t_FIGURES:Tok} (g_FIGURES:mg "FIGURES" = some (.str "0123456789abcdef" t_FIGURES)):FnOk P w K mg base CX0 1 f fd ["number", "base"] (sp_figures_of K):=by
 refine F.ok sc_figures_of (fun vs H Q E h=>?_) (fun cdv A outer s H vs Q E hr h=>?_)
 ·obtain ⟨n,b,rfl,h1,h2,h3,h4,q⟩:=h
  rfl
 obtain ⟨n,b,rfl,h1,h2,h3,h4,q⟩:=h
 refine ⟨_,pss_cons (ps_set (i:=2) sc_figures_of.nd rfl (Or.inl rfl) (pe_ix ix_str (pe_glob rfl g_FIGURES (v:=.str "0123456789abcdef") ⟨_,rfl⟩) (pe_op op_modP (pv 0) (pv 1)) (fun _ _=>rfl)))
  (pss_cons (ps_set (i:=3) sc_figures_of.nd rfl (Or.inl rfl) (pe_op op_fdivB (pv 0) (pv 1)))
  (pss_cons (ps_while PassesOwn.never (pt_cmpR op_gt (pv 3) (pe_int) (nomark _)) (pss_cons (ps_set (i:=2) sc_figures_of.nd rfl (Or.inl rfl) (pe_op op_addS (pe_ix ix_str (pe_glob rfl g_FIGURES (v:=.str "0123456789abcdef") ⟨_,rfl⟩) (pe_op op_modP (pv 3) (pv 1)) (fun _ _=>rfl)) (pv 2)))
  (pss_one (ps_set (i:=3) sc_figures_of.nd rfl (Or.inl rfl) (pe_op op_fdivB (pv 3) (pv 1))))))
  (pss_one (ps_ret (pv 2))))),?_⟩
 walk_at "st"
 obtain ⟨N,rfl⟩:=Int.eq_ofNat_of_zero_le h1
 obtain ⟨m,rfl⟩:=Int.eq_ofNat_of_zero_le (show 0≤b by omega)
 have hz:=figs_240 (b:=m) (n:=N) (by omega) (by omega)
 have em : ∀ k:Nat,(k:Int) % (m:Int)=((k % m:Nat):Int):=fun k=>(Int.natCast_emod k m).symm
 have ed : ∀ k:Nat,(k:Int) / (m:Int)=((k / m:Nat):Int):=fun k=>(Int.natCast_ediv k m).symm
 have lm : ∀ k:Nat,k % m < m:=fun k=>Nat.mod_lt k (by omega)
 have sp:=figs_spec (b:=m) (by omega) (by omega) N N (Nat.le_refl _)
 replace q:=q _ rfl (by simp only [Int.toNat_natCast];exact sp.1) (by simp only [Int.toNat_natCast];exact sp.2.1) (by simp only [Int.toNat_natCast];exact List.length_pos_iff.mpr sp.2.2.1) (by simp only [Int.toNat_natCast];exact hz) (by
  simp only [Int.toNat_natCast];intro z;rw [sp.2.2.2 z,figs_lt (by omega)];decide +kernel)
 simp only [Int.toNat_natCast] at q
 have l0:=lm N
 have e0:=em N
 walk_at "rd"
 rw [ed N,em N,Int.toNat_natCast]
 refine r_while (fun k σ H'=>H'=H ∧ ∃ l:List Nat,σ=[some (.int N),some (.int m),some (.str (T l)),some (.int k)]∧figs m N=if k=0 then l else figs m k++l) ⟨N / m,rfl,[fc (N % m)],rfl,?_⟩ ?_
 ·have t:=figs_turn (b:=m) (m:=N) (by omega) []
  rw [List.append_nil] at t;exact t
 ·rintro k σ H' ⟨rfl,l,rfl,e⟩
  have lk:=lm k
  have ek:=em k
  have ll:l.length≤240:=by
   have z:=congrArg List.length e
   split at z
   ·omega
   ·rw [List.length_append] at z;omega
  walk_at "rd"
  ·rename_i hc
   refine ⟨k / m,Nat.div_lt_self (by omega) (by omega),rfl,fc (k % m)::l,?_,?_⟩
   ·rw [em k,ed k,Int.toNat_natCast];rfl
   ·rw [← figs_turn (by omega) l,e,if_neg (by omega)]
  ·rename_i hc
   rw [if_pos (by omega)] at e
   rw [← e];exact q
theorem ok_parts_of {f:Addr} {fd:FuncData} (F:Fun K "parts_of" "parts_of" s_parts_of f fd) (B:Blt mg):FnOk P w K mg base CX0 1 f fd ["text", "size", "between"] (sp_parts_of K):=by
 refine F.ok sc_parts_of (fun vs H Q E h=>?_) (fun cdv A outer s H vs Q E hr h=>?_)
 ·obtain ⟨a,z,g,rfl,h1,h2,h3,h4,h5,q⟩:=h
  rfl
 obtain ⟨a,z,g,rfl,h1,h2,h3,h4,h5,q⟩:=h
 refine ⟨_,pss_cons (ps_set (i:=3) sc_parts_of.nd rfl (Or.inl rfl) (pe_lst (pa_nil)))
  (pss_cons (ps_set (i:=4) sc_parts_of.nd rfl (Or.inl rfl) (pe_callBH call_lenT B.z_len rfl bo_len (pa_cons (pv 0) (pa_nil))))
  (pss_cons (ps_while PassesOwn.never (pt_cmpR op_gt (pv 4) (pe_int) (nomark _)) (pss_cons (ps_expr (pe_bm PySem.F.plainAttrs_list PySem.F.slot_list_append PySem.F.type_list_append mt_append (pv 3) (pa_cons (pe_slice sl_str (pv 0) (po_some (pe_callBH (call_max2N rfl) B.z_max rfl bo_max (pa_cons (pe_int) (pa_cons (pe_op op_sub (pv 4) (pv 1)) (pa_nil))))) (po_some (pv 4))) (pa_nil))))
  (pss_one (ps_set (i:=4) sc_parts_of.nd rfl (Or.inl rfl) (pe_op op_sub (pe_op op_sub (pv 4) (pv 1)) (pv 2))))))
  (pss_cons (ps_expr (pe_bm0 PySem.F.plainAttrs_list PySem.F.slot_list_reverse PySem.F.type_list_reverse mt_reverse (pv 3)))
  (pss_one (ps_ret (pv 3)))))),?_⟩
 walk_at "st"
 refine r_seq (r_asg (r_lst (r_nil (r_kLstF (by decide) fun l hl=>?_))))
 walk_at "rd"
 refine r_while (fun k σ H'=>∃ (e:Int) (ps:List (List Nat)),σ=[some (.str (T a)),some (.int z),some (.int g),some (.ref l),some (.int e)]∧H'=upd H l (.lst (ps.map fun l=>V.str (T l)))∧k=e.toNat∧ps.length+e.toNat≤a.length∧e≤a.length∧pcs a z.toNat g.toNat a.length=pcs a z.toNat g.toNat e.toNat++ps.reverse) ⟨_,a.length,[],rfl,rfl,rfl,by simp,Int.le_refl _,by simp⟩ ?_
 rintro k σ H' ⟨e,ps,rfl,rfl,rfl,b1,b2,ep⟩
 walk_at "rd"
 ·rename_i hc k' hk'
  refine r_append upd_same (small1000 (by rw [List.length_map];omega)) ?_
  rw [upd_upd]
  walk_at "rd"
  refine ⟨(e - z - g).toNat,by omega,e - z - g,ps++[(a.take e.toNat).drop k'.toNat],rfl,by rw [List.map_append];rfl,rfl,by rw [List.length_append,List.length_singleton];omega,by omega,?_⟩
  rw [ep,pcs_pos (by omega) (by omega),List.reverse_append,show (e - z - g).toNat=e.toNat - z.toNat - g.toNat by omega,show k'.toNat=e.toNat - z.toNat by omega]
  simp
 ·rename_i hc
  refine r_reverse upd_same ?_
  rw [upd_upd]
  walk_at "rd"
  refine q _ _ (same_upd (Same.refl _) hl) ?_
  rw [upd_same,ep,show e.toNat=0 by omega,pcs_zero,List.nil_append,List.map_reverse]
theorem ok_grouped {f:Addr} {fd:FuncData} (F:Fun K "grouped" "grouped" s_grouped f fd) (B:Blt mg) (C_parts_of:Has P w K mg base "parts_of" 1 ["text", "size", "between"] (sp_parts_of K)):FnOk P w K mg base CX0 2 f fd ["text", "size", "mark"] (sp_grouped K):=by
 refine F.ok sc_grouped (fun vs H Q E h=>?_) (fun cdv A outer s H vs Q E hr h=>?_)
 ·obtain ⟨a,z,m,rfl,h1,h2,h5,q⟩:=h
  rfl
 obtain ⟨a,z,m,rfl,h1,h2,h5,q⟩:=h
 refine ⟨_,pss_cons (ps_if (pt_cmpR op_eq (pv 1) (pe_int) (nomark _)) (pss_one (ps_ret (pv 0))) (pss_nil))
  (pss_one (ps_ret (pe_bm PySem.F.plainAttrs_str PySem.F.slot_str_join PySem.F.type_str_join mt_joinT (pv 2) (pa_cons (pe_callH C_parts_of hr rfl (pa_cons (pv 0) (pa_cons (pv 1) (pa_cons (pe_int) (pa_nil))))) (pa_nil))))),?_⟩
 walk_at "st"
 have bd:=fun hz:0 < z.toNat=>pcs_bd (a:=a) (g:=0) hz a.length a.length (Nat.le_refl _)
 walk_at "rd"
 ·rename_i hc
  subst hc
  have q':=q _ (Same.refl _)
  rw [show Int.toNat 0=0 from rfl,gr_zero] at q'
  exact q'
 ·rename_i hc p' H' g' e'
  have b:=bd (by omega)
  refine r_joinT e' (by rw [Lt_T,List.length_singleton,show Int.toNat 0=0 from rfl];omega) ?_
  rw [Lt_T,show Int.toNat 0=0 from rfl,gr_jn (by omega)]
  exact q _ g'
theorem ok_body_of {f:Addr} {fd:FuncData} (F:Fun K "body_of" "body_of" s_body_of f fd) (B:Blt mg) (C_grouped:Has P w K mg base "grouped" 2 ["text", "size", "mark"] (sp_grouped K)) (C_figures_of:Has P w K mg base "figures_of" 1 ["number", "base"] (sp_figures_of K)):FnOk P w K mg base CX0 3 f fd ["number", "base", "places", "point", "size", "mark"] (sp_body_of K):=by
 refine F.ok sc_body_of (fun vs H Q E h=>?_) (fun cdv A outer s H vs Q E hr h=>?_)
 ·obtain ⟨n,b,p,z,pt,m,rfl,hn,h2,h3,q⟩:=h
  rfl
 obtain ⟨n,b,p,z,pt,m,rfl,hn,h2,h3,q⟩:=h
 refine ⟨_,pss_cons (ps_set (i:=6) sc_body_of.nd rfl (Or.inl rfl) (pe_bm PySem.F.plainAttrs_str PySem.F.slot_str_rjust PySem.F.type_str_rjust mt_rjustT (pe_callH C_figures_of hr rfl (pa_cons (pv 0) (pa_cons (pv 1) (pa_nil)))) (pa_cons (pe_op op_add (pv 2) (pe_int)) (pa_cons (pe_strT (l:=[48]) (by decide +kernel)) (pa_nil)))))
  (pss_cons (ps_set (i:=7) sc_body_of.nd rfl (Or.inl rfl) (pe_op op_sub (pe_callBH call_lenT B.z_len rfl bo_len (pa_cons (pv 6) (pa_nil))) (pv 2)))
  (pss_cons (ps_set (i:=8) sc_body_of.nd rfl (Or.inl rfl) (pe_callH C_grouped hr rfl (pa_cons (pe_slice sl_str (pv 6) (po_none) (po_some (pv 7))) (pa_cons (pv 4) (pa_cons (pv 5) (pa_nil))))))
  (pss_cons (ps_if (pt_cmpR op_eq (pv 2) (pe_int) (nomark _)) (pss_one (ps_ret (pv 8))) (pss_nil))
  (pss_one (ps_ret (pe_op op_addS (pe_op op_addS (pv 8) (pv 3)) (pe_slice sl_str (pv 6) (po_some (pv 7)) (po_none)))))))),?_⟩
 walk_at "st"
 have big:=hn.big
 have hn':=hn
 obtain ⟨n1,n2,n3,n4,n5,n6⟩:=hn'
 have ds:=dgs_spec (b:=b.toNat) (p:=p.toNat) (n:=n.toNat) (by omega) (by omega) (by omega) n6
 have ws:=whl_spec (b:=b.toNat) (p:=p.toNat) (n:=n.toNat) (by omega) (by omega) (by omega) n6
 have gl:=gr_len (z:=z.toNat) (m:=m) (a:=whl b.toNat p.toNat n.toNat)
 walk_at "rd"
 rename_i l el f1 f2 f3 f4 f5
 have ed:List.replicate ((p+1).toNat - l.length) 48++l=dgs b.toNat p.toNat n.toNat:=by
  rw [el];unfold dgs;rw [show (p+1).toNat=p.toNat+1 by omega]
 have ew:(dgs b.toNat p.toNat n.toNat).take (((dgs b.toNat p.toNat n.toNat).length:Int) - p).toNat=whl b.toNat p.toNat n.toNat:=by
  unfold whl;rw [show (((dgs b.toNat p.toNat n.toNat).length:Int) - p).toNat=(dgs b.toNat p.toNat n.toNat).length - p.toNat by omega]
 have er:(dgs b.toNat p.toNat n.toNat).drop (((dgs b.toNat p.toNat n.toNat).length:Int) - p).toNat=rst b.toNat p.toNat n.toNat:=by
  unfold rst;rw [show (((dgs b.toNat p.toNat n.toNat).length:Int) - p).toNat=(dgs b.toNat p.toNat n.toNat).length - p.toNat by omega]
 rw [ed]
 walk_at "rd"
 rw [ew]
 walk_at "rd"
 ·rename_i H1 g1 hc
  have e:bdI n b p pt z m=gr z.toNat m (whl b.toNat p.toNat n.toNat):=by unfold bdI bdy;rw [if_pos (by omega)]
  have q':=q _ g1
  rw [e] at q';exact q'
 ·rename_i H1 g1 hc
  have e:bdI n b p pt z m=gr z.toNat m (whl b.toNat p.toNat n.toNat)++[pt]++rst b.toNat p.toNat n.toNat:=by unfold bdI bdy;rw [if_neg (by omega)]
  have q':=q _ g1
  rw [e] at q'
  rw [er];exact q'
theorem ok_ends_of {f : Addr} {fd : FuncData} (F : Fun K "ends_of" "ends_of" s_ends_of f fd) (B : Blt mg) {t_STYLES : Addr} (g_STYLES : mg "STYLES" = some (.ref t_STYLES))(sty : Sty w K t_STYLES) : FnOk P w K mg base CX0 1 f fd ["style", "below"] (sp_ends_of K) := by
  refine F.ok sc_ends_of (fun vs H Q E h => ?_) (fun cdv A outer s H vs Q E hr h => ?_)
  · obtain ⟨x, b, rfl, hx, q⟩ := h
    rfl
  obtain ⟨x, b, rfl, hx, q⟩ := h
  refine ⟨_, pss_cons (ps_if (pt_val (pv 1)) (pss_one (ps_ret (pe_ix ix_tup (pe_ix ix_kd (pe_glob rfl g_STYLES (v := .ref t_STYLES) rfl) (pv 0) (fun _ _ => rfl)) (pe_int) (fun _ _ => rfl)))) (pss_nil))
    (pss_one (ps_ret (pe_ix ix_tup (pe_ix ix_kd (pe_glob rfl g_STYLES (v := .ref t_STYLES) rfl) (pv 0) (fun _ _ => rfl)) (pe_int) (fun _ _ => rfl)))), ?_⟩
  walk_at "st"
  obtain ⟨p, a, c, kd, sq⟩ := sty x hx
  cases b with
  | true =>
    walk_at "rd"
    refine r_ixD kd ?_
    walk_at "rd"
    exact r_ixQ (sq H).1 rfl (q _ (sq H).2.2)
  | false =>
    walk_at "rd"
    refine r_ixD kd ?_
    walk_at "rd"
    exact r_ixQ (sq H).1 rfl (q _ (sq H).2.1)
theorem ok_signed {f:Addr} {fd:FuncData} (F:Fun K "signed" "signed" s_signed f fd) (B:Blt mg) (C_ends_of:Has P w K mg base "ends_of" 1 ["style", "below"] (sp_ends_of K)):FnOk P w K mg base CX0 2 f fd ["body", "style", "below"] (sp_signed K):=by
 refine F.ok sc_signed (fun vs H Q E h=>?_) (fun cdv A outer s H vs Q E hr h=>?_)
 ·obtain ⟨l,x,b,rfl,hx,hl,q⟩:=h
  rfl
 obtain ⟨l,x,b,rfl,hx,hl,q⟩:=h
 refine ⟨_,pss_cons (ps_set (i:=3) sc_signed.nd rfl (Or.inl rfl) (pe_callH C_ends_of hr rfl (pa_cons (pv 1) (pa_cons (pv 2) (pa_nil)))))
  (pss_one (ps_ret (pe_op op_addS (pe_op op_addS (pe_ix ix_tup (pv 3) (pe_int) (fun _ _=>rfl)) (pv 0)) (pe_ix ix_tup (pv 3) (pe_int) (fun _ _=>rfl))))),?_⟩
 walk_at "st"
 have ln:=st_len hx b
 walk_at "rd"
 exact q
theorem ok_stands_between_figures {f:Addr} {fd:FuncData} (F:Fun K "stands_between_figures" "stands_between_figures" s_stands_between_figures f fd) (B:Blt mg) {t_FIGURES:Tok} (g_FIGURES:mg "FIGURES" = some (.str "0123456789abcdef" t_FIGURES)):FnOk P w K mg base CX0 1 f fd ["body"] (sp_stands_between_figures K):=by
 refine F.ok sc_stands_between_figures (fun vs H Q E h=>?_) (fun cdv A outer s H vs Q E hr h=>?_)
 ·obtain ⟨l,rfl,al,hl,q1,q2⟩:=h
  rfl
 obtain ⟨l,rfl,al,hl,q1,q2⟩:=h
 refine ⟨_,pss_one (ps_ret (pe_and (pe_cmpR op_ne (pv 0) (pe_strT (l:=[]) (by decide +kernel)) (nomark _)) (pe_and (pe_cmpR op_inS (pe_ix ix_str (pv 0) (pe_int) (fun _ _=>rfl)) (pe_glob rfl g_FIGURES (v:=.str "0123456789abcdef") ⟨_,rfl⟩) (by with_unfolding_all rfl)) (pe_one (pe_cmpR op_inS (pe_ix ix_str (pv 0) (pe_un un_neg (pe_int)) (fun _ _=>rfl)) (pe_glob rfl g_FIGURES (v:=.str "0123456789abcdef") ⟨_,rfl⟩) (by with_unfolding_all rfl)))))),?_⟩
 walk_at "st"
 unfold Fg at q1 q2
 rcases Nat.eq_zero_or_pos l.length with p | p
 ·have e:=List.eq_nil_of_length_eq_zero p
  subst e
  walk_at "rd"
  exact q2 fun z=>z.1 rfl
 ·have c0:=getD_asc al (i:=0) p
  have c1:=getD_asc al (i:=l.length - 1) (by omega)
  have ne:l≠[]:=List.length_pos_iff.mp p
  walk_at "rd"
  ·rename_i h1 h2
   by_cases h3:0≤fv (l.getD (l.length - 1) 0)
   ·rw [decide_eq_true h3];exact q1 ⟨ne,h2,h3⟩
   ·rw [decide_eq_false h3];exact q2 fun z=>h3 z.2.2
  ·rename_i h1 h2
   exact q2 fun z=>h2 z.2.1
  ·rename_i h1
   exact absurd h1 (by rw [decide_eq_false ne];decide)
theorem ok_unsigned {f:Addr} {fd:FuncData} (F:Fun K "unsigned" "unsigned" s_unsigned f fd) (B:Blt mg) (C_ends_of:Has P w K mg base "ends_of" 1 ["style", "below"] (sp_ends_of K)) (C_stands_between_figures:Has P w K mg base "stands_between_figures" 1 ["body"] (sp_stands_between_figures K)) (C_signed:Has P w K mg base "signed" 2 ["body", "style", "below"] (sp_signed K)){c_NoCore:Addr} (m_NoCore:mg "NoCore" = some (.ref c_NoCore)) (e_NoCore:Exc K c_NoCore) (n_NoCore:Nm K "NoCore" c_NoCore):FnOk P w K mg base (CXE P w) 3 f fd ["core", "style"] (sp_unsigned K):=by
 refine F.okX sc_unsigned (fun vs H Q E h=>?_) (fun cdv A outer s H vs Q E hr h tk=>?_)
 ·obtain ⟨t,x,rfl,hx,al,hl,q1,q2⟩:=h
  all_goals rfl
 refine ⟨_,pss_cons (ps_for PassesOwn.leaving rfl (pi_tup (pe_tup (pa_cons (pe_bl) (pa_cons (pe_bl) (pa_nil))))) (pg_name (i:=2) sc_unsigned.nd rfl (Or.inl rfl)) (pss_cons (ps_set (i:=3) sc_unsigned.nd rfl (Or.inl rfl) (pe_callH C_ends_of hr rfl (pa_cons (pv 1) (pa_cons (pv 2) (pa_nil)))))
  (pss_cons (ps_set (i:=4) sc_unsigned.nd rfl (Or.inl rfl) (pe_slice sl_str (pv 0) (po_some (pe_callBH call_lenT B.z_len rfl bo_len (pa_cons (pe_ix ix_tup (pv 3) (pe_int) (fun _ _=>rfl)) (pa_nil)))) (po_some (pe_op op_sub (pe_callBH call_lenT B.z_len rfl bo_len (pa_cons (pv 0) (pa_nil))) (pe_callBH call_lenT B.z_len rfl bo_len (pa_cons (pe_ix ix_tup (pv 3) (pe_int) (fun _ _=>rfl)) (pa_nil)))))))
  (pss_one (ps_if (PW.pt (pw_and (pt_val (pe_callH C_stands_between_figures hr rfl (pa_cons (pv 4) (pa_nil)))) (pw_and1 (pt_cmpR op_eq (pe_callH C_signed hr rfl (pa_cons (pv 4) (pa_cons (pv 1) (pa_cons (pv 2) (pa_nil))))) (pv 0) (nomark _))))) (pss_one (ps_ret (pe_tup (pa_cons (pv 2) (pa_cons (pv 4) (pa_nil)))))) (pss_nil))))))
  (pss_one (ps_raise tk rfl e_NoCore rfl m_NoCore (pa_cons (pe_str) (pa_nil)))),?_⟩
 obtain ⟨t,x,rfl,hx,al,hl,q1,q2⟩:=h
 all_goals walk_at "st"
 have q2':=fun n0 n1 H' g=>q2 n0 n1 c_NoCore H' n_NoCore g
 walk_at "rd"
 rename_i p0 H0 g0 e0
 refine r_kForT (SqT.of e0) (fun i σ H'=>H'=H0∧(1≤i → ¬ Sgd x false t)∧(2≤i → ¬ Sgd x true t) ∧ ∃ r1 r2 r3:Option V,σ=[some (.str (T t)),some (.str x),r1,r2,r3]) ⟨rfl,fun z=>absurd z (by omega),fun z=>absurd z (by omega),none,none,none,rfl⟩ (fun i σ H' _ z=>by rw [z.1];exact SqT.of e0) ?_ ?_
 ·rintro i y σ H' hi ⟨rfl,n0,n1,r1,r2,r3,rfl⟩
  have hm:=List.mem_of_getElem? hi
  simp only [List.mem_cons,List.not_mem_nil,or_false] at hm
  have hy : ∃ b:Bool,y = .bl b∧(b=false↔i=0)∧(b=true↔i=1):=by
   match i,hi with
   | 0,hi=>cases hi;exact ⟨false,rfl,by simp,by simp⟩
   | 1,hi=>cases hi;exact ⟨true,rfl,by simp,by simp⟩
   | i+2,hi=>cases hi
  obtain ⟨b,rfl,hb0,hb1⟩:=hy
  have sl:=st_len hx b
  have nxt : ¬ Sgd x b t→(1≤i+1 → ¬ Sgd x false t)∧(2≤i+1 → ¬ Sgd x true t):=fun h=>by
   cases b
   ·have:=hb0.mp rfl;subst this
    exact ⟨fun _=>h,fun z=>absurd z (by omega)⟩
   ·have:=hb1.mp rfl;subst this
    exact ⟨fun _=>n0 (by omega),fun _=>h⟩
  have ab:Asc (bod x b t):=bod_asc al
  have lb:=bod_len (x:=x) (b:=b) (t:=t)
  rcases Nat.eq_zero_or_pos t.length with tz | tz
  ·have e:=List.eq_nil_of_length_eq_zero tz
   subst e
   have nb : ¬ Sgd x b []:=fun z=>by
    have:=List.length_pos_iff.mpr z.1.1
    rw [lb] at this;simp at this
   have anil:Asc []:=Asc.nil
   walk_at "rd"
   ·rename_i fg _ _ _ _ _
    exact absurd rfl fg.1
   ·rename_i fg _
    exact absurd rfl fg.1
   ·exact ⟨rfl,(nxt nb).1,(nxt nb).2,_,_,_,rfl⟩
  ·have eb:(t.take ((t.length:Int) - (stT x b).length).toNat).drop ((stL x b).length:Int).toNat=bod x b t:=by
    unfold bod;rw [Int.toNat_natCast,show ((t.length:Int) - (stT x b).length).toNat=t.length - (stT x b).length by omega]
   walk_at "rd"
   rw [eb]
   walk_at "rd"
   ·rename_i fg hc p1 H1 g1 e1
    exact q1 b ⟨fg,hc⟩ _ _ (g0.trans g1) e1
   ·rename_i fg hc
    have n:=nxt fun z=>hc z.2
    exact ⟨rfl,n.1,n.2,_,_,_,rfl⟩
   ·rename_i fg
    have n:=nxt fun z=>fg z.1
    exact ⟨rfl,n.1,n.2,_,_,_,rfl⟩
 ·rintro σ H' ⟨rfl,n0,n1,r1,r2,r3,rfl⟩
  walk_at "rd"
  exact ⟨small (by decide),q2' (n0 (by decide)) (n1 (by decide)) _ g0⟩
theorem ok_is_whole {f:Addr} {fd:FuncData} (F:Fun K "is_whole" "is_whole" s_is_whole f fd) (B:Blt mg):FnOk P w K mg base CX0 1 f fd ["thing"] (sp_is_whole K):=by
 refine F.ok sc_is_whole (fun vs H Q E h=>?_) (fun cdv A outer s H vs Q E hr h=>?_)
 ·obtain ⟨i,rfl,q⟩:=h
  rfl
 obtain ⟨i,rfl,q⟩:=h
 refine ⟨_,pss_one (ps_ret (pe_and (pe_callBH call_isi B.z_isinstance rfl bo_isinstance (pa_cons (pv 0) (pa_cons (pe_bltn rfl B.z_int bo_int (v:=.ty "int") rfl) (pa_nil)))) (pe_one (pe_not (pe_callBH call_isi B.z_isinstance rfl bo_isinstance (pa_cons (pv 0) (pa_cons (pe_bltn rfl B.z_bool bo_bool (v:=.ty "bool") rfl) (pa_nil)))))))),?_⟩
 walk_at "st"
 walk_at "rd"
 exact q
theorem ok_common_divisor {f:Addr} {fd:FuncData} (F:Fun K "common_divisor" "common_divisor" s_common_divisor f fd) (B:Blt mg):FnOk P w K mg base CX0 1 f fd ["one", "other"] (sp_common_divisor K):=by
 refine F.ok sc_common_divisor (fun vs H Q E h=>?_) (fun cdv A outer s H vs Q E hr h=>?_)
 ·obtain ⟨a,b,rfl,q⟩:=h
  rfl
 obtain ⟨a,b,rfl,q⟩:=h
 refine ⟨_,pss_cons (ps_set (i:=2) sc_common_divisor.nd rfl (Or.inl rfl) (pe_callBH call_absN B.z_abs rfl bo_abs (pa_cons (pv 0) (pa_nil))))
  (pss_cons (ps_set (i:=3) sc_common_divisor.nd rfl (Or.inl rfl) (pe_callBH call_absN B.z_abs rfl bo_abs (pa_cons (pv 1) (pa_nil))))
  (pss_cons (ps_while PassesOwn.never (pt_cmpR op_ne (pv 3) (pe_int) (nomark _)) (pss_cons (ps_set (i:=4) sc_common_divisor.nd rfl (Or.inl rfl) (pe_op op_modP (pv 2) (pv 3)))
  (pss_cons (ps_set (i:=2) sc_common_divisor.nd rfl (Or.inl rfl) (pv 3))
  (pss_one (ps_set (i:=3) sc_common_divisor.nd rfl (Or.inl rfl) (pv 4))))))
  (pss_one (ps_ret (pv 2))))),?_⟩
 walk_at "st"
 walk_at "rd"
 rename_i k1 hk1 k2 hk2
 have ha:=gcd_abs hk1 hk2
 refine r_while (fun m σ H'=>H'=H ∧ ∃ (g l:Int) (r:Option V),σ=[some (.int a),some (.int b),some (.int g),some (.int l),r]∧0≤g∧0≤l∧Int.gcd g l=Int.gcd a b∧m=l.toNat) ⟨_,rfl,k1,k2,none,rfl,ha.1,ha.2.1,ha.2.2,rfl⟩ ?_
 rintro m σ H' ⟨rfl,g,l,r,rfl,hg,hl,hgl,rfl⟩
 walk_at "rd"
 ·rename_i hc
  have:l=0:=by omega
  subst this
  have e:g=((Int.gcd a b:Nat):Int):=by rw [← hgl];simp;omega
  rw [e];exact q
 ·rename_i hc
  have hc':0 < l:=by omega
  have h1:=Int.emod_nonneg g (show l≠0 by omega)
  have h2:=Int.emod_lt_of_pos g hc'
  exact ⟨_,by omega,rfl,_,_,_,rfl,by omega,h1,by rw [gcd_turn hg hc'];exact hgl,rfl⟩
theorem ok_is_fraction {f:Addr} {fd:FuncData} (F:Fun K "is_fraction" "is_fraction" s_is_fraction f fd) (B:Blt mg) (C_is_whole:Has P w K mg base "is_whole" 1 ["thing"] (sp_is_whole K)) (C_common_divisor:Has P w K mg base "common_divisor" 1 ["one", "other"] (sp_common_divisor K)):FnOk P w K mg base CX0 2 f fd ["thing"] (sp_is_fraction K):=by
 refine F.ok sc_is_fraction (fun vs H Q E h=>?_) (fun cdv A outer s H vs Q E hr h=>?_)
 ·obtain ⟨p,a,b,rfl,hp,h1,h2,q⟩:=h
  rfl
 obtain ⟨p,a,b,rfl,hp,h1,h2,q⟩:=h
 refine ⟨_,pss_cons (ps_if (PW.pt (pw_or (pt_not (pt_val (pe_callBH call_isi B.z_isinstance rfl bo_isinstance (pa_cons (pv 0) (pa_cons (pe_bltn rfl B.z_tuple bo_tuple (v:=.ty "tuple") rfl) (pa_nil)))))) (pw_or1 (pt_cmpR op_ne (pe_callBH call_lenN B.z_len rfl bo_len (pa_cons (pv 0) (pa_nil))) (pe_int) (nomark _))))) (pss_one (ps_ret (pe_bl))) (pss_nil))
  (pss_cons (ps_if (PW.pt (pw_or (pt_not (pt_val (pe_callH C_is_whole hr rfl (pa_cons (pe_ix ix_tup (pv 0) (pe_int) (fun _ _=>rfl)) (pa_nil))))) (pw_or1 (pt_not (pt_val (pe_callH C_is_whole hr rfl (pa_cons (pe_ix ix_tup (pv 0) (pe_int) (fun _ _=>rfl)) (pa_nil)))))))) (pss_one (ps_ret (pe_bl))) (pss_nil))
  (pss_one (ps_ret (pe_and (pe_cmpR op_ge (pe_ix ix_tup (pv 0) (pe_int) (fun _ _=>rfl)) (pe_int) (nomark _)) (pe_one (pe_cmpR op_eq (pe_callH C_common_divisor hr rfl (pa_cons (pe_ix ix_tup (pv 0) (pe_int) (fun _ _=>rfl)) (pa_cons (pe_ix ix_tup (pv 0) (pe_int) (fun _ _=>rfl)) (pa_nil)))) (pe_int) (nomark _))))))),?_⟩
 walk_at "st"
 have h3:((Int.gcd a b:Nat):Int)=1:=by rw [h2];rfl
 walk_at "rd"
 rw [decide_eq_true h3]
 exact q
theorem ok_padded_inside {f:Addr} {fd:FuncData} (F:Fun K "padded_inside" "padded_inside" s_padded_inside f fd) (B:Blt mg) (C_padded:Has P w K mg base "padded" 2 ["text", "width", "fill", "side"] (sp_padded K)):FnOk P w K mg base CX0 3 f fd ["lead", "rest", "width", "fill"] (sp_padded_inside K):=by
 refine F.ok sc_padded_inside (fun vs H Q E h=>?_) (fun cdv A outer s H vs Q E hr h=>?_)
 ·obtain ⟨l,t,w,f,rfl,h1,h2,h3,q⟩:=h
  rfl
 obtain ⟨l,t,w,f,rfl,h1,h2,h3,q⟩:=h
 refine ⟨_,pss_one (ps_ret (pe_op op_addS (pv 0) (pe_callH C_padded hr rfl (pa_cons (pv 1) (pa_cons (pe_op op_sub (pv 2) (pe_callBH call_lenT B.z_len rfl bo_len (pa_cons (pv 0) (pa_nil)))) (pa_cons (pv 3) (pa_cons (pe_str) (pa_nil)))))))),?_⟩
 walk_at "st"
 have pl:=pad_len (f:=f) (pads_bd (x:="right") (n:=t.length) (w:=w - l.length) (.inr (.inl rfl)) (by omega) (by omega))
 have b2:=lk_bd t.length (w - l.length) (by omega) (by omega)
 walk_at "rd"
 exact q _ (by assumption)
theorem ok_Form___init__ {f:Addr} {fd:FuncData} (F:FunD K "__init__" "Form.__init__" s_Form___init__ f fd) (B:Blt mg) {c_NumberForm:Addr}(cl:Cls K c_NumberForm) (na:NoAttrs K c_NumberForm (bns++nns)):FnOk P w K mg base CX0 1 f fd ["self", "width", "fill", "side", "strict"] (sp_Form___init__ K c_NumberForm):=by
 refine F.ok sc_Form___init__ (fun vs H Q E h=>?_) (fun cdv A outer s H vs Q E hr h=>?_)
 ·obtain ⟨a,dx,wd,f,x,st,rfl,e0,q⟩:=h
  rfl
 obtain ⟨a,dx,wd,f,x,st,rfl,e0,q⟩:=h
 refine ⟨_,pss_cons (ps_fld (pv 0) (pv 1) rfl)
  (pss_cons (ps_fld (pv 0) (pv 2) rfl)
  (pss_cons (ps_fld (pv 0) (pv 3) rfl)
  (pss_one (ps_fld (pv 0) (pv 4) rfl)))),?_⟩
 walk_at "st"
 walk_at "rd"
 refine r_kSet e0 cl (na.at (by decide +kernel)) (by decide) ?_
 rw [putF_nil]
 walk_at "rd"
 refine r_kSet upd_same cl (na.at (by decide +kernel)) (by show 1 < 1000;decide) ?_
 rw [upd_upd,putF_ne (by decide +kernel),putF_nil]
 walk_at "rd"
 refine r_kSet upd_same cl (na.at (by decide +kernel)) (by show 2 < 1000;decide) ?_
 rw [upd_upd,putF_ne (by decide +kernel),putF_ne (by decide +kernel),putF_nil]
 walk_at "rd"
 refine r_kSet upd_same cl (na.at (by decide +kernel)) (by show 3 < 1000;decide) ?_
 rw [upd_upd,putF_ne (by decide +kernel),putF_ne (by decide +kernel),putF_ne (by decide +kernel),putF_nil]
 walk_at "rd"
 exact q
theorem ok_NumberForm___init__ {f:Addr} {fd:FuncData} (F:FunD K "__init__" "NumberForm.__init__" s_NumberForm___init__ f fd) (B:Blt mg) {c_Form:Addr} {c_NumberForm:Addr} (m_Form:mg "Form" = some (.ref c_Form)) (C_Form_init:HasC P w K mg base CX0 c_Form "__init__" 1 ["self", "width", "fill", "side", "strict"] (sp_Form___init__ K c_NumberForm))(cl:Cls K c_NumberForm) (na:NoAttrs K c_NumberForm (bns++nns)):FnOk P w K mg base CX0 2 f fd ["self", "figures", "places", "base", "sign", "size", "mark", "point", "way", "width", "fill", "side", "strict"] (sp_NumberForm___init__ K c_NumberForm):=by
 refine F.ok sc_NumberForm___init__ (fun vs H Q E h=>?_) (fun cdv A outer s H vs Q E hr h=>?_)
 ·obtain ⟨a,dx,fg,pl,b,sn,z,m,pt,wy,wd,f,x,st,rfl,e0,q⟩:=h
  rfl
 obtain ⟨a,dx,fg,pl,b,sn,z,m,pt,wy,wd,f,x,st,rfl,e0,q⟩:=h
 refine ⟨_,pss_cons (ps_expr (pe_cmethH C_Form_init pass0 hr rfl m_Form (pa_cons (pv 0) (pa_cons (pv 9) (pa_cons (pv 10) (pa_cons (pv 11) (pa_cons (pv 12) (pa_nil))))))))
  (pss_cons (ps_fld (pv 0) (pv 1) rfl)
  (pss_cons (ps_fld (pv 0) (pv 2) rfl)
  (pss_cons (ps_fld (pv 0) (pv 3) rfl)
  (pss_cons (ps_fld (pv 0) (pv 4) rfl)
  (pss_cons (ps_fld (pv 0) (pv 5) rfl)
  (pss_cons (ps_fld (pv 0) (pv 6) rfl)
  (pss_cons (ps_fld (pv 0) (pv 7) rfl)
  (pss_one (ps_fld (pv 0) (pv 8) rfl))))))))),?_⟩
 walk_at "st"
 walk_at "rd"
 refine ⟨a,dx,wd,f,x,st,rfl,e0,?_⟩
 walk_at "rd"
 refine r_kSet upd_same cl (na.at (by decide +kernel)) (by show 4 < 1000;decide) ?_
 rw [upd_upd,bfs_put (by decide +kernel),putF_nil]
 walk_at "rd"
 refine r_kSet upd_same cl (na.at (by decide +kernel)) (by show 5 < 1000;decide) ?_
 rw [upd_upd,bfs_put (by decide +kernel),putF_ne (by decide +kernel),putF_nil]
 walk_at "rd"
 refine r_kSet upd_same cl (na.at (by decide +kernel)) (by show 6 < 1000;decide) ?_
 rw [upd_upd,bfs_put (by decide +kernel),putF_ne (by decide +kernel),putF_ne (by decide +kernel),putF_nil]
 walk_at "rd"
 refine r_kSet upd_same cl (na.at (by decide +kernel)) (by show 7 < 1000;decide) ?_
 rw [upd_upd,bfs_put (by decide +kernel),putF_ne (by decide +kernel),putF_ne (by decide +kernel),putF_ne (by decide +kernel),putF_nil]
 walk_at "rd"
 refine r_kSet upd_same cl (na.at (by decide +kernel)) (by show 8 < 1000;decide) ?_
 rw [upd_upd,bfs_put (by decide +kernel),putF_ne (by decide +kernel),putF_ne (by decide +kernel),putF_ne (by decide +kernel),putF_ne (by decide +kernel),putF_nil]
 walk_at "rd"
 refine r_kSet upd_same cl (na.at (by decide +kernel)) (by show 9 < 1000;decide) ?_
 rw [upd_upd,bfs_put (by decide +kernel),putF_ne (by decide +kernel),putF_ne (by decide +kernel),putF_ne (by decide +kernel),putF_ne (by decide +kernel),putF_ne (by decide +kernel),putF_nil]
 walk_at "rd"
 refine r_kSet upd_same cl (na.at (by decide +kernel)) (by show 10 < 1000;decide) ?_
 rw [upd_upd,bfs_put (by decide +kernel),putF_ne (by decide +kernel),putF_ne (by decide +kernel),putF_ne (by decide +kernel),putF_ne (by decide +kernel),putF_ne (by decide +kernel),putF_ne (by decide +kernel),putF_nil]
 walk_at "rd"
 refine r_kSet upd_same cl (na.at (by decide +kernel)) (by show 11 < 1000;decide) ?_
 rw [upd_upd,bfs_put (by decide +kernel),putF_ne (by decide +kernel),putF_ne (by decide +kernel),putF_ne (by decide +kernel),putF_ne (by decide +kernel),putF_ne (by decide +kernel),putF_ne (by decide +kernel),putF_ne (by decide +kernel),putF_nil]
 walk_at "rd"
 exact q
theorem ok_NumberForm_is_too_great {f:Addr} {fd:FuncData} (F:FunD K "is_too_great" "NumberForm.is_too_great" s_NumberForm_is_too_great f fd) (B:Blt mg) {c_NumberForm:Addr} (C_power_of:Has P w K mg base "power_of" 1 ["base", "times"] (sp_power_of K)):FnOk P w K mg base CX0 2 f fd ["self", "number"] (sp_NumberForm_is_too_great K c_NumberForm):=by
 refine F.ok sc_NumberForm_is_too_great (fun vs H Q E h=>?_) (fun cdv A outer s H vs Q E hr h=>?_)
 ·obtain ⟨a,fg,pl,b,sn,z,m,pt,wy,wd,f,x,st,n,rfl,F0,ok,q⟩:=h
  rfl
 obtain ⟨a,fg,pl,b,sn,z,m,pt,wy,wd,f,x,st,n,rfl,F0,ok,q⟩:=h
 refine ⟨_,pss_one (ps_ret (pe_cmpR op_ge (pv 1) (pe_callH C_power_of hr rfl (pa_cons (pe_fld (pv 0) rfl) (pa_cons (pe_op op_add (pe_fld (pv 0) rfl) (pe_fld (pv 0) rfl)) (pa_nil)))) (nomark _))),?_⟩
 walk_at "st"
 have o1:=ok.fg1;have o2:=ok.fg2;have o3:=ok.pl1;have o4:=ok.pl2;have o5:=ok.b1;have o6:=ok.b2
 walk_at "rd"
 exact q
theorem ncore_ok {fg pl b:Int} {sn:Str} {z:Int} {m pt:Nat} {wy:Str} {wd:Int} {f:Nat} {x:Str} {k:Int} (ok:NumS fg pl b sn z m pt wy wd f x) (h:k.natAbs < b.toNat ^ (fg+pl).toNat):NumB k.natAbs b pl∧Sgd sn (decide (k < 0)) (ncore pl b sn z m pt k)∧Asc (ncore pl b sn z m pt k)∧(ncore pl b sn z m pt k).length≤400:=by
 have o1:=ok.fg1;have o2:=ok.fg2;have o3:=ok.pl1;have o4:=ok.pl2;have o5:=ok.b1;have o6:=ok.b2
 have e1:b.toNat ^ (fg+pl).toNat≤b.toNat ^ (40+pl.toNat):=Nat.pow_le_pow_right (by omega) (by omega)
 have nb:NumB k.natAbs b pl:=⟨by omega,o5,o6,o3,o4,by omega⟩
 have bs:=bdy_spec (z:=z.toNat) (b:=b.toNat) (p:=pl.toNat) (n:=(k.natAbs:Int).toNat) (by omega) (by omega) (by omega) nb.2.2.2.2.2 ok.pt ok.m
 have e:bod sn (decide (k < 0)) (ncore pl b sn z m pt k)=bdI k.natAbs b pl pt z m:=bod_sg
 have sl:=sg_len ok.sn (decide (k < 0)) (bdI k.natAbs b pl pt z m)
 have sa:=st_asc ok.sn (decide (k < 0))
 refine ⟨nb,⟨by rw [e];exact bs.1,by rw [e];rfl⟩,(sa.1.app bs.2.1).app sa.2,?_⟩
 have:=bs.2.2
 unfold ncore
 unfold bdI at sl ⊢
 omega
theorem ok_NumberForm_core {f:Addr} {fd:FuncData} (F:FunD K "core" "NumberForm.core" s_NumberForm_core f fd) (B:Blt mg) {c_NumberForm:Addr} (cl_NumberForm:Cls K c_NumberForm) (C_gridded:Has P w K mg base "gridded" 2 ["value", "base", "places", "way"] (sp_gridded K)) (C_body_of:Has P w K mg base "body_of" 3 ["number", "base", "places", "point", "size", "mark"] (sp_body_of K)) (C_signed:Has P w K mg base "signed" 2 ["body", "style", "below"] (sp_signed K)) (C_is_fraction:Has P w K mg base "is_fraction" 2 ["thing"] (sp_is_fraction K)) (M_NumberForm_is_too_great:HasM P w K mg base CX0 c_NumberForm "is_too_great" 2 ["self", "number"] (sp_NumberForm_is_too_great K c_NumberForm)):FnOk P w K mg base CX0 4 f fd ["self", "value"] (sp_NumberForm_core K c_NumberForm):=by
 refine F.ok sc_NumberForm_core (fun vs H Q E h=>?_) (fun cdv A outer s H vs Q E hr h=>?_)
 ·obtain ⟨o,p,fg,pl,b,sn,z,m,pt,wy,wd,f,x,st,u,v,k,rfl,F0,ok,hp,gr,gc,gk,lim,q⟩:=h
  rfl
 obtain ⟨o,p,fg,pl,b,sn,z,m,pt,wy,wd,f,x,st,u,v,k,rfl,F0,ok,hp,gr,gc,gk,lim,q⟩:=h
 refine ⟨_,pss_cons (ps_if (pt_not (pt_val (pe_callH C_is_fraction hr rfl (pa_cons (pv 1) (pa_nil))))) (pss_one (ps_never)) (pss_nil))
  (pss_cons (ps_set (i:=2) sc_NumberForm_core.nd rfl (Or.inl rfl) (pe_callH C_gridded hr rfl (pa_cons (pv 1) (pa_cons (pe_fld (pv 0) rfl) (pa_cons (pe_fld (pv 0) rfl) (pa_cons (pe_fld (pv 0) rfl) (pa_nil)))))))
  (pss_cons (ps_if (pt_val (pe_methH M_NumberForm_is_too_great cl_NumberForm pass0 hr (pv 0) (pa_cons (pe_callBH call_absN B.z_abs rfl bo_abs (pa_cons (pv 2) (pa_nil))) (pa_nil)))) (pss_one (ps_never)) (pss_nil))
  (pss_cons (ps_set (i:=3) sc_NumberForm_core.nd rfl (Or.inl rfl) (pe_callH C_body_of hr rfl (pa_cons (pe_callBH call_absN B.z_abs rfl bo_abs (pa_cons (pv 2) (pa_nil))) (pa_cons (pe_fld (pv 0) rfl) (pa_cons (pe_fld (pv 0) rfl) (pa_cons (pe_fld (pv 0) rfl) (pa_cons (pe_fld (pv 0) rfl) (pa_cons (pe_fld (pv 0) rfl) (pa_nil)))))))))
  (pss_one (ps_ret (pe_callH C_signed hr rfl (pa_cons (pv 3) (pa_cons (pe_fld (pv 0) rfl) (pa_cons (pe_cmpR op_lt (pv 2) (pe_int) (nomark _)) (pa_nil)))))))))),?_⟩
 walk_at "st"
 have o1:=ok.fg1;have o2:=ok.fg2;have o3:=ok.pl1;have o4:=ok.pl2;have o5:=ok.b1;have o6:=ok.b2;have o7:=ok.sn;have o8:=ok.wy;have o9:=ok.z1;have o10:=ok.z2
 have g3:=gr.2.2.1
 have pw:((b.toNat ^ (fg+pl).toNat:Nat):Int)=b ^ (fg+pl).toNat:=by rw [Int.natCast_pow,Int.toNat_of_nonneg (by omega)]
 have hlt:k.natAbs < b.toNat ^ (fg+pl).toNat:=lim
 obtain ⟨nb,n2,n3,n4⟩:=ncore_ok ok hlt
 unfold ncore at q n4
 have sl:=sg_len o7 (decide (k < 0)) (bdI k.natAbs b pl pt z m)
 subst gk
 walk_at "rd"
 rename_i k1 hk1 k0 hk0
 have hk:k0=((grid wy u v (b ^ pl.toNat)).natAbs:Int):=by omega
 subst hk
 clear hk1 hk0
 generalize grid wy u v (b ^ pl.toNat)=kk at *
 refine c_body_of nb o9 o10 fun H1 g1=>?_
 have F1:=F0.same g1
 walk_at "rd"
 exact q _ g1
theorem ok_NumberForm_lead_of {f:Addr} {fd:FuncData} (F:FunD K "lead_of" "NumberForm.lead_of" s_NumberForm_lead_of f fd) (B:Blt mg) {c_NumberForm:Addr} (C_ends_of:Has P w K mg base "ends_of" 1 ["style", "below"] (sp_ends_of K)) (C_unsigned:Has P w K mg base "unsigned" 3 ["core", "style"] (spc (sp_unsigned K))):FnOk P w K mg base CX0 4 f fd ["self", "core"] (sp_NumberForm_lead_of K c_NumberForm):=by
 refine F.ok sc_NumberForm_lead_of (fun vs H Q E h=>?_) (fun cdv A outer s H vs Q E hr h=>?_)
 ·obtain ⟨a,fg,pl,b,sn,z,m,pt,wy,wd,f,x,st,t,bl,rfl,F0,hs,ha,hl,sd,q⟩:=h
  rfl
 obtain ⟨a,fg,pl,b,sn,z,m,pt,wy,wd,f,x,st,t,bl,rfl,F0,hs,ha,hl,sd,q⟩:=h
 refine ⟨_,pss_one (ps_ret (pe_ix ix_tup (pe_callH C_ends_of hr rfl (pa_cons (pe_fld (pv 0) rfl) (pa_cons (pe_ix ix_tup (pe_callH C_unsigned hr rfl (pa_cons (pv 1) (pa_cons (pe_fld (pv 0) rfl) (pa_nil)))) (pe_int) (fun _ _=>rfl)) (pa_nil)))) (pe_int) (fun _ _=>rfl))),?_⟩
 walk_at "st"
 walk_at "rd"
 refine c_unsigned hs ha (by omega) sd fun p H1 g1 e1=>?_
 have F1:=F0.same g1
 walk_at "rd"
 exact q _ g1
theorem ok_Form_is_too_wide {f:Addr} {fd:FuncData} (F:FunD K "is_too_wide" "Form.is_too_wide" s_Form_is_too_wide f fd) (B:Blt mg) {c_NumberForm:Addr}:FnOk P w K mg base CX0 1 f fd ["self", "core"] (sp_Form_is_too_wide K c_NumberForm):=by
 refine F.ok sc_Form_is_too_wide (fun vs H Q E h=>?_) (fun cdv A outer s H vs Q E hr h=>?_)
 ·obtain ⟨a,wd,f,x,st,more,t,rfl,F0,h0,q⟩:=h
  rfl
 obtain ⟨a,wd,f,x,st,more,t,rfl,F0,h0,q⟩:=h
 refine ⟨_,pss_one (ps_ret (pe_and (pe_fld (pv 0) rfl) (pe_one (pe_cmpR op_gt (pe_callBH call_lenT B.z_len rfl bo_len (pa_cons (pv 1) (pa_nil))) (pe_fld (pv 0) rfl) (nomark _))))),?_⟩
 walk_at "st"
 walk_at "rd"
 ·rename_i hc;rw [hc] at q;exact q
 ·rename_i hc;rw [hc] at q;exact q
theorem ok_Form_filled {f:Addr} {fd:FuncData} (F:FunD K "filled" "Form.filled" s_Form_filled f fd) (B:Blt mg) {c_NumberForm:Addr} (cl_NumberForm:Cls K c_NumberForm) (C_padded_inside:Has P w K mg base "padded_inside" 3 ["lead", "rest", "width", "fill"] (sp_padded_inside K)) (C_padded:Has P w K mg base "padded" 2 ["text", "width", "fill", "side"] (sp_padded K)) (M_NumberForm_lead_of:HasM P w K mg base CX0 c_NumberForm "lead_of" 4 ["self", "core"] (sp_NumberForm_lead_of K c_NumberForm)):FnOk P w K mg base CX0 5 f fd ["self", "core"] (sp_Form_filled K c_NumberForm):=by
 refine F.ok sc_Form_filled (fun vs H Q E h=>?_) (fun cdv A outer s H vs Q E hr h=>?_)
 ·obtain ⟨a,fg,pl,b,sn,z,m,pt,wy,wd,f,x,st,t,bl,rfl,F0,sx,hw,hs,ha,hl,sd,q⟩:=h
  rfl
 obtain ⟨a,fg,pl,b,sn,z,m,pt,wy,wd,f,x,st,t,bl,rfl,F0,sx,hw,hs,ha,hl,sd,q⟩:=h
 refine ⟨_,pss_cons (ps_if (pt_cmpR op_ne (pe_fld (pv 0) rfl) (pe_str) (nomark _)) (pss_one (ps_ret (pe_callH C_padded hr rfl (pa_cons (pv 1) (pa_cons (pe_fld (pv 0) rfl) (pa_cons (pe_fld (pv 0) rfl) (pa_cons (pe_fld (pv 0) rfl) (pa_nil)))))))) (pss_nil))
  (pss_cons (ps_set (i:=2) sc_Form_filled.nd rfl (Or.inl rfl) (pe_methH M_NumberForm_lead_of cl_NumberForm pass0 hr (pv 0) (pa_cons (pv 1) (pa_nil))))
  (pss_one (ps_ret (pe_callH C_padded_inside hr rfl (pa_cons (pv 2) (pa_cons (pe_slice sl_str (pv 1) (po_some (pe_callBH call_lenT B.z_len rfl bo_len (pa_cons (pv 2) (pa_nil)))) (po_none)) (pa_cons (pe_fld (pv 0) rfl) (pa_cons (pe_fld (pv 0) rfl) (pa_nil))))))))),?_⟩
 walk_at "st"
 have sl:=st_len hs bl
 walk_at "rd"
 ·rename_i hc
  refine c_lead_of F0 hs ha hl sd fun H1 g1=>?_
  have F1:=F0.same g1
  walk_at "rd"
  rename_i H2 g2
  have q':=q _ (g1.trans g2)
  unfold nfil at q'
  rw [if_pos hc] at q'
  rw [Int.toNat_natCast]
  exact q'
 ·rename_i hc
  have sx':Side x:=sx.elim id fun z=>absurd z hc
  refine c_padded sx' hl hw fun H1 g1=>?_
  have q':=q _ g1
  unfold nfil at q'
  rw [if_neg hc] at q'
  exact q'
theorem ok_Form_put {f:Addr} {fd:FuncData} (F:FunD K "put" "Form.put" s_Form_put f fd) (B:Blt mg) {c_NumberForm:Addr} (cl_NumberForm:Cls K c_NumberForm) (M_NumberForm_core:HasM P w K mg base CX0 c_NumberForm "core" 4 ["self", "value"] (sp_NumberForm_core K c_NumberForm)) (M_NumberForm_is_too_wide:HasM P w K mg base CX0 c_NumberForm "is_too_wide" 1 ["self", "core"] (sp_Form_is_too_wide K c_NumberForm)) (M_NumberForm_filled:HasM P w K mg base CX0 c_NumberForm "filled" 5 ["self", "core"] (sp_Form_filled K c_NumberForm)):FnOk P w K mg base CX0 6 f fd ["self", "value"] (sp_Form_put K c_NumberForm):=by
 refine F.ok sc_Form_put (fun vs H Q E h=>?_) (fun cdv A outer s H vs Q E hr h=>?_)
 ·obtain ⟨o,p,fg,pl,b,sn,z,m,pt,wy,wd,f,x,st,u,v,k,rfl,F0,ok,hp,gr,gc,gk,lim,nw,q⟩:=h
  rfl
 obtain ⟨o,p,fg,pl,b,sn,z,m,pt,wy,wd,f,x,st,u,v,k,rfl,F0,ok,hp,gr,gc,gk,lim,nw,q⟩:=h
 refine ⟨_,pss_cons (ps_set (i:=2) sc_Form_put.nd rfl (Or.inl rfl) (pe_methH M_NumberForm_core cl_NumberForm pass0 hr (pv 0) (pa_cons (pv 1) (pa_nil))))
  (pss_cons (ps_if (pt_val (pe_methH M_NumberForm_is_too_wide cl_NumberForm pass0 hr (pv 0) (pa_cons (pv 2) (pa_nil)))) (pss_one (ps_never)) (pss_nil))
  (pss_one (ps_ret (pe_methH M_NumberForm_filled cl_NumberForm pass0 hr (pv 0) (pa_cons (pv 2) (pa_nil)))))),?_⟩
 walk_at "st"
 walk_at "rd"
 refine c_core F0 ok hp gr gc gk lim fun H1 g1=>?_
 obtain ⟨nb,n2,n3,n4⟩:=ncore_ok ok lim
 have F1:=F0.same g1
 walk_at "rd"
 ·rename_i hc
  rw [Bool.and_eq_true,decide_eq_true_iff] at hc
  exact absurd hc nw
 ·refine c_filled F1 ok.x ok.wd2 ok.sn n3 n4 n2 fun H2 g2=>?_
  exact q _ (g1.trans g2)
def SpecN (H:Hp) (p:Addr) (fg pl b:Int) (sn:Str) (z:Int) (m pt:Nat) (wy:Str) (wd:Int) (f:Nat) (x:Str) (st:Bool):Prop:=H p=some (.tup [.str "number", .int fg,.int pl,.int b,.str sn,.int z,.str (T [m]),.str (T [pt]),.str wy,.int wd,.str (T [f]),.str x,.bl st])
def sp_law_signs (K:W.Frag):Sp:=fun vs H Q _=>vs=[] ∧ ∀ l:List Nat,l.length=94→Asc l→Q (.str (T l)) H
theorem c_signs {K:W.Frag} {H:Hp} {Q:VK} {E:XK} (q : ∀ l:List Nat,l.length=94→Asc l→Q (.str (T l)) H):sp_law_signs K ([]++[]) H Q E:=⟨rfl,q⟩
local macro_rules | `(tactic| walk_at "rdc")=>`(tactic| ((with_reducible refine c_signs ?_);intro l' hl' al'))
def sp_law_sign (K:W.Frag):Sp:=fun vs H Q _=>∃ n t:Int,vs=[.int n,.int t]∧0≤t ∧ ∀ c:Nat,c < 127→Q (.str (T [c])) H
theorem c_sign {K:W.Frag} {n t:Int} {H:Hp} {Q:VK} {E:XK} (h1:0≤t) (q : ∀ c:Nat,c < 127→Q (.str (T [c])) H):sp_law_sign K ([.int n,.int t]++[]) H Q E:=⟨n,t,rfl,h1,q⟩
local macro_rules | `(tactic| walk_at "rdc")=>`(tactic| ((with_reducible refine' c_sign ?h1 ?_);(case h1=>omega);intro c' hc'))
def sp_law_number_spec (K:W.Frag):Sp:=fun vs H Q _=>∃ (c o s:Int),vs=[.int c,.int o,.int s]∧(s=0∨s=1) ∧ ∀ p H' fg pl b sn z m pt wy wd f x st,Same H H'→NumS fg pl b sn z m pt wy wd f x→SpecN H' p fg pl b sn z m pt wy wd f x st→Q (.ref p) H'
def sp_law_number_form (K:W.Frag) (C:Addr):Sp:=fun vs H Q _=>∃ (p:Addr) (fg pl b:Int) (sn:Str) (z:Int) (m pt:Nat) (wy:Str) (wd:Int) (f:Nat) (x:Str) (st:Bool),vs=[.ref p]∧SpecN H p fg pl b sn z m pt wy wd f x st ∧ ∀ o H',Same H H'→FormAt K H' o C wd f x st (nmore fg pl b sn z m pt wy)→Q (.ref o) H'
def sp_law_power (K:W.Frag):Sp:=fun vs H Q _=>∃ b t:Int,vs=[.int b,.int t]∧2≤b∧b≤16∧0≤t∧t≤60∧Q (.int (b ^ t.toNat)) H
theorem c_power {K:W.Frag} {b t:Int} {H:Hp} {Q:VK} {E:XK} (h1:2≤b) (h2:b≤16) (h3:0≤t) (h4:t≤60) (q:Q (.int (b ^ t.toNat)) H):sp_law_power K ([.int b,.int t]++[]) H Q E:=⟨b,t,rfl,h1,h2,h3,h4,q⟩
local macro_rules | `(tactic| walk_at "rdc")=>`(tactic| ((with_reducible refine' c_power ?h1 ?h2 ?h3 ?h4 ?_);(case h1=>omega);(case h2=>omega);(case h3=>omega);(case h4=>omega)))
def sp_law_figures (K:W.Frag):Sp:=fun vs H Q _=>∃ n b:Int,vs=[.int n,.int b]∧0≤n∧2≤b∧b≤16∧n < 1766847064778384329583297500742918515827483896875618958121606201292619776∧Q (.str (T (figs b.toNat n.toNat))) H
theorem c_lfigures {K:W.Frag} {n b:Int} {H:Hp} {Q:VK} {E:XK} (h1:0≤n) (h2:2≤b) (h3:b≤16) (h4:n < 1766847064778384329583297500742918515827483896875618958121606201292619776) (q:Q (.str (T (figs b.toNat n.toNat))) H):sp_law_figures K ([.int n,.int b]++[]) H Q E:=⟨n,b,rfl,h1,h2,h3,h4,q⟩
local macro_rules | `(tactic| walk_at "rdc")=>`(tactic| ((with_reducible refine' c_lfigures ?h1 ?h2 ?h3 ?h4 ?_);(case h1=>omega);(case h2=>omega);(case h3=>omega);(case h4=>omega)))
theorem r_slT {K:W.Frag} {H:Hp} {Q:VK} {a:Addr} {xs:List V} {lo hi:Option Int} {n:Nat} (h:H a=some (.tup xs)) (hn:xs.length=n) (hw : ¬ (HT.sIx n 0 lo=0∧HT.sIx n n hi=n)) (q : ∀ p H',Same H H'→H' p=some (.tup (cutV xs lo hi))→Q (.ref p) H'):rSlT K (.ref a) lo hi H Q:=⟨a,xs,rfl,SqT.of h,by rw [hn];exact hw,fun p hp=>q p _ (same_new hp _) upd_same⟩
def sp_law_body (K:W.Frag):Sp:=fun vs H Q _=>∃ (n:Int) (p:Addr) (fg pl b:Int) (sn:Str) (z:Int) (m pt:Nat) (wy:Str) (wd:Int) (f:Nat) (x:Str) (st:Bool),vs=[.int n,.ref p]∧SpecN H p fg pl b sn z m pt wy wd f x st∧NumS fg pl b sn z m pt wy wd f x∧0≤n∧LimN fg pl b n ∧ ∀ H',Same H H'→Q (.str (T (bdI n b pl pt z m))) H'
theorem c_lbody {K:W.Frag} {n:Int} {p:Addr} {fg pl b:Int} {sn:Str} {z:Int} {m pt:Nat} {wy:Str} {wd:Int} {f:Nat} {x:Str} {st:Bool} {H:Hp} {Q:VK} {E:XK} (h1:SpecN H p fg pl b sn z m pt wy wd f x st) (h2:NumS fg pl b sn z m pt wy wd f x) (h3:0≤n) (h4:LimN fg pl b n) (q : ∀ H',Same H H'→Q (.str (T (bdI n b pl pt z m))) H'):sp_law_body K ([.int n,.ref p]++[]) H Q E:=⟨n,p,fg,pl,b,sn,z,m,pt,wy,wd,f,x,st,rfl,h1,h2,h3,h4,q⟩
def nrest (pl b:Int) (sn:Str) (z:Int) (m pt:Nat) (k:Int):List Nat:=bdI k.natAbs b pl pt z m++stT sn (decide (k < 0))
def sp_law_parts (K:W.Frag):Sp:=fun vs H Q _=>∃ (k:Int) (p:Addr) (fg pl b:Int) (sn:Str) (z:Int) (m pt:Nat) (wy:Str) (wd:Int) (f:Nat) (x:Str) (st:Bool),vs=[.int k,.ref p]∧SpecN H p fg pl b sn z m pt wy wd f x st∧NumS fg pl b sn z m pt wy wd f x∧LimN fg pl b k ∧ ∀ q H',Same H H'→H' q=some (.tup [.str (T (stL sn (decide (k < 0)))),.str (T (nrest pl b sn z m pt k))])→Q (.ref q) H'
theorem c_parts {K:W.Frag} {k:Int} {p:Addr} {fg pl b:Int} {sn:Str} {z:Int} {m pt:Nat} {wy:Str} {wd:Int} {f:Nat} {x:Str} {st:Bool} {H:Hp} {Q:VK} {E:XK} (h1:SpecN H p fg pl b sn z m pt wy wd f x st) (h2:NumS fg pl b sn z m pt wy wd f x) (h4:LimN fg pl b k) (q : ∀ q H',Same H H'→H' q=some (.tup [.str (T (stL sn (decide (k < 0)))),.str (T (nrest pl b sn z m pt k))])→Q (.ref q) H'):sp_law_parts K ([.int k,.ref p]++[]) H Q E:=⟨k,p,fg,pl,b,sn,z,m,pt,wy,wd,f,x,st,rfl,h1,h2,h4,q⟩
def sp_law_filled (K:W.Frag):Sp:=fun vs H Q _=>∃ (ld rs:List Nat) (p:Addr) (fg pl b:Int) (sn:Str) (z:Int) (m pt:Nat) (wy:Str) (wd:Int) (f:Nat) (x:Str) (st:Bool),vs=[.str (T ld),.str (T rs),.ref p]∧SpecN H p fg pl b sn z m pt wy wd f x st∧NumS fg pl b sn z m pt wy wd f x∧ld.length≤2∧rs.length≤200 ∧ ∀ H',Same H H'→Q (.str (T (nfil ld (ld++rs) wd f x))) H'
theorem c_lfilled {K:W.Frag} {ld rs:List Nat} {p:Addr} {fg pl b:Int} {sn:Str} {z:Int} {m pt:Nat} {wy:Str} {wd:Int} {f:Nat} {x:Str} {st:Bool} {H:Hp} {Q:VK} {E:XK} (h1:SpecN H p fg pl b sn z m pt wy wd f x st) (h2:NumS fg pl b sn z m pt wy wd f x) (h3:ld.length≤2) (h4:rs.length≤200) (q : ∀ H',Same H H'→Q (.str (T (nfil ld (ld++rs) wd f x))) H'):sp_law_filled K ([.str (T ld),.str (T rs),.ref p]++[]) H Q E:=⟨ld,rs,p,fg,pl,b,sn,z,m,pt,wy,wd,f,x,st,rfl,h1,h2,h3,h4,q⟩
theorem ok_law_signs {f:Addr} {fd:FuncData} (F:Fun K "_law_signs" "_law_signs" s_law_signs f fd) (B:Blt mg):FnOk P w K mg base CX0 1 f fd [] (sp_law_signs K):=by
 refine F.ok sc_law_signs (fun vs H Q E h=>?_) (fun cdv A outer s H vs Q E hr h=>?_)
 ·obtain ⟨rfl,q⟩:=h
  rfl
 obtain ⟨rfl,q⟩:=h
 refine ⟨_,pss_one (ps_ret (pe_str)),?_⟩
 walk_at "st"
 walk_at "rd"
 have q':=q (Lt " !\"#$&'()*+,-./0123456789:;<=>?@ABCDEFGHIJKLMNOPQRSTUVWXYZ[\\]^_`abcdefghijklmnopqrstuvwxyz{|}~") (by decide +kernel) (by unfold Asc;decide +kernel)
 rw [T_Lt] at q'
 exact q'
theorem ok_law_sign {f:Addr} {fd:FuncData} (F:Fun K "_law_sign" "_law_sign" s_law_sign f fd) (B:Blt mg) (C_law_pick:Has P w K mg base "_law_pick" 1 ["_law_cell", "_law_salt", "_law_many"] (sp_law_pick K)) (C_law_signs:Has P w K mg base "_law_signs" 1 [] (sp_law_signs K)):FnOk P w K mg base CX0 2 f fd ["_law_cell", "_law_salt"] (sp_law_sign K):=by
 refine F.ok sc_law_sign (fun vs H Q E h=>?_) (fun cdv A outer s H vs Q E hr h=>?_)
 ·obtain ⟨n,t,rfl,h0,q⟩:=h
  rfl
 obtain ⟨n,t,rfl,h0,q⟩:=h
 refine ⟨_,pss_cons (ps_set (i:=2) sc_law_sign.nd rfl (Or.inl rfl) (pe_str))
  (pss_cons (ps_if (pt_cmpR op_gt (pe_callH C_law_pick hr rfl (pa_cons (pv 0) (pa_cons (pv 1) (pa_cons (pe_int) (pa_nil))))) (pe_int) (nomark _)) (pss_one (ps_ret (pe_ix ix_str (pv 2) (pe_callH C_law_pick hr rfl (pa_cons (pv 0) (pa_cons (pe_op op_add (pv 1) (pe_int)) (pa_cons (pe_callBH call_lenT B.z_len rfl bo_len (pa_cons (pv 2) (pa_nil))) (pa_nil))))) (fun _ _=>rfl)))) (pss_nil))
  (pss_one (ps_ret (pe_ix ix_str (pe_callH0 C_law_signs hr rfl) (pe_callH C_law_pick hr rfl (pa_cons (pv 0) (pa_cons (pe_op op_add (pv 1) (pe_int)) (pa_cons (pe_int) (pa_nil))))) (fun _ _=>rfl))))),?_⟩
 walk_at "st"
 have l13:(Lt " 0-+(1*)_,.9f").length=13:=by decide +kernel
 have a1 : ∀ c ∈ Lt " 0-+(1*)_,.9f", c < 127:=by decide +kernel
 walk_at "rd"
 ·rename_i c' hc';exact q _ (a1 _ hc')
 ·rename_i l' hl' al' v' h0' h1'
  refine q _ (al' _ ?_)
  rw [List.getD_eq_getElem?_getD,List.getElem?_eq_getElem (by omega)]
  exact List.getElem_mem _
theorem ok_law_number_spec {f:Addr} {fd:FuncData} (F:Fun K "_law_number_spec" "_law_number_spec" s_law_number_spec f fd) (B:Blt mg) (C_law_pick:Has P w K mg base "_law_pick" 1 ["_law_cell", "_law_salt", "_law_many"] (sp_law_pick K)) (C_law_sign:Has P w K mg base "_law_sign" 2 ["_law_cell", "_law_salt"] (sp_law_sign K)):FnOk P w K mg base CX0 3 f fd ["_law_cell", "_law_other", "_law_small"] (sp_law_number_spec K):=by
 refine F.ok sc_law_number_spec (fun vs H Q E h=>?_) (fun cdv A outer s H vs Q E hr h=>?_)
 ·obtain ⟨c,o,s0,rfl,hs,q⟩:=h
  rfl
 obtain ⟨c,o,s0,rfl,hs,q⟩:=h
 refine ⟨_,pss_cons (ps_set (i:=3) sc_law_number_spec.nd rfl (Or.inl rfl) (pe_op op_add (pe_int) (pe_callH C_law_pick hr rfl (pa_cons (pv 0) (pa_cons (pe_int) (pa_cons (pe_ix ix_list (pe_lst (pa_cons (pe_int) (pa_cons (pe_int) (pa_nil)))) (pv 2) (fun _ _=>rfl)) (pa_nil)))))))
  (pss_cons (ps_set (i:=4) sc_law_number_spec.nd rfl (Or.inl rfl) (pe_callH C_law_pick hr rfl (pa_cons (pv 0) (pa_cons (pe_int) (pa_cons (pe_ix ix_list (pe_lst (pa_cons (pe_int) (pa_cons (pe_int) (pa_nil)))) (pv 2) (fun _ _=>rfl)) (pa_nil))))))
  (pss_cons (ps_set (i:=5) sc_law_number_spec.nd rfl (Or.inl rfl) (pe_ix ix_list (pe_lst (pa_cons (pe_int) (pa_cons (pe_int) (pa_cons (pe_ix ix_list (pe_lst (pa_cons (pe_int) (pa_cons (pe_int) (pa_nil)))) (pv 2) (fun _ _=>rfl)) (pa_cons (pe_ix ix_list (pe_lst (pa_cons (pe_op op_add (pe_int) (pe_callH C_law_pick hr rfl (pa_cons (pv 0) (pa_cons (pe_int) (pa_cons (pe_int) (pa_nil)))))) (pa_cons (pe_int) (pa_nil)))) (pv 2) (fun _ _=>rfl)) (pa_nil)))))) (pe_callH C_law_pick hr rfl (pa_cons (pv 0) (pa_cons (pe_int) (pa_cons (pe_int) (pa_nil))))) (fun _ _=>rfl)))
  (pss_cons (ps_set (i:=6) sc_law_number_spec.nd rfl (Or.inl rfl) (pe_ix ix_list (pe_lst (pa_cons (pe_str) (pa_cons (pe_str) (pa_cons (pe_str) (pa_cons (pe_str) (pa_cons (pe_str) (pa_nil))))))) (pe_callH C_law_pick hr rfl (pa_cons (pv 0) (pa_cons (pe_int) (pa_cons (pe_int) (pa_nil))))) (fun _ _=>rfl)))
  (pss_cons (ps_set (i:=7) sc_law_number_spec.nd rfl (Or.inl rfl) (pe_ix ix_list (pe_lst (pa_cons (pe_int) (pa_cons (pe_int) (pa_cons (pe_op op_add (pe_int) (pe_callH C_law_pick hr rfl (pa_cons (pv 0) (pa_cons (pe_int) (pa_cons (pe_int) (pa_nil)))))) (pa_nil))))) (pe_callH C_law_pick hr rfl (pa_cons (pv 0) (pa_cons (pe_int) (pa_cons (pe_int) (pa_nil))))) (fun _ _=>rfl)))
  (pss_cons (ps_set (i:=8) sc_law_number_spec.nd rfl (Or.inl rfl) (pe_ix ix_list (pe_lst (pa_cons (pe_str) (pa_cons (pe_str) (pa_cons (pe_str) (pa_cons (pe_str) (pa_cons (pe_str) (pa_nil))))))) (pe_callH C_law_pick hr rfl (pa_cons (pv 0) (pa_cons (pe_int) (pa_cons (pe_int) (pa_nil))))) (fun _ _=>rfl)))
  (pss_cons (ps_set (i:=9) sc_law_number_spec.nd rfl (Or.inl rfl) (pe_tup (pa_cons (pe_callH C_law_sign hr rfl (pa_cons (pv 1) (pa_cons (pe_int) (pa_nil)))) (pa_cons (pe_callH C_law_sign hr rfl (pa_cons (pv 1) (pa_cons (pe_int) (pa_nil)))) (pa_cons (pe_callH C_law_sign hr rfl (pa_cons (pv 1) (pa_cons (pe_int) (pa_nil)))) (pa_nil))))))
  (pss_cons (ps_set (i:=10) sc_law_number_spec.nd rfl (Or.inl rfl) (pe_lst (pa_cons (pe_int) (pa_cons (pe_op op_add (pe_int) (pe_callH C_law_pick hr rfl (pa_cons (pv 1) (pa_cons (pe_int) (pa_cons (pe_ix ix_list (pe_lst (pa_cons (pe_int) (pa_cons (pe_int) (pa_nil)))) (pv 2) (fun _ _=>rfl)) (pa_nil)))))) (pa_cons (pe_op op_add (pe_int) (pe_callH C_law_pick hr rfl (pa_cons (pv 1) (pa_cons (pe_int) (pa_cons (pe_ix ix_list (pe_lst (pa_cons (pe_int) (pa_cons (pe_int) (pa_nil)))) (pv 2) (fun _ _=>rfl)) (pa_nil)))))) (pa_nil))))))
  (pss_cons (ps_set (i:=11) sc_law_number_spec.nd rfl (Or.inl rfl) (pe_ix ix_list (pv 10) (pe_callH C_law_pick hr rfl (pa_cons (pv 1) (pa_cons (pe_int) (pa_cons (pe_int) (pa_nil))))) (fun _ _=>rfl)))
  (pss_cons (ps_set (i:=12) sc_law_number_spec.nd rfl (Or.inl rfl) (pe_ix ix_list (pe_lst (pa_cons (pe_str) (pa_cons (pe_str) (pa_cons (pe_str) (pa_cons (pe_str) (pa_nil)))))) (pe_callH C_law_pick hr rfl (pa_cons (pv 1) (pa_cons (pe_int) (pa_cons (pe_int) (pa_nil))))) (fun _ _=>rfl)))
  (pss_cons (ps_set (i:=13) sc_law_number_spec.nd rfl (Or.inl rfl) (pe_cmpR op_eq (pe_callH C_law_pick hr rfl (pa_cons (pv 1) (pa_cons (pe_int) (pa_cons (pe_int) (pa_nil))))) (pe_int) (nomark _)))
  (pss_one (ps_ret (pe_tup (pa_cons (pe_str) (pa_cons (pv 3) (pa_cons (pv 4) (pa_cons (pv 5) (pa_cons (pv 6) (pa_cons (pv 7) (pa_cons (pe_ix ix_tup (pv 9) (pe_int) (fun _ _=>rfl)) (pa_cons (pe_ix ix_tup (pv 9) (pe_int) (fun _ _=>rfl)) (pa_cons (pv 8) (pa_cons (pv 11) (pa_cons (pe_ix ix_tup (pv 9) (pe_int) (fun _ _=>rfl)) (pa_cons (pv 12) (pa_cons (pv 13) (pa_nil) se_Name) se_Name) se_Subscript) se_Name) se_Name) se_Subscript) se_Subscript) se_Name) se_Name) se_Name) se_Name) se_Name) se_Constant)))))))))))))),?_⟩
 walk_at "st"
 rcases hs with rfl | rfl
 all_goals
  walk_at "rd"
  rename_i p4 H4 g4 e4 v3 h03 h13 p3 H3 g3 e3 v2 h02 h12 p2 H2 g2 e2 v1 h01 h11 p1 H1 g1 e1 p0 H0 g0 e0 v0 h00 h10
  refine r_ixAll (SqL.of e0) (by omega) (by show _ < (4:Int);omega) fun x hx=>?_
  have hm:=List.mem_of_getElem? hx
  simp only [List.mem_cons,List.not_mem_nil,or_false] at hm
  have hx : ∃ b:Int,x = .int b∧2≤b∧b≤16:=by
   rcases hm with rfl | rfl | rfl | rfl
   ·exact ⟨_,rfl,by omega,by omega⟩
   ·exact ⟨_,rfl,by omega,by omega⟩
   ·exact ⟨_,rfl,by omega,by omega⟩
   ·exact ⟨_,rfl,by omega,by omega⟩
  obtain ⟨b,rfl,b1,b2⟩:=hx
  have gA:Same H H0:=by walk_at "sm"
  clear hm e0 e1 e2 e3 e4
  walk_at "rd"
  rename_i p5 H5 g5 e5 v5 h05 h15
  refine r_ixAll (SqL.of e5) (by omega) (by show _ < (5:Int);omega) fun x hx=>?_
  have hm:=List.mem_of_getElem? hx
  simp only [List.mem_cons,List.not_mem_nil,or_false] at hm
  have hx : ∃ sn:Str,x = .str sn∧Style sn:=by
   rcases hm with rfl | rfl | rfl | rfl | rfl
   ·exact ⟨_,rfl,.inl rfl⟩
   ·exact ⟨_,rfl,.inr (.inl rfl)⟩
   ·exact ⟨_,rfl,.inr (.inr (.inl rfl))⟩
   ·exact ⟨_,rfl,.inr (.inr (.inr (.inl rfl)))⟩
   ·exact ⟨_,rfl,.inr (.inr (.inr (.inr rfl)))⟩
  obtain ⟨sn,rfl,hsn⟩:=hx
  clear hm e5
  walk_at "rd"
  rename_i v6 h06 h16 p7 H7 g7 e7 v7 h07 h17
  refine r_ixAll (SqL.of e7) (by omega) (by show _ < (3:Int);omega) fun x hx=>?_
  have hm:=List.mem_of_getElem? hx
  simp only [List.mem_cons,List.not_mem_nil,or_false] at hm
  have hx : ∃ z:Int,x = .int z∧0≤z∧z≤9:=by
   rcases hm with rfl | rfl | rfl
   ·exact ⟨_,rfl,by omega,by omega⟩
   ·exact ⟨_,rfl,by omega,by omega⟩
   ·exact ⟨_,rfl,by omega,by omega⟩
  obtain ⟨z,rfl,z1,z2⟩:=hx
  clear hm e7
  walk_at "rd"
  rename_i p8 H8 g8 e8 v8 h08 h18
  refine r_ixAll (SqL.of e8) (by omega) (by show _ < (5:Int);omega) fun x hx=>?_
  have hm:=List.mem_of_getElem? hx
  simp only [List.mem_cons,List.not_mem_nil,or_false] at hm
  have hx : ∃ wy:Str,x = .str wy∧Way wy:=by
   rcases hm with rfl | rfl | rfl | rfl | rfl
   ·exact ⟨_,rfl,.inl rfl⟩
   ·exact ⟨_,rfl,.inr (.inl rfl)⟩
   ·exact ⟨_,rfl,.inr (.inr (.inl rfl))⟩
   ·exact ⟨_,rfl,.inr (.inr (.inr (.inl rfl)))⟩
   ·exact ⟨_,rfl,.inr (.inr (.inr (.inr rfl)))⟩
  obtain ⟨wy,rfl,hwy⟩:=hx
  clear hm e8
  walk_at "rd"
  rename_i c3 hc3 c2 hc2 c1 hc1 pA HA gA1 eA pB HB gB eB v9 h09 h19 pC HC gC eC v10 h010 h110 pD HD gD eD v11 h011 h111
  refine r_ixAll (SqL.of eD) (by omega) (by show _ < (3:Int);omega) fun x hx=>?_
  have hm:=List.mem_of_getElem? hx
  simp only [List.mem_cons,List.not_mem_nil,or_false] at hm
  have hx : ∃ wd:Int,x = .int wd∧0≤wd∧wd≤40:=by
   rcases hm with rfl | rfl | rfl
   ·exact ⟨_,rfl,by omega,by omega⟩
   ·exact ⟨_,rfl,by omega,by omega⟩
   ·exact ⟨_,rfl,by omega,by omega⟩
  obtain ⟨wd,rfl,w1,w2⟩:=hx
  clear hm eD eC eB
  walk_at "rd"
  rename_i pE HE gE eE v12 h012 h112
  refine r_ixAll (SqL.of eE) (by omega) (by show _ < (4:Int);omega) fun x hx=>?_
  have hm:=List.mem_of_getElem? hx
  simp only [List.mem_cons,List.not_mem_nil,or_false] at hm
  have hx : ∃ y:Str,x = .str y∧SideI y:=by
   rcases hm with rfl | rfl | rfl | rfl
   ·exact ⟨_,rfl,.inl (.inr (.inl rfl))⟩
   ·exact ⟨_,rfl,.inl (.inl rfl)⟩
   ·exact ⟨_,rfl,.inl (.inr (.inr rfl))⟩
   ·exact ⟨_,rfl,.inr rfl⟩
  obtain ⟨y,rfl,hy⟩:=hx
  clear hm eE
  walk_at "rd"
  rename_i v13 h013 h113 pF HF gF eF
  exact q _ _ _ _ _ _ _ _ _ _ _ _ _ _ (by walk_at "sm") ⟨by omega,by omega,by omega,by omega,b1,b2,hsn,z1,z2,by assumption,by assumption,hwy,w1,w2,by assumption,hy⟩ eF
theorem ok_law_number_form {f:Addr} {fd:FuncData} (F:Fun K "_law_number_form" "_law_number_form" s_law_number_form f fd) (B:Blt mg) {c_NumberForm:Addr} (m_NumberForm:mg "NumberForm" = some (.ref c_NumberForm)) (I_NumberForm_init:HasI P w K mg base CX0 c_NumberForm 2 ["self", "figures", "places", "base", "sign", "size", "mark", "point", "way", "width", "fill", "side", "strict"] (sp_NumberForm___init__ K c_NumberForm))(cl:Cls K c_NumberForm) (na:NoAttrs K c_NumberForm (bns++nns)):FnOk P w K mg base CX0 4 f fd ["_law_spec"] (sp_law_number_form K c_NumberForm):=by
 refine F.ok sc_law_number_form (fun vs H Q E h=>?_) (fun cdv A outer s H vs Q E hr h=>?_)
 ·obtain ⟨p,fg,pl,b,sn,z,m,pt,wy,wd,f,x,st,rfl,hp,q⟩:=h
  rfl
 obtain ⟨p,fg,pl,b,sn,z,m,pt,wy,wd,f,x,st,rfl,hp,q⟩:=h
 refine ⟨_,pss_cons (ps_asg (pe_slice sl_tup (pv 0) (po_some (pe_int)) (po_some (pe_int))) (pg_tup rfl (pgs_cons (pg_name (i:=1) sc_law_number_form.nd rfl (Or.inl rfl)) (pgs_cons (pg_name (i:=2) sc_law_number_form.nd rfl (Or.inl rfl)) (pgs_cons (pg_name (i:=3) sc_law_number_form.nd rfl (Or.inl rfl)) (pgs_cons (pg_name (i:=4) sc_law_number_form.nd rfl (Or.inl rfl)) (pgs_cons (pg_name (i:=5) sc_law_number_form.nd rfl (Or.inl rfl)) (pgs_cons (pg_name (i:=6) sc_law_number_form.nd rfl (Or.inl rfl)) (pgs_cons (pg_name (i:=7) sc_law_number_form.nd rfl (Or.inl rfl)) (pgs_nil))))))))))
  (pss_cons (ps_asg (pe_slice sl_tup (pv 0) (po_some (pe_int)) (po_none)) (pg_tup rfl (pgs_cons (pg_name (i:=8) sc_law_number_form.nd rfl (Or.inl rfl)) (pgs_cons (pg_name (i:=9) sc_law_number_form.nd rfl (Or.inl rfl)) (pgs_cons (pg_name (i:=10) sc_law_number_form.nd rfl (Or.inl rfl)) (pgs_cons (pg_name (i:=11) sc_law_number_form.nd rfl (Or.inl rfl)) (pgs_cons (pg_name (i:=12) sc_law_number_form.nd rfl (Or.inl rfl)) (pgs_nil))))))))
  (pss_one (ps_ret (pe_makeH I_NumberForm_init pass0 hr rfl m_NumberForm (pa_cons (pv 1) (pa_cons (pv 2) (pa_cons (pv 3) (pa_cons (pv 4) (pa_cons (pv 5) (pa_cons (pv 6) (pa_cons (pv 7) (pa_cons (pv 8) (pa_cons (pv 9) (pa_cons (pv 10) (pa_cons (pv 11) (pa_cons (pv 12) (pa_nil) se_Name) se_Name) se_Name) se_Name) se_Name) se_Name) se_Name) se_Name) se_Name) se_Name) se_Name) se_Name))))),?_⟩
 walk_at "st"
 unfold SpecN at hp
 walk_at "rd"
 refine r_slT (n:=13) hp rfl (by decide) fun p1 H1 g1 e1=>?_
 have e1':H1 p1=some (.tup [.int fg,.int pl,.int b,.str sn,.int z,.str (T [m]),.str (T [pt])]):=e1
 clear e1
 walk_at "rd"
 refine r_slT (n:=13) (g1.at hp) rfl (by decide) fun p2 H2 g2 e2=>?_
 have e2':H2 p2=some (.tup [.str wy,.int wd,.str (T [f]),.str x,.bl st]):=e2
 clear e2
 walk_at "rd"
 intro o dx no nd ne
 refine ⟨o,dx,fg,pl,b,sn,z,m,pt,wy,wd,f,x,st,rfl,upd_same,?_⟩
 have F0:FormAt K (upd (upd (upd H2 dx (.own o)) o (.ins c_NumberForm dx [])) o (.ins c_NumberForm dx (bfs wd f x st (nmore fg pl b sn z m pt wy)))) o c_NumberForm wd f x st (nmore fg pl b sn z m pt wy):=⟨⟨dx,upd_same⟩,cl,na⟩
 have g3:Same H2 (upd (upd (upd H2 dx (.own o)) o (.ins c_NumberForm dx [])) o (.ins c_NumberForm dx (bfs wd f x st (nmore fg pl b sn z m pt wy)))):=same_upd (same_upd (same_upd (Same.refl _) nd) no) no
 generalize upd (upd (upd H2 dx (.own o)) o (.ins c_NumberForm dx [])) o (.ins c_NumberForm dx (bfs wd f x st (nmore fg pl b sn z m pt wy)))=H3 at F0 g3 ⊢
 exact ⟨rfl,q _ _ ((g1.trans g2).trans g3) F0⟩
theorem ok_law_power {f:Addr} {fd:FuncData} (F:Fun K "_law_power" "_law_power" s_law_power f fd) (B:Blt mg):FnOk P w K mg base CX0 1 f fd ["_law_base", "_law_times"] (sp_law_power K):=by
 refine F.ok sc_law_power (fun vs H Q E h=>?_) (fun cdv A outer s H vs Q E hr h=>?_)
 ·obtain ⟨b,t,rfl,h1,h2,h3,h4,q⟩:=h
  rfl
 obtain ⟨b,t,rfl,h1,h2,h3,h4,q⟩:=h
 refine ⟨_,pss_cons (ps_set (i:=2) sc_law_power.nd rfl (Or.inl rfl) (pe_int))
  (pss_cons (ps_for PassesOwn.never rfl (pi_range1 rfl B.z_range (pa_cons (pv 1) (pa_nil))) (pg_name (i:=3) sc_law_power.nd rfl (Or.inl rfl)) (pss_one (ps_set (i:=2) sc_law_power.nd rfl (Or.inl rfl) (pe_op op_mulA (pv 2) (pv 0)))))
  (pss_one (ps_ret (pv 2)))),?_⟩
 walk_at "st"
 walk_at "rd"
 refine r_kForR (by omega) (by omega) (fun i σ H'=>H'=H ∧ ∃ r,σ=[some (.int b),some (.int t),some (.int (b ^ i)),r]) ⟨rfl,none,by rw [Int.pow_zero];rfl⟩ ?_ ?_
 ·rintro i σ H' hi ⟨rfl,r,rfl⟩
  have z:=pw60 (n:=i) h1 h2 (by omega)
  walk_at "rd"
  exact ⟨rfl,some (.int (0+i)),by rw [Int.pow_succ];rfl⟩
 ·rintro σ H' ⟨rfl,r,rfl⟩
  walk_at "rd"
  exact q
theorem gcd_turn0 {g l:Int} (hl:0 < l):Int.gcd l (g % l)=Int.gcd g l:=by
 rw [Int.gcd_comm g l]
 have e:g % l=g+l*(-(g / l)):=by
  have:=Int.emod_add_mul_ediv g l
  rw [Int.mul_neg];omega
 rw [e,Int.gcd_add_mul_left_right]
theorem ok_law_figures {f:Addr} {fd:FuncData} (F:Fun K "_law_figures" "_law_figures" s_law_figures f fd) (B:Blt mg):FnOk P w K mg base CX0 1 f fd ["_law_number", "_law_base"] (sp_law_figures K):=by
 refine F.ok sc_law_figures (fun vs H Q E h=>?_) (fun cdv A outer s H vs Q E hr h=>?_)
 ·obtain ⟨n,b,rfl,h1,h2,h3,h4,q⟩:=h
  rfl
 obtain ⟨n,b,rfl,h1,h2,h3,h4,q⟩:=h
 refine ⟨_,pss_cons (ps_set (i:=2) sc_law_figures.nd rfl (Or.inl rfl) (pe_ix ix_str (pe_str) (pe_op op_modP (pv 0) (pv 1)) (fun _ _=>rfl)))
  (pss_cons (ps_while PassesOwn.never (pt_cmpR op_ge (pv 0) (pv 1) (nomark _)) (pss_cons (ps_set (i:=0) sc_law_figures.nd rfl (Or.inl rfl) (pe_op op_fdivB (pv 0) (pv 1)))
  (pss_one (ps_set (i:=2) sc_law_figures.nd rfl (Or.inl rfl) (pe_op op_addS (pe_ix ix_str (pe_str) (pe_op op_modP (pv 0) (pv 1)) (fun _ _=>rfl)) (pv 2))))))
  (pss_one (ps_ret (pv 2)))),?_⟩
 walk_at "st"
 obtain ⟨N,rfl⟩:=Int.eq_ofNat_of_zero_le h1
 obtain ⟨m,rfl⟩:=Int.eq_ofNat_of_zero_le (show 0≤b by omega)
 have hz:=figs_240 (b:=m) (n:=N) (by omega) (by omega)
 have em : ∀ k:Nat,(k:Int) % (m:Int)=((k % m:Nat):Int):=fun k=>(Int.natCast_emod k m).symm
 have ed : ∀ k:Nat,(k:Int) / (m:Int)=((k / m:Nat):Int):=fun k=>(Int.natCast_ediv k m).symm
 have lm : ∀ k:Nat,k % m < m:=fun k=>Nat.mod_lt k (by omega)
 simp only [Int.toNat_natCast] at q
 have l0:=lm N
 have e0:=em N
 walk_at "rd"
 rw [em N,Int.toNat_natCast]
 refine r_while (fun k σ H'=>H'=H ∧ ∃ l:List Nat,σ=[some (.int k),some (.int m),some (.str (T l))]∧figs m N=if k < m then l else figs m (k / m)++l) ⟨N,rfl,[fc (N % m)],rfl,?_⟩ ?_
 ·split
  ·rename_i z;rw [figs_lt z,Nat.mod_eq_of_lt z]
  ·rename_i z;exact figs_ge (by omega) (by omega)
 ·rintro k σ H' ⟨rfl,l,rfl,e⟩
  have lk:=lm (k / m)
  have ek:=em (k / m)
  have ek':=ed k
  have ll:l.length≤240:=by
   have z:=congrArg List.length e
   split at z
   ·omega
   ·rw [List.length_append] at z;omega
  walk_at "rd"
  ·rename_i hc
   rw [ed k,em (k / m)]
   walk_at "rd"
   refine ⟨k / m,Nat.div_lt_self (by omega) (by omega),rfl,fc (k / m % m)::l,rfl,?_⟩
   rw [e,if_neg (by omega),figs_turn (by omega) l]
   have dz:=Nat.div_eq_zero_iff_lt (x:=k / m) (show 0 < m by omega)
   by_cases z:k / m < m
   ·rw [if_pos z,if_pos (dz.mpr z)]
   ·rw [if_neg z,if_neg (fun y=>z (dz.mp y))]
  ·rename_i hc
   rw [if_pos (by omega)] at e
   rw [← e];exact q
theorem body_cast {n b:Int} {t:Nat} (h0:0≤n) (h1:0≤b):(n / b ^ t).toNat=n.toNat / b.toNat ^ t∧(n % b ^ t).toNat=n.toNat % b.toNat ^ t:=by
 obtain ⟨N,rfl⟩:=Int.eq_ofNat_of_zero_le h0
 obtain ⟨B,rfl⟩:=Int.eq_ofNat_of_zero_le h1
 have e:((B:Int) ^ t)=((B ^ t:Nat):Int):=by simp
 rw [e]
 exact ⟨by rw [← Int.natCast_ediv,Int.toNat_natCast,Int.toNat_natCast,Int.toNat_natCast],by rw [← Int.natCast_emod,Int.toNat_natCast,Int.toNat_natCast,Int.toNat_natCast]⟩
theorem lim_60 {fg pl b n:Int} (o1:1≤fg) (o2:fg≤12) (o3:0≤pl) (o4:pl≤6) (o5:2≤b) (o6:b≤16) (h0:0≤n) (h:LimN fg pl b n):n < 1766847064778384329583297500742918515827483896875618958121606201292619776:=by
 unfold LimN at h
 have a:=pw60 (b:=b) (n:=(fg+pl).toNat) o5 o6 (by omega)
 have e:((b.toNat ^ (fg+pl).toNat:Nat):Int)=b ^ (fg+pl).toNat:=by rw [Int.natCast_pow,Int.toNat_of_nonneg (by omega)]
 omega
theorem gr_one {z m:Nat} {a:List Nat} (h:0 < a.length):gr z m (a.drop (a.length - 1))=[a.getD (a.length - 1) 0]:=by
 rw [gr_turn (k:=0) h,if_neg (by omega),Nat.sub_zero,Nat.sub_zero,List.drop_length,show gr z m []=[] by unfold gr;rw [List.reverse_nil,RJ_le (by simp)];rfl];rfl
theorem ok_law_body {f:Addr} {fd:FuncData} (F:Fun K "_law_body" "_law_body" s_law_body f fd) (B:Blt mg) (C_law_power:Has P w K mg base "_law_power" 1 ["_law_base", "_law_times"] (sp_law_power K)) (C_law_figures:Has P w K mg base "_law_figures" 1 ["_law_number", "_law_base"] (sp_law_figures K)):FnOk P w K mg base CX0 2 f fd ["_law_steps", "_law_spec"] (sp_law_body K):=by
 refine F.ok sc_law_body (fun vs H Q E h=>?_) (fun cdv A outer s H vs Q E hr h=>?_)
 ·obtain ⟨n,p,fg,pl,b,sn,z,m,pt,wy,wd,f,x,st,rfl,hp,ok,h0,h1,q⟩:=h
  rfl
 obtain ⟨n,p,fg,pl,b,sn,z,m,pt,wy,wd,f,x,st,rfl,hp,ok,h0,h1,q⟩:=h
 refine ⟨_,pss_cons (ps_asg (pe_slice sl_tup (pv 1) (po_some (pe_int)) (po_some (pe_int))) (pg_tup rfl (pgs_cons (pg_name (i:=2) sc_law_body.nd rfl (Or.inl rfl)) (pgs_cons (pg_name (i:=3) sc_law_body.nd rfl (Or.inl rfl)) (pgs_nil)))))
  (pss_cons (ps_asg (pe_slice sl_tup (pv 1) (po_some (pe_int)) (po_some (pe_int))) (pg_tup rfl (pgs_cons (pg_name (i:=4) sc_law_body.nd rfl (Or.inl rfl)) (pgs_cons (pg_name (i:=5) sc_law_body.nd rfl (Or.inl rfl)) (pgs_cons (pg_name (i:=6) sc_law_body.nd rfl (Or.inl rfl)) (pgs_nil))))))
  (pss_cons (ps_set (i:=7) sc_law_body.nd rfl (Or.inl rfl) (pe_callH C_law_power hr rfl (pa_cons (pv 3) (pa_cons (pv 2) (pa_nil)))))
  (pss_cons (ps_set (i:=8) sc_law_body.nd rfl (Or.inl rfl) (pe_callH C_law_figures hr rfl (pa_cons (pe_op op_fdivB (pv 0) (pv 7)) (pa_cons (pv 3) (pa_nil)))))
  (pss_cons (ps_set (i:=9) sc_law_body.nd rfl (Or.inl rfl) (pe_ix ix_str (pv 8) (pe_un un_neg (pe_int)) (fun _ _=>rfl)))
  (pss_cons (ps_for PassesOwn.never rfl (pi_range2 rfl B.z_range (pa_cons (pe_int) (pa_cons (pe_callBH call_lenT B.z_len rfl bo_len (pa_cons (pv 8) (pa_nil))) (pa_nil)))) (pg_name (i:=10) sc_law_body.nd rfl (Or.inl rfl)) (pss_cons (ps_if (PW.pt (pw_and (pt_cmpR op_gt (pv 4) (pe_int) (nomark _)) (pw_and1 (pt_cmpR op_eq (pe_op op_modP (pv 10) (pv 4)) (pe_int) (nomark _))))) (pss_one (ps_set (i:=9) sc_law_body.nd rfl (Or.inl rfl) (pe_op op_addS (pv 5) (pv 9)))) (pss_nil))
  (pss_one (ps_set (i:=9) sc_law_body.nd rfl (Or.inl rfl) (pe_op op_addS (pe_ix ix_str (pv 8) (pe_op op_sub (pe_op op_sub (pe_callBH call_lenT B.z_len rfl bo_len (pa_cons (pv 8) (pa_nil))) (pe_int)) (pv 10)) (fun _ _=>rfl)) (pv 9))))))
  (pss_cons (ps_if (pt_cmpR op_eq (pv 2) (pe_int) (nomark _)) (pss_one (ps_ret (pv 9))) (pss_nil))
  (pss_cons (ps_set (i:=11) sc_law_body.nd rfl (Or.inl rfl) (pe_callH C_law_figures hr rfl (pa_cons (pe_op op_modP (pv 0) (pv 7)) (pa_cons (pv 3) (pa_nil)))))
  (pss_one (ps_ret (pe_op op_addS (pe_op op_addS (pe_op op_addS (pv 9) (pv 6)) (pe_op op_mulT (pe_strT (l:=[48]) (by decide +kernel)) (pe_op op_sub (pv 2) (pe_callBH call_lenT B.z_len rfl bo_len (pa_cons (pv 11) (pa_nil)))))) (pv 11))))))))))),?_⟩
 walk_at "st"
 unfold SpecN at hp
 have o1:=ok.fg1;have o2:=ok.fg2;have o3:=ok.pl1;have o4:=ok.pl2;have o5:=ok.b1;have o6:=ok.b2;have o7:=ok.z1;have o8:=ok.z2
 have pw:=pw6 (b:=b) (t:=pl) o5 o6 o4
 have lim:=lim_60 o1 o2 o3 o4 o5 o6 h0 h1
 have d0:0≤n / b ^ pl.toNat:=Int.ediv_nonneg h0 (by omega)
 have d1:n / b ^ pl.toNat≤n:=Int.ediv_le_self _ h0
 have m0:=Int.emod_nonneg n (show b ^ pl.toNat≠0 by omega)
 have m1:=Int.emod_lt_of_pos n (show 0 < b ^ pl.toNat by omega)
 obtain ⟨c1,c2⟩:=body_cast (t:=pl.toNat) h0 (show 0≤b by omega)
 have bd:=bdy_div (b:=b.toNat) (p:=pl.toNat) (pt:=pt) (z:=z.toNat) (m:=m) (n:=n.toNat) (by omega)
 rw [← c1,← c2] at bd
 have a1:=figs_pos (b:=b.toNat) (n:=(n / b ^ pl.toNat).toNat) (by omega)
 have a2:=figs_240 (b:=b.toNat) (n:=(n / b ^ pl.toNat).toNat) (by omega) (by omega)
 have r1:=figs_pos (b:=b.toNat) (n:=(n % b ^ pl.toNat).toNat) (by omega)
 have r2:=figs_240 (b:=b.toNat) (n:=(n % b ^ pl.toNat).toNat) (by omega) (by omega)
 walk_at "rd"
 refine r_slT (n:=13) hp rfl (by decide) fun p1 H1 g1 e1=>?_
 have e1':H1 p1=some (.tup [.int pl,.int b]):=e1
 clear e1
 walk_at "rd"
 refine r_slT (n:=13) (g1.at hp) rfl (by decide) fun p2 H2 g2 e2=>?_
 have e2':H2 p2=some (.tup [.int z,.str (T [m]),.str (T [pt])]):=e2
 clear e2
 walk_at "rd"
 generalize figs b.toNat (n / b ^ pl.toNat).toNat=a at *
 have gl:=gr_len (z:=z.toNat) (m:=m) (a:=a)
 refine r_kForR2 (by omega) (fun i σ H'=>H'=H2 ∧ ∃ r:Option V,σ=[some (.int n),some (.ref p),some (.int pl),some (.int b),some (.int z),some (.str (T [m])),some (.str (T [pt])),some (.int (b ^ pl.toNat)),some (.str (T a)),some (.str (T (gr z.toNat m (a.drop (a.length - (i+1)))))),r,none]) ⟨rfl,none,by rw [gr_one a1];rfl⟩ ?_ ?_
 ·rintro i σ H' hi ⟨rfl,r,rfl⟩
  have hl:=gr_len (z:=z.toNat) (m:=m) (a:=a.drop (a.length - (i+1)))
  rw [List.length_drop] at hl
  have tn:=gr_turn (z:=z.toNat) (m:=m) (a:=a) (k:=i+1) (by omega)
  obtain ⟨Z,rfl⟩:=Int.eq_ofNat_of_zero_le o7
  have em:(1+(i:Int)) % (Z:Int)=(((i+1) % Z:Nat):Int):=by rw [Int.natCast_emod,Int.natCast_add,Int.add_comm];rfl
  rw [Int.toNat_natCast] at *
  have ei:((a.length:Int) - 1 - (1+(i:Int))).toNat=a.length - 1 - (i+1):=by omega
  walk_at "rd"
  ·refine ⟨rfl,some (.int (1+i)),?_⟩
   rw [tn,if_pos ⟨by omega,by omega,by omega⟩,ei];rfl
  ·refine ⟨rfl,some (.int (1+i)),?_⟩
   rw [tn,if_neg (by omega),ei];rfl
  ·refine ⟨rfl,some (.int (1+i)),?_⟩
   rw [tn,if_neg (by omega),ei];rfl
 ·rintro σ H' ⟨rfl,r,rfl⟩
  rw [show a.length - (((a.length:Int) - 1).toNat+1)=0 by omega,List.drop_zero]
  have q':=q _ (g1.trans g2)
  unfold bdI at q'
  rw [bd] at q'
  generalize gr z.toNat m a=ga at *
  walk_at "rd"
  ·rw [if_pos (by omega)] at q';exact q'
  ·rw [if_neg (by omega)] at q'
   unfold pz at q'
   generalize figs b.toNat (n % b ^ pl.toNat).toNat=rr at *
   rw [show pl.toNat - rr.length=(pl - rr.length).toNat by omega,← List.append_assoc] at q'
   exact q'
theorem parts_nil {a:V} {B:List Nat} {sn:Str} {bl:Bool} (h:stT sn bl=[]):some (HO.tup [a,.str (T B)])=some (.tup [a,.str (T (B++stT sn bl))]):=by rw [h,List.append_nil]
theorem ok_law_parts {f:Addr} {fd:FuncData} (F:Fun K "_law_parts" "_law_parts" s_law_parts f fd) (B:Blt mg) (C_law_body:Has P w K mg base "_law_body" 2 ["_law_steps", "_law_spec"] (sp_law_body K)):FnOk P w K mg base CX0 3 f fd ["_law_steps", "_law_spec"] (sp_law_parts K):=by
 refine F.ok sc_law_parts (fun vs H Q E h=>?_) (fun cdv A outer s H vs Q E hr h=>?_)
 ·obtain ⟨k,p,fg,pl,b,sn,z,m,pt,wy,wd,f,x,st,rfl,hp,ok,h1,q⟩:=h
  rfl
 obtain ⟨k,p,fg,pl,b,sn,z,m,pt,wy,wd,f,x,st,rfl,hp,ok,h1,q⟩:=h
 refine ⟨_,pss_cons (ps_set (i:=2) sc_law_parts.nd rfl (Or.inl rfl) (pe_callH C_law_body hr rfl (pa_cons (pe_callBH call_absN B.z_abs rfl bo_abs (pa_cons (pv 0) (pa_nil))) (pa_cons (pv 1) (pa_nil)))))
  (pss_cons (ps_if (PW.pt (pw_and (pt_cmpR op_eq (pe_ix ix_tup (pv 1) (pe_int) (fun _ _=>rfl)) (pe_str) (nomark _)) (pw_and1 (pt_cmpR op_lt (pv 0) (pe_int) (nomark _))))) (pss_one (ps_ret (pe_tup (pa_cons (pe_strT (l:=[40]) (by decide +kernel)) (pa_cons (pe_op op_addS (pv 2) (pe_strT (l:=[41]) (by decide +kernel))) (pa_nil)))))) (pss_nil))
  (pss_cons (ps_if (PW.pt (pw_and (pt_cmpR op_eq (pe_ix ix_tup (pv 1) (pe_int) (fun _ _=>rfl)) (pe_str) (nomark _)) (pw_and1 (pt_cmpR op_lt (pv 0) (pe_int) (nomark _))))) (pss_one (ps_ret (pe_tup (pa_cons (pe_strT (l:=[]) (by decide +kernel)) (pa_cons (pe_op op_addS (pv 2) (pe_strT (l:=[45]) (by decide +kernel))) (pa_nil)))))) (pss_nil))
  (pss_cons (ps_if (pt_cmpR op_lt (pv 0) (pe_int) (nomark _)) (pss_one (ps_ret (pe_tup (pa_cons (pe_strT (l:=[45]) (by decide +kernel)) (pa_cons (pv 2) (pa_nil)))))) (pss_nil))
  (pss_cons (ps_if (pt_cmpR op_eq (pe_ix ix_tup (pv 1) (pe_int) (fun _ _=>rfl)) (pe_str) (nomark _)) (pss_one (ps_ret (pe_tup (pa_cons (pe_strT (l:=[43]) (by decide +kernel)) (pa_cons (pv 2) (pa_nil)))))) (pss_nil))
  (pss_cons (ps_if (pt_cmpR op_eq (pe_ix ix_tup (pv 1) (pe_int) (fun _ _=>rfl)) (pe_str) (nomark _)) (pss_one (ps_ret (pe_tup (pa_cons (pe_strT (l:=[32]) (by decide +kernel)) (pa_cons (pv 2) (pa_nil)))))) (pss_nil))
  (pss_one (ps_ret (pe_tup (pa_cons (pe_strT (l:=[]) (by decide +kernel)) (pa_cons (pv 2) (pa_nil))))))))))),?_⟩
 walk_at "st"
 have hp0:=hp
 unfold SpecN at hp
 walk_at "rd"
 rename_i k' hk'
 obtain rfl:k'=(k.natAbs:Int):=by omega
 obtain ⟨nb,n2,n3,n4⟩:=ncore_ok ok h1
 have n5:(bdI k.natAbs b pl pt z m).length≤400:=by
  unfold ncore sg at n4
  rw [List.length_append,List.length_append] at n4;omega
 refine c_lbody hp0 ok (by omega) (by unfold LimN;rw [Int.natAbs_natCast];exact h1) fun H1 g1=>?_
 unfold nrest at q
 have hp1:=g1.at hp
 generalize bdI k.natAbs b pl pt z m=B at *
 clear hp
 rcases ok.sn with rfl | rfl | rfl | rfl | rfl
 all_goals walk_at "rd"
 all_goals rename_i hc p2 H2 g2 e2
 all_goals first | rw [decide_eq_true hc] at q | rw [decide_eq_false hc] at q
 all_goals refine q _ _ (g1.trans g2) (e2.trans ?_)
 all_goals first | rfl | exact parts_nil rfl
theorem ok_law_filled {f:Addr} {fd:FuncData} (F:Fun K "_law_filled" "_law_filled" s_law_filled f fd) (B:Blt mg):FnOk P w K mg base CX0 1 f fd ["_law_lead", "_law_rest", "_law_spec"] (sp_law_filled K):=by
 refine F.ok sc_law_filled (fun vs H Q E h=>?_) (fun cdv A outer s H vs Q E hr h=>?_)
 ·obtain ⟨ld,rs,p,fg,pl,b,sn,z,m,pt,wy,wd,f,x,st,rfl,hp,ok,h1,h2,q⟩:=h
  rfl
 obtain ⟨ld,rs,p,fg,pl,b,sn,z,m,pt,wy,wd,f,x,st,rfl,hp,ok,h1,h2,q⟩:=h
 refine ⟨_,pss_cons (ps_par3 (i:=3) (j:=4) (k:=5) rfl sc_law_filled.nd rfl rfl rfl rfl rfl rfl (pa_cons (pe_ix ix_tup (pv 2) (pe_un un_neg (pe_int)) (fun _ _=>rfl)) (pa_cons (pe_ix ix_tup (pv 2) (pe_un un_neg (pe_int)) (fun _ _=>rfl)) (pa_cons (pe_ix ix_tup (pv 2) (pe_un un_neg (pe_int)) (fun _ _=>rfl)) (pa_nil)))) rfl)
  (pss_cons (ps_set (i:=6) sc_law_filled.nd rfl (Or.inl rfl) (pe_callBH (call_max2N rfl) B.z_max rfl bo_max (pa_cons (pe_int) (pa_cons (pe_op op_sub (pe_op op_sub (pv 3) (pe_callBH call_lenT B.z_len rfl bo_len (pa_cons (pv 0) (pa_nil)))) (pe_callBH call_lenT B.z_len rfl bo_len (pa_cons (pv 1) (pa_nil)))) (pa_nil)))))
  (pss_cons (ps_if (pt_cmpR op_eq (pv 5) (pe_str) (nomark _)) (pss_one (ps_ret (pe_op op_addS (pe_op op_addS (pv 0) (pe_op op_mulT (pv 4) (pv 6))) (pv 1)))) (pss_nil))
  (pss_cons (ps_set (i:=7) sc_law_filled.nd rfl (Or.inl rfl) (pe_ix ix_list (pe_lst (pa_cons (pe_int) (pa_cons (pv 6) (pa_cons (pe_op op_fdivB (pv 6) (pe_int)) (pa_nil))))) (pe_bm PySem.F.plainAttrs_list PySem.F.slot_list_index PySem.F.type_list_index mt_indexT (pe_lst (pa_cons (pe_str) (pa_cons (pe_str) (pa_cons (pe_str) (pa_nil))))) (pa_cons (pv 5) (pa_nil))) (fun _ _=>rfl)))
  (pss_one (ps_ret (pe_op op_addS (pe_op op_addS (pe_op op_addS (pe_op op_mulT (pv 4) (pv 7)) (pv 0)) (pv 1)) (pe_op op_mulT (pv 4) (pe_op op_sub (pv 6) (pv 7))))))))),?_⟩
 walk_at "st"
 unfold SpecN at hp
 have w0:=ok.wd1;have w1:=ok.wd2
 have lt:((ld++rs).length:Int)=ld.length+rs.length:=by rw [List.length_append];omega
 have bl:=lk_bd (ld++rs).length wd (by omega) w1
 have bi:=lk_bd rs.length (wd - ld.length) (by omega) (by omega)
 unfold nfil at q
 walk_at "rd"
 ·rename_i k' hk' hc
  rw [if_pos hc,List.drop_left] at q
  have e1:k'=lk rs.length (wd - ld.length):=by omega
  have q':=q _ (Same.refl _)
  unfold pad at q'
  rw [show pB "right" rs.length (wd - ld.length)=0 by unfold pB;rw [pAr];omega,pAr] at q'
  subst e1
  rw [show Int.toNat 0=0 from rfl,List.replicate_zero,List.append_nil,← List.append_assoc] at q'
  exact q'
 ·rename_i k0 hk0 hc q2 H2 g2 e2 q3 H3 g3 e3
  have sx:Side x:=ok.x.elim id fun z=>absurd z hc
  have pb:=pads_bd (n:=(ld++rs).length) sx (by omega) w1
  have hk:k0=lk (ld++rs).length wd:=by omega
  clear hk0
  subst hk
  have fin : ∃ j:Nat,(["left", "right", "middle"]:List Str)[j]? = some x∧(∀ m,m < j→(["left", "right", "middle"]:List Str)[m]? ≠ some x)∧j < 1000∧atI [V.int 0,V.int (lk (ld++rs).length wd),V.int (lk (ld++rs).length wd / 2)] j=some (.int (pA x (ld++rs).length wd)):=by
   rcases sx with rfl | rfl | rfl
   ·exact ⟨0,rfl,fun m hm=>absurd hm (Nat.not_lt_zero m),by decide,by rw [pAl];rfl⟩
   ·exact ⟨1,rfl,fun m hm=>by rw [show m=0 by omega];decide +kernel,by decide,by rw [pAr];rfl⟩
   ·exact ⟨2,rfl,fun m hm=>by rcases (show m=0∨m=1 by omega) with rfl | rfl <;> decide +kernel,by decide,by rw [pAm];rfl⟩
  obtain ⟨j,j1,j2,j3,j4⟩:=fin
  obtain ⟨b1,b2,b3,_⟩:=pb
  have e4:pB x (ld++rs).length wd=lk (ld++rs).length wd - pA x (ld++rs).length wd:=rfl
  refine r_indexT (zs:=["left", "right", "middle"]) j e3 j1 j2 j3 ?_
  refine r_ixL (SqL.of (g3.at e2)) j4 ?_
  have q':=q _ (g2.trans g3)
  rw [if_neg hc] at q'
  unfold pad at q'
  rw [e4,← List.append_assoc] at q'
  clear q j4 e2 bi
  generalize pA x ((ld++rs).length:Int) wd=A at *
  generalize lk ((ld++rs).length:Int) wd=L at *
  walk_at "rd"
  exact q'
theorem figs_mono {b : Nat} (h2 : 2 ≤ b) : ∀ (n k : Nat), k ≤ n → (figs b k).length ≤ (figs b n).length := by
  intro n
  induction n using Nat.strongRecOn with
  | ind n ih =>
    intro k hk
    rcases Nat.lt_or_ge n b with h | h
    · rw [figs_lt h, figs_lt (show k < b by omega)]; exact Nat.le_refl _
    · rcases Nat.lt_or_ge k b with h' | h'
      · rw [figs_lt h']; exact figs_pos h2
      · rw [figs_ge h2 h, figs_ge h2 h', List.length_append, List.length_append]
        have := ih (n / b) (Nat.div_lt_self (by omega) (by omega)) (k / b) (Nat.div_le_div_right hk)
        simp; omega
def glen (z n:Nat):Nat:=n+(if 0 < z then (n - 1) / z else 0)
theorem glen_mono {z a b:Nat} (h:a≤b):glen z a≤glen z b:=by
 unfold glen
 split
 ·have:=Nat.div_le_div_right (c:=z) (show a - 1≤b - 1 by omega);omega
 ·omega
theorem glen_two {z a:Nat}:glen z a≤2*a:=by
 unfold glen
 split
 ·have:=Nat.div_le_self (a - 1) z;omega
 ·omega
theorem gr_length {z m:Nat} {a:List Nat} (h:1≤a.length):(gr z m a).length=glen z a.length:=by
 unfold glen
 rcases Nat.eq_zero_or_pos z with p | p
 ·subst p;rw [gr_zero,if_neg (by omega)];omega
 ·rw [if_pos p];unfold gr;rw [List.length_reverse,RJ_length p _ _ (Nat.le_refl _) (by rw [List.length_reverse];exact h),List.length_reverse]
theorem bdy_length {b p pt z m n:Nat} (h2:2≤b):(bdy b p pt z m n).length=glen z (figs b (n / b ^ p)).length+(if p=0 then 0 else 1+p):=by
 have w:=whl_low (b:=b) (p:=p) (n:=n) h2
 have g:=gr_length (z:=z) (m:=m) (a:=figs b (n / b ^ p)) (figs_pos h2)
 unfold bdy
 rw [w.1,w.2]
 split
 ·rw [g];rfl
 ·rw [List.length_append,List.length_append,g,low_len];simp;omega
theorem ncore_mono {pl b:Int} {sn:Str} {z:Int} {m pt:Nat} {k k':Int} (hb:2≤b) (h0:0≤k) (h:k≤k'):(ncore pl b sn z m pt k).length≤(ncore pl b sn z m pt k').length:=by
 unfold ncore sg bdI
 rw [decide_eq_false (show ¬ k < 0 by omega),decide_eq_false (show ¬ k' < 0 by omega)]
 simp only [List.length_append]
 rw [bdy_length (by omega),bdy_length (by omega)]
 have:=glen_mono (z:=z.toNat) (figs_mono (b:=b.toNat) (by omega) _ _ (Nat.div_le_div_right (c:=b.toNat ^ pl.toNat) (show (k.natAbs:Int).toNat≤(k'.natAbs:Int).toNat by omega)))
 omega
theorem ncore_33 {fg pl b:Int} {sn:Str} {z:Int} {m pt:Nat} {wy:Str} {wd:Int} {f:Nat} {x:Str} {k:Int} (ok:NumS fg pl b sn z m pt wy wd f x) (lim:LimN fg pl b k):(ncore pl b sn z m pt k).length≤33:=by
 have o1:=ok.fg1;have o2:=ok.fg2;have o3:=ok.pl1;have o4:=ok.pl2;have o5:=ok.b1;have o6:=ok.b2
 have sl:=st_len ok.sn (decide (k < 0))
 unfold LimN at lim
 unfold ncore sg bdI
 simp only [List.length_append]
 rw [bdy_length (by omega)]
 have e:(k.natAbs:Int).toNat=k.natAbs:=by omega
 rw [e]
 have d:k.natAbs / b.toNat ^ pl.toNat < b.toNat ^ (fg.toNat - 1+1):=by
  refine Nat.div_lt_of_lt_mul ?_
  rw [← Nat.pow_add,show pl.toNat+(fg.toNat - 1+1)=(fg+pl).toNat by omega]
  exact lim
 have l:=figs_len (b:=b.toNat) (by omega) _ _ d
 have g:=glen_two (z:=z.toNat) (a:=(figs b.toNat (k.natAbs / b.toNat ^ pl.toNat)).length)
 split <;> omega
def sp_fraction (K:W.Frag):Sp:=fun vs H Q _=>∃ t b:Int,vs=[.int t,.int b]∧0 < b∧b < 10000000000000000000000000000000000000000000000000000000000000000000000000000000000000000000000000000000000000000000000000000000000000000000000000000000000000000000000000000000000000000000000 ∧ ∀ p H',Same H H'→H' p=some (.tup [.int (low1 t b),.int (low2 t b)])→Q (.ref p) H'
theorem c_fraction {K:W.Frag} {t b:Int} {H:Hp} {Q:VK} {E:XK} (h1:0 < b) (h2:b < 10000000000000000000000000000000000000000000000000000000000000000000000000000000000000000000000000000000000000000000000000000000000000000000000000000000000000000000000000000000000000000000000) (q : ∀ p H',Same H H'→H' p=some (.tup [.int (low1 t b),.int (low2 t b)])→Q (.ref p) H'):sp_fraction K ([.int t,.int b]++[]) H Q E:=⟨t,b,rfl,h1,h2,q⟩
theorem ok_fraction {f:Addr} {fd:FuncData} (F:Fun K "fraction" "fraction" s_fraction f fd) (B:Blt mg) (C_common_divisor:Has P w K mg base "common_divisor" 1 ["one", "other"] (sp_common_divisor K)) (C_is_whole:Has P w K mg base "is_whole" 1 ["thing"] (sp_is_whole K)):FnOk P w K mg base CX0 2 f fd ["top", "bottom"] (sp_fraction K):=by
 refine F.ok sc_fraction (fun vs H Q E h=>?_) (fun cdv A outer s H vs Q E hr h=>?_)
 ·obtain ⟨t,b,rfl,hb,h1,q⟩:=h
  rfl
 obtain ⟨t,b,rfl,hb,h1,q⟩:=h
 refine ⟨_,pss_cons (ps_if (PW.pt (pw_or (pt_not (pt_val (pe_callH C_is_whole hr rfl (pa_cons (pv 0) (pa_nil))))) (pw_or1 (pt_not (pt_val (pe_callH C_is_whole hr rfl (pa_cons (pv 1) (pa_nil)))))))) (pss_one (ps_never)) (pss_nil))
  (pss_cons (ps_if (pt_cmpR op_eq (pv 1) (pe_int) (nomark _)) (pss_one (ps_never)) (pss_nil))
  (pss_cons (ps_set (i:=2) sc_fraction.nd rfl (Or.inl rfl) (pe_callH C_common_divisor hr rfl (pa_cons (pv 0) (pa_cons (pv 1) (pa_nil)))))
  (pss_cons (ps_if (pt_cmpR op_lt (pv 1) (pe_int) (nomark _)) (pss_one (ps_set (i:=2) sc_fraction.nd rfl (Or.inl rfl) (pe_un un_neg (pv 2)))) (pss_nil))
  (pss_one (ps_ret (pe_tup (pa_cons (pe_op op_fdivB (pv 0) (pv 2)) (pa_cons (pe_op op_fdivB (pv 1) (pv 2)) (pa_nil))))))))),?_⟩
 walk_at "st"
 have e0:0 < (Int.gcd t b:Int):=by have:=Int.gcd_pos_of_ne_zero_right t (show b≠0 by omega);omega
 have e1:(Int.gcd t b:Int)≤b.natAbs:=by have:=Int.gcd_le_natAbs_right (a:=t) (b:=b) (by omega);omega
 walk_at "rd"
 refine q _ _ (by walk_at "sm") ?_
 unfold low1 low2 lowS;rw [if_neg (show ¬ b < 0 by omega),Int.fdiv_eq_ediv_of_nonneg _ (Int.le_of_lt e0),Int.fdiv_eq_ediv_of_nonneg _ (Int.le_of_lt e0)];assumption
local macro_rules | `(tactic| walk_at "rdc")=>`(tactic| ((with_reducible refine' c_fraction ?h1 ?h2 ?_);(case h1=>omega);(case h2=>omega);intro p' H' g' e'))
def sp_grid_value (K:W.Frag):Sp:=fun vs H Q _=>∃ k c t:Int,vs=[.int k,.int c,.int t]∧2≤c∧c≤16∧0≤t∧t≤6 ∧ ∀ p H',Same H H'→H' p=some (.tup [.int (low1 k (c ^ t.toNat)),.int (low2 k (c ^ t.toNat))])→Q (.ref p) H'
theorem c_grid_value {K:W.Frag} {k c t:Int} {H:Hp} {Q:VK} {E:XK} (h1:2≤c) (h2:c≤16) (h3:0≤t) (h4:t≤6) (q : ∀ p H',Same H H'→H' p=some (.tup [.int (low1 k (c ^ t.toNat)),.int (low2 k (c ^ t.toNat))])→Q (.ref p) H'):sp_grid_value K ([.int k,.int c,.int t]++[]) H Q E:=⟨k,c,t,rfl,h1,h2,h3,h4,q⟩
theorem ok_grid_value {f:Addr} {fd:FuncData} (F:Fun K "grid_value" "grid_value" s_grid_value f fd) (B:Blt mg) (C_fraction:Has P w K mg base "fraction" 2 ["top", "bottom"] (sp_fraction K)) (C_power_of:Has P w K mg base "power_of" 1 ["base", "times"] (sp_power_of K)):FnOk P w K mg base CX0 3 f fd ["k", "base", "places"] (sp_grid_value K):=by
 refine F.ok sc_grid_value (fun vs H Q E h=>?_) (fun cdv A outer s H vs Q E hr h=>?_)
 ·obtain ⟨k,c,t,rfl,h1,h2,h3,h4,q⟩:=h
  rfl
 obtain ⟨k,c,t,rfl,h1,h2,h3,h4,q⟩:=h
 refine ⟨_,pss_one (ps_ret (pe_callH C_fraction hr rfl (pa_cons (pv 0) (pa_cons (pe_callH C_power_of hr rfl (pa_cons (pv 1) (pa_cons (pv 2) (pa_nil)))) (pa_nil))))),?_⟩
 walk_at "st"
 have z:=pw6 (t:=t) h1 h2 h4
 walk_at "rd"
 exact q _ _ (by walk_at "sm") (by assumption)
local macro_rules | `(tactic| walk_at "rdc")=>`(tactic| ((with_reducible refine' c_grid_value ?h1 ?h2 ?h3 ?h4 ?_);(case h1=>omega);(case h2=>omega);(case h3=>omega);(case h4=>omega);intro p' H' g' e'))
theorem grid_exact {w:Str} {a b P k:Int} (hb:0 < b) (h:a*P=b*k):grid w a b P=k:=by
 unfold grid
 rw [h,Int.mul_emod_right,if_neg (fun z=>absurd z.1 (by decide)),Int.mul_ediv_cancel_left _ (by omega)]
theorem grid_stays {w:Str} {k S:Int} (hS:0 < S):grid w (low1 k S) (low2 k S) S=k:=by
 refine grid_exact (low2_pos hS) ?_
 have h1:=low_mul1 k S
 have h2:=low_mul2 k S
 have e1:low1 k S*S=low1 k S*(low2 k S*lowS k S):=by rw [h2]
 have e2:low2 k S*k=low2 k S*(low1 k S*lowS k S):=by rw [h1]
 rw [e1,e2];ac_rfl
theorem low_gcd1 {t b:Int} (hb:0 < b):Int.gcd (low1 t b) (low2 t b)=1:=by
 unfold low1 low2 lowS
 have e0:(0:Int)≤(Int.gcd t b:Int):=by omega
 rw [if_neg (show ¬ b < 0 by omega),Int.fdiv_eq_ediv_of_nonneg _ e0,Int.fdiv_eq_ediv_of_nonneg _ e0]
 exact Int.gcd_ediv_gcd_ediv_gcd (Int.gcd_pos_of_ne_zero_right _ (show b≠0 by omega))
theorem low_grb {k S:Int} (hS:0 < S) (h1:S < 10000000000000000000000000000000000000000000000000000000000000000000000000000000000000000000000000000000000000000000000000000000000000000000000000000000000000000000000000000000000000000000000) (h2 : -10000000000000000000000000000000000000000000000000000000000000000000000000000000000000000000000000000000000000000000000000000000000000000000000000000000000000000000000000000000000000000000000 < k) (h3:k < 10000000000000000000000000000000000000000000000000000000000000000000000000000000000000000000000000000000000000000000000000000000000000000000000000000000000000000000000000000000000000000000000):GrB (low1 k S) (low2 k S):=low_bd hS h1 h2 h3
def kk (b pl:Int) (i:Nat):Int:=b ^ (1+(i:Int)+pl).toNat
theorem kk_pos {b pl:Int} {i:Nat} (h:2≤b):1≤kk b pl i:=by unfold kk;have:(0:Int) < b ^ (1+(i:Int)+pl).toNat:=Int.pow_pos (by omega);omega
theorem kk_nat {b pl:Int} {i:Nat} (h:2≤b):kk b pl i=((b.toNat ^ (1+(i:Int)+pl).toNat:Nat):Int):=by unfold kk;rw [Int.natCast_pow,Int.toNat_of_nonneg (by omega)]
theorem kk_mono {b pl:Int} {i:Nat} (h:2≤b):kk b pl i≤kk b pl (i+1):=by
 rw [kk_nat h,kk_nat h]
 have:=Nat.pow_le_pow_right (n:=b.toNat) (show b.toNat > 0 by omega) (show (1+(i:Int)+pl).toNat≤(1+((i+1:Nat):Int)+pl).toNat by omega)
 omega
theorem kk_lim {fg b pl:Int} {i:Nat} (h:2≤b) (h0:0≤pl) (hi:(i:Int)+1 < fg):LimN fg pl b (kk b pl i)∧LimN fg pl b (kk b pl i - 1):=by
 have p:=kk_pos (pl:=pl) (i:=i) h
 have e:=kk_nat (pl:=pl) (i:=i) h
 have lt:=Nat.pow_lt_pow_right (a:=b.toNat) (show 1 < b.toNat by omega) (show (1+(i:Int)+pl).toNat < (fg+pl).toNat by omega)
 unfold LimN
 omega
theorem kk_bd {b pl:Int} {i:Nat} (h:2≤b) (h':b≤16) (h0:0≤pl) (h1:pl≤6) (hi:i≤12):kk b pl i < 100000000000000000000000000000:=by
 have p:=(pw_bd h h' (1+(i:Int)+pl).toNat).2
 have q:=pw_mono (n:=(1+(i:Int)+pl).toNat) (m:=19) (by omega)
 have e:(16:Int) ^ 19=75557863725914323419136:=by decide
 unfold kk;omega
section
variable (pl b : Int) (sn : Str) (z : Int) (m pt : Nat) (wd : Int) (f : Nat) (x : Str) (st : Bool)
def wdB (i:Nat):Bool:=st && decide (wd < (ncore pl b sn z m pt (kk b pl i)).length)
def lsB (i:Nat):Bool:=ltT (nput pl b sn z m pt wd f x (kk b pl i - 1)) (nput pl b sn z m pt wd f x (kk b pl i))
def inO:Nat→Nat→Option Nat
 | 0,_=>none
 | n+1,i=>if wdB pl b sn z m pt wd st i=true then none else if lsB pl b sn z m pt wd f x i=true then inO n (i+1) else some i
def lput (k:Int):Option (List Nat):=if st=true∧wd < (ncore pl b sn z m pt k).length then none else some (nput pl b sn z m pt wd f x k)
variable {pl b sn z m pt wd f x st}
theorem inO_succ {n i:Nat}:inO pl b sn z m pt wd f x st (n+1) i=if wdB pl b sn z m pt wd st i=true then none else if lsB pl b sn z m pt wd f x i=true then inO pl b sn z m pt wd f x st n (i+1) else some i:=rfl
theorem wd_up {i:Nat} (hb:2≤b) (h:wdB pl b sn z m pt wd st i=true):wdB pl b sn z m pt wd st (i+1)=true:=by
 unfold wdB at h ⊢
 rw [Bool.and_eq_true,decide_eq_true_iff] at h ⊢
 have p:=kk_pos (pl:=pl) (i:=i) hb
 have:=ncore_mono (pl:=pl) (sn:=sn) (z:=z) (m:=m) (pt:=pt) hb (by omega) (kk_mono (pl:=pl) (i:=i) hb)
 exact ⟨h.1,by omega⟩
theorem not_wd {i:Nat} (hb:2≤b) (h : ¬ wdB pl b sn z m pt wd st i=true) : ¬ (st=true∧wd < (ncore pl b sn z m pt (kk b pl i)).length) ∧ ¬ (st=true∧wd < (ncore pl b sn z m pt (kk b pl i - 1)).length):=by
 unfold wdB at h
 rw [Bool.and_eq_true,decide_eq_true_iff] at h
 have p:=kk_pos (pl:=pl) (i:=i) hb
 have:=ncore_mono (pl:=pl) (sn:=sn) (z:=z) (m:=m) (pt:=pt) (k:=kk b pl i - 1) (k':=kk b pl i) hb (by omega) (by omega)
 exact ⟨h,fun y=>h ⟨y.1,by omega⟩⟩
end
def sp_in_order (K:W.Frag) (C:Addr):Sp:=fun vs H Q _=>∃ (o:Addr) (fg pl b:Int) (sn:Str) (z:Int) (m pt:Nat) (wy:Str) (wd:Int) (f:Nat) (x:Str) (st:Bool),vs=[.ref o]∧FormAt K H o C wd f x st (nmore fg pl b sn z m pt wy)∧NumS fg pl b sn z m pt wy wd f x ∧
 (inO pl b sn z m pt wd f x st (fg - 1).toNat 0=none → ∀ H',Same H H'→Q .non H') ∧
 (∀ i,inO pl b sn z m pt wd f x st (fg - 1).toNat 0=some i→(i:Int)+1 < fg → ∀ p p1 p2 H',Same H H'→H' p=some (.tup [.ref p1,.ref p2])→H' p1=some (.tup [.int (low1 (kk b pl i - 1) (b ^ pl.toNat)),.int (low2 (kk b pl i - 1) (b ^ pl.toNat))])→H' p2=some (.tup [.int (low1 (kk b pl i) (b ^ pl.toNat)),.int (low2 (kk b pl i) (b ^ pl.toNat))])→Q (.ref p) H')
local macro_rules | `(tactic| walk_at "rdc")=>`(tactic| (with_reducible refine r_ltT ?_))
theorem ok_in_order {f:Addr} {fd:FuncData} (F:Fun K "in_order" "in_order" s_in_order f fd) (B:Blt mg) {c_NumberForm:Addr} (cl_NumberForm:Cls K c_NumberForm) (C_power_of:Has P w K mg base "power_of" 1 ["base", "times"] (sp_power_of K)) (C_grid_value:Has P w K mg base "grid_value" 3 ["k", "base", "places"] (sp_grid_value K)) (M_NumberForm_is_too_wide:HasM P w K mg base CX0 c_NumberForm "is_too_wide" 1 ["self", "core"] (sp_Form_is_too_wide K c_NumberForm)) (M_NumberForm_core:HasM P w K mg base CX0 c_NumberForm "core" 4 ["self", "value"] (sp_NumberForm_core K c_NumberForm)) (M_NumberForm_put:HasM P w K mg base CX0 c_NumberForm "put" 6 ["self", "value"] (sp_Form_put K c_NumberForm)):FnOk P w K mg base CX0 7 f fd ["form"] (sp_in_order K c_NumberForm):=by
 refine F.ok sc_in_order (fun vs H Q E h=>?_) (fun cdv A outer s H vs Q E hr h=>?_)
 ·obtain ⟨o,fg,pl,b,sn,z,m,pt,wy,wd,f,x,st,rfl,F0,ok,q1,q2⟩:=h
  rfl
 obtain ⟨o,fg,pl,b,sn,z,m,pt,wy,wd,f,x,st,rfl,F0,ok,q1,q2⟩:=h
 refine ⟨_,pss_cons (ps_for PassesOwn.never rfl (pi_range2 rfl B.z_range (pa_cons (pe_int) (pa_cons (pe_fld (pv 0) rfl) (pa_nil)))) (pg_name (i:=1) sc_in_order.nd rfl (Or.inl rfl)) (pss_cons (ps_set (i:=2) sc_in_order.nd rfl (Or.inl rfl) (pe_callH C_power_of hr rfl (pa_cons (pe_fld (pv 0) rfl) (pa_cons (pe_op op_add (pv 1) (pe_fld (pv 0) rfl)) (pa_nil)))))
  (pss_cons (ps_set (i:=3) sc_in_order.nd rfl (Or.inl rfl) (pe_callH C_grid_value hr rfl (pa_cons (pe_op op_sub (pv 2) (pe_int)) (pa_cons (pe_fld (pv 0) rfl) (pa_cons (pe_fld (pv 0) rfl) (pa_nil))))))
  (pss_cons (ps_set (i:=4) sc_in_order.nd rfl (Or.inl rfl) (pe_callH C_grid_value hr rfl (pa_cons (pv 2) (pa_cons (pe_fld (pv 0) rfl) (pa_cons (pe_fld (pv 0) rfl) (pa_nil))))))
  (pss_cons (ps_if (pt_val (pe_methH M_NumberForm_is_too_wide cl_NumberForm pass0 hr (pv 0) (pa_cons (pe_methH M_NumberForm_core cl_NumberForm pass0 hr (pv 0) (pa_cons (pv 4) (pa_nil))) (pa_nil)))) (pss_one (ps_ret (pe_non))) (pss_nil))
  (pss_one (ps_if (pt_not (pt_cmpR op_ltS (pe_methH M_NumberForm_put cl_NumberForm pass0 hr (pv 0) (pa_cons (pv 3) (pa_nil))) (pe_methH M_NumberForm_put cl_NumberForm pass0 hr (pv 0) (pa_cons (pv 4) (pa_nil))) (nomark _))) (pss_one (ps_ret (pe_tup (pa_cons (pv 3) (pa_cons (pv 4) (pa_nil)))))) (pss_nil))))))))
  (pss_one (ps_ret (pe_non))),?_⟩
 walk_at "st"
 have o1:=ok.fg1;have o2:=ok.fg2;have o3:=ok.pl1;have o4:=ok.pl2;have o5:=ok.b1;have o6:=ok.b2
 have pw:=pw6 (b:=b) (t:=pl) o5 o6 o4
 walk_at "rd"
 refine r_kForR2 (by omega) (fun i σ H'=>Same H H'∧inO pl b sn z m pt wd f x st (fg - 1).toNat 0=inO pl b sn z m pt wd f x st ((fg - 1).toNat - i) i ∧ ∃ r1 r2 r3 r4:Option V,σ=[some (.ref o),r1,r2,r3,r4]) ⟨Same.refl _,rfl,none,none,none,none,rfl⟩ ?_ ?_
 ·rintro i σ H1 hlt ⟨gg,ei,r1,r2,r3,r4,rfl⟩
  have F1:=F0.same gg
  have kl:=kk_lim (fg:=fg) (pl:=pl) (i:=i) o5 o3 (by omega)
  have kb:=kk_bd (pl:=pl) (i:=i) o5 o6 o3 o4 (by omega)
  have kp:=kk_pos (pl:=pl) (i:=i) o5
  have S0:0 < b ^ pl.toNat:=by omega
  have en:(fg - 1).toNat - i=((fg - 1).toNat - (i+1))+1:=by omega
  rw [en,inO_succ] at ei
  walk_at "rd"
  rename_i p1 H2 g2 e2
  have F2:=F1.same g2
  walk_at "rd"
  rename_i p2 H3 g3 e3
  have F3:=F2.same g3
  have e2':H2 p1=some (.tup [.int (low1 (kk b pl i - 1) (b ^ pl.toNat)),.int (low2 (kk b pl i - 1) (b ^ pl.toNat))]):=e2
  have e3':H3 p2=some (.tup [.int (low1 (kk b pl i) (b ^ pl.toNat)),.int (low2 (kk b pl i) (b ^ pl.toNat))]):=e3
  walk_at "rd"
  refine c_core F3 ok e3' (low_grb S0 (by omega) (by omega) (by omega)) (low_gcd1 S0) (grid_stays S0) kl.1 fun H4 g4=>?_
  have n4:=(ncore_ok ok kl.1).2.2.2
  have F4:=F3.same g4
  walk_at "rd"
  ·rename_i hc
   refine q1 ?_ _ (gg.trans (g2.trans (g3.trans g4)))
   rw [ei]
   exact if_pos hc
  ·rename_i hc
   have hw : ¬ wdB pl b sn z m pt wd st i=true:=by unfold wdB;rw [hc];decide
   obtain ⟨w1,w2⟩:=not_wd o5 hw
   rw [if_neg hw] at ei
   refine c_put F4 ok (g4.at (g3.at e2')) (low_grb S0 (by omega) (by omega) (by omega)) (low_gcd1 S0) (grid_stays S0) kl.2 w2 fun H5 g5=>?_
   have F5:=F4.same g5
   walk_at "rd"
   refine c_put F5 ok (g5.at (g4.at e3')) (low_grb S0 (by omega) (by omega) (by omega)) (low_gcd1 S0) (grid_stays S0) kl.1 w1 fun H6 g6=>?_
   have hl:lsB pl b sn z m pt wd f x i=ltT (nput pl b sn z m pt wd f x (kk b pl i - 1)) (nput pl b sn z m pt wd f x (kk b pl i)):=rfl
   have gA:=gg.trans (g2.trans (g3.trans (g4.trans (g5.trans g6))))
   walk_at "rd"
   ·rename_i hc2 p6 H7 g7 e7
    rw [← hl] at hc2
    rw [if_neg (by rw [Bool.not_eq_true'] at hc2;rw [hc2];decide)] at ei
    exact q2 i ei (by omega) p6 p1 p2 _ (gA.trans g7) e7 (g7.at (g6.at (g5.at (g4.at (g3.at e2'))))) (g7.at (g6.at (g5.at (g4.at e3'))))
   ·rename_i hc2
    rw [← hl] at hc2
    rw [if_pos (by rw [Bool.not_eq_false'] at hc2;exact hc2)] at ei
    exact ⟨gA,ei,_,_,_,_,rfl⟩
 ·rintro σ H1 ⟨gg,ei,r1,r2,r3,r4,rfl⟩
  walk_at "rd"
  refine q1 ?_ _ gg
  rw [ei,Nat.sub_self];rfl
theorem c_in_order {K:W.Frag} {C o:Addr} {fg pl b:Int} {sn:Str} {z:Int} {m pt:Nat} {wy:Str} {wd:Int} {f:Nat} {x:Str} {st:Bool} {H:Hp} {Q:VK} {E:XK} (h1:FormAt K H o C wd f x st (nmore fg pl b sn z m pt wy)) (h2:NumS fg pl b sn z m pt wy wd f x) (q1:inO pl b sn z m pt wd f x st (fg - 1).toNat 0=none → ∀ H',Same H H'→Q .non H')
 (q2 : ∀ i,inO pl b sn z m pt wd f x st (fg - 1).toNat 0=some i→(i:Int)+1 < fg → ∀ p p1 p2 H',Same H H'→H' p=some (.tup [.ref p1,.ref p2])→H' p1=some (.tup [.int (low1 (kk b pl i - 1) (b ^ pl.toNat)),.int (low2 (kk b pl i - 1) (b ^ pl.toNat))])→H' p2=some (.tup [.int (low1 (kk b pl i) (b ^ pl.toNat)),.int (low2 (kk b pl i) (b ^ pl.toNat))])→Q (.ref p) H'):sp_in_order K C ([.ref o]++[]) H Q E:=⟨o,fg,pl,b,sn,z,m,pt,wy,wd,f,x,st,rfl,h1,h2,q1,q2⟩
def sp_law_put (K:W.Frag):Sp:=fun vs H Q _=>∃ (k:Int) (p:Addr) (fg pl b:Int) (sn:Str) (z:Int) (m pt:Nat) (wy:Str) (wd:Int) (f:Nat) (x:Str) (st:Bool),vs=[.int k,.ref p]∧SpecN H p fg pl b sn z m pt wy wd f x st∧NumS fg pl b sn z m pt wy wd f x∧LimN fg pl b k ∧ ∀ H',Same H H'→Q (oS (lput pl b sn z m pt wd f x st k)) H'
theorem c_lput {K:W.Frag} {k:Int} {p:Addr} {fg pl b:Int} {sn:Str} {z:Int} {m pt:Nat} {wy:Str} {wd:Int} {f:Nat} {x:Str} {st:Bool} {H:Hp} {Q:VK} {E:XK} (h1:SpecN H p fg pl b sn z m pt wy wd f x st) (h2:NumS fg pl b sn z m pt wy wd f x) (h3:LimN fg pl b k) (q : ∀ H',Same H H'→Q (oS (lput pl b sn z m pt wd f x st k)) H'):sp_law_put K ([.int k,.ref p]++[]) H Q E:=⟨k,p,fg,pl,b,sn,z,m,pt,wy,wd,f,x,st,rfl,h1,h2,h3,q⟩
theorem nrest_ok {fg pl b:Int} {sn:Str} {z:Int} {m pt:Nat} {wy:Str} {wd:Int} {f:Nat} {x:Str} {k:Int} (ok:NumS fg pl b sn z m pt wy wd f x) (lim:LimN fg pl b k):(ncore pl b sn z m pt k)=stL sn (decide (k < 0))++nrest pl b sn z m pt k∧(ncore pl b sn z m pt k).length=(stL sn (decide (k < 0))).length+(nrest pl b sn z m pt k).length∧(stL sn (decide (k < 0))).length≤1:=by
 have nc:ncore pl b sn z m pt k=stL sn (decide (k < 0))++nrest pl b sn z m pt k:=by unfold ncore sg nrest;rw [List.append_assoc]
 exact ⟨nc,by rw [nc,List.length_append],(st_len ok.sn _).1⟩
theorem ok_law_put {f:Addr} {fd:FuncData} (F:Fun K "_law_put" "_law_put" s_law_put f fd) (B:Blt mg) (C_law_parts:Has P w K mg base "_law_parts" 3 ["_law_steps", "_law_spec"] (sp_law_parts K)) (C_law_filled:Has P w K mg base "_law_filled" 1 ["_law_lead", "_law_rest", "_law_spec"] (sp_law_filled K)):FnOk P w K mg base CX0 4 f fd ["_law_steps", "_law_spec"] (sp_law_put K):=by
 refine F.ok sc_law_put (fun vs H Q E h=>?_) (fun cdv A outer s H vs Q E hr h=>?_)
 ·obtain ⟨k,p,fg,pl,b,sn,z,m,pt,wy,wd,f,x,st,rfl,hp,ok,lim,q⟩:=h
  rfl
 obtain ⟨k,p,fg,pl,b,sn,z,m,pt,wy,wd,f,x,st,rfl,hp,ok,lim,q⟩:=h
 refine ⟨_,pss_cons (ps_asg (pe_callH C_law_parts hr rfl (pa_cons (pv 0) (pa_cons (pv 1) (pa_nil)))) (pg_tup rfl (pgs_cons (pg_name (i:=2) sc_law_put.nd rfl (Or.inl rfl)) (pgs_cons (pg_name (i:=3) sc_law_put.nd rfl (Or.inl rfl)) (pgs_nil)))))
  (pss_cons (ps_if (PW.pt (pw_and (pt_val (pe_ix ix_tup (pv 1) (pe_un un_neg (pe_int)) (fun _ _=>rfl))) (pw_and1 (pt_cmpR op_gt (pe_op op_add (pe_callBH call_lenT B.z_len rfl bo_len (pa_cons (pv 2) (pa_nil))) (pe_callBH call_lenT B.z_len rfl bo_len (pa_cons (pv 3) (pa_nil)))) (pe_ix ix_tup (pv 1) (pe_un un_neg (pe_int)) (fun _ _=>rfl)) (nomark _))))) (pss_one (ps_ret (pe_non))) (pss_nil))
  (pss_one (ps_ret (pe_callH C_law_filled hr rfl (pa_cons (pv 2) (pa_cons (pv 3) (pa_cons (pv 1) (pa_nil)))))))),?_⟩
 walk_at "st"
 have hp0:=hp
 unfold SpecN at hp
 walk_at "rd"
 refine c_parts hp0 ok lim fun pq H1 g1 e1=>?_
 have hp1:=g1.at hp
 have hp01:SpecN H1 p fg pl b sn z m pt wy wd f x st:=hp1
 obtain ⟨nc,nl,sl⟩:=nrest_ok ok lim
 have n33:=ncore_33 ok lim
 unfold lput nput at q
 generalize ncore pl b sn z m pt k=nk at *
 generalize nrest pl b sn z m pt k=nr at *
 generalize stL sn (decide (k < 0))=ns at *
 subst nc
 clear hp
 walk_at "rd"
 ·rename_i c1 c2
  have q':=q _ g1
  rw [if_pos ⟨c1,by omega⟩] at q'
  exact q'
 ·rename_i c1 c2
  refine c_lfilled hp01 ok (by omega) (by omega) fun H2 g2=>?_
  have q':=q _ (g1.trans g2)
  rw [if_neg (fun y=>c2 (by omega))] at q'
  exact q'
 ·rename_i c1
  refine c_lfilled hp01 ok (by omega) (by omega) fun H2 g2=>?_
  have q':=q _ (g1.trans g2)
  rw [if_neg (fun y=>by rw [y.1] at c1;cases c1)] at q'
  exact q'
theorem lput_or {pl b:Int} {sn:Str} {z:Int} {m pt:Nat} {wd:Int} {f:Nat} {x:Str} {st:Bool} {k:Int}:lput pl b sn z m pt wd f x st k=none∨lput pl b sn z m pt wd f x st k=some (nput pl b sn z m pt wd f x k):=by
 unfold lput;split
 ·exact .inl rfl
 ·exact .inr rfl
theorem low_lt {b : Nat} (h2 : 2 ≤ b) (h16 : b ≤ 16) : ∀ (p k n : Nat), k < n → k / b ^ p = n / b ^ p → low b p k < low b p n
  | 0, k, n, h, e => by rw [Nat.pow_zero, Nat.div_one, Nat.div_one] at e; omega
  | p + 1, k, n, h, e => by
    unfold low
    have m1 := Nat.mod_lt k (show b > 0 by omega)
    have m2 := Nat.mod_lt n (show b > 0 by omega)
    have d1 := Nat.div_add_mod k b
    have d2 := Nat.div_add_mod n b
    rcases Nat.lt_or_ge (k / b) (n / b) with hd | hd
    · refine lt_app_right (by rw [low_len, low_len]) (low_lt h2 h16 p _ _ hd ?_)
      rw [Nat.div_div_eq_div_mul, Nat.div_div_eq_div_mul, Nat.mul_comm, ← Nat.pow_succ]; exact e
    · have q : k / b = n / b := Nat.le_antisymm (Nat.div_le_div_right (Nat.le_of_lt h)) hd
      rw [q] at d1 ⊢
      exact lt_app_left (List.cons_lt_cons_iff.mpr (.inl (fc_lt (by omega) (by omega))))
theorem bdy_less {b p pt z m k n:Nat} (h2:2≤b) (h16:b≤16) (h:k < n) (hl:(figs b (k / b ^ p)).length=(figs b (n / b ^ p)).length):bdy b p pt z m k < bdy b p pt z m n∧(bdy b p pt z m k).length=(bdy b p pt z m n).length:=by
 refine ⟨?_,by rw [bdy_length h2,bdy_length h2,hl]⟩
 have w1:=whl_low (b:=b) (p:=p) (n:=k) h2
 have w2:=whl_low (b:=b) (p:=p) (n:=n) h2
 have gl:(gr z m (figs b (k / b ^ p))).length=(gr z m (figs b (n / b ^ p))).length:=by rw [gr_length (figs_pos h2),gr_length (figs_pos h2),hl]
 unfold bdy
 rw [w1.1,w1.2,w2.1,w2.2]
 rcases Nat.lt_or_ge (k / b ^ p) (n / b ^ p) with hd | hd
 ·have g:=gr_lt (z:=z) (m:=m) hl (figs_less h2 h16 _ _ hd hl)
  split
  ·exact g
  ·rw [List.append_assoc,List.append_assoc];exact lt_app_right gl g
 ·have e:k / b ^ p=n / b ^ p:=Nat.le_antisymm (Nat.div_le_div_right (Nat.le_of_lt h)) hd
  have hp:p≠0:=fun z=>by subst z;rw [Nat.pow_zero,Nat.div_one,Nat.div_one] at e;omega
  rw [if_neg hp,if_neg hp,e]
  exact lt_app_left (low_lt h2 h16 p k n h e)
theorem pad_less {t u:List Nat} {w:Int} {f:Nat} {x:Str} (e:t.length=u.length) (h:t < u):pad t w f x < pad u w f x:=by
 unfold pad
 rw [e]
 rw [List.append_assoc,List.append_assoc]
 exact lt_app_left (lt_app_right e h)
theorem figs_jump {b : Nat} (h2 : 2 ≤ b) : ∀ q : Nat, (figs b q).length ≠ (figs b (q + 1)).length → ∃ j, q + 1 = b ^ (j + 1) := by
  intro q
  induction q using Nat.strongRecOn with
  | ind q ih =>
    intro h
    rcases Nat.lt_or_ge (q + 1) b with h1 | h1
    · rw [figs_lt h1, figs_lt (by omega)] at h; exact absurd rfl h
    · rcases Nat.lt_or_ge q b with h3 | h3
      · exact ⟨0, by rw [Nat.pow_one]; omega⟩
      · rw [figs_ge h2 h1, figs_ge h2 h3, List.length_append, List.length_append] at h
        have d := Nat.div_add_mod q b
        have d' := Nat.div_add_mod (q + 1) b
        have m := Nat.mod_lt q (show b > 0 by omega)
        have m' := Nat.mod_lt (q + 1) (show b > 0 by omega)
        have e : (q + 1) / b = q / b ∨ (q + 1) / b = q / b + 1 ∧ q + 1 = b * (q / b + 1) := by
          rcases Nat.lt_or_ge (q % b + 1) b with z | z
          · left
            have : q + 1 = b * (q / b) + (q % b + 1) := by omega
            rw [this, Nat.mul_add_div (by omega), Nat.div_eq_of_lt z]; omega
          · right
            have e1 : q + 1 = b * (q / b + 1) := by rw [Nat.mul_add, Nat.mul_one]; omega
            exact ⟨by rw [e1, Nat.mul_div_cancel_left _ (by omega)], e1⟩
        rcases e with e | ⟨e, e1⟩
        · rw [e] at h; exact absurd rfl h
        · rw [e] at h
          obtain ⟨j, hj⟩ := ih (q / b) (Nat.div_lt_self (by omega) (by omega)) (fun z => h (by rw [z]; simp))
          exact ⟨j + 1, by rw [e1, hj, Nat.pow_succ b (j + 1), Nat.mul_comm]⟩
theorem level_jump {b p k:Nat} (h2:2≤b) (h:(figs b (k / b ^ p)).length≠(figs b ((k+1) / b ^ p)).length) : ∃ j,k+1=b ^ (j+1+p):=by
 have P0:0 < b ^ p:=Nat.pow_pos (by omega)
 have d:=Nat.div_add_mod k (b ^ p)
 have m:=Nat.mod_lt k P0
 rcases Nat.lt_or_ge (k % b ^ p+1) (b ^ p) with z | z
 ·exfalso
  have e:(k+1) / b ^ p=k / b ^ p:=by
   have:k+1=b ^ p*(k / b ^ p)+(k % b ^ p+1):=by omega
   rw [this,Nat.mul_add_div P0,Nat.div_eq_of_lt z];omega
  rw [e] at h;exact h rfl
 ·have e1:k+1=b ^ p*(k / b ^ p+1):=by rw [Nat.mul_add,Nat.mul_one];omega
  have e:(k+1) / b ^ p=k / b ^ p+1:=by rw [e1,Nat.mul_div_cancel_left _ P0]
  rw [e] at h
  obtain ⟨j,hj⟩:=figs_jump h2 _ h
  exact ⟨j,by rw [e1,hj,Nat.pow_add b (j+1) p,Nat.mul_comm]⟩
section
variable {fg pl b : Int} {sn : Str} {z : Int} {m pt : Nat} {wy : Str} {wd : Int} {f : Nat} {x : Str} {st : Bool}
theorem same_level (ok:NumS fg pl b sn z m pt wy wd f x) {k:Int} (h0:0≤k) (hl:(figs b.toNat (k.toNat / b.toNat ^ pl.toNat)).length=(figs b.toNat ((k.toNat+1) / b.toNat ^ pl.toNat)).length):nput pl b sn z m pt wd f x k < nput pl b sn z m pt wd f x (k+1):=by
 have o5:=ok.b1;have o6:=ok.b2
 obtain ⟨hb,lb⟩:=bdy_less (b:=b.toNat) (p:=pl.toNat) (pt:=pt) (z:=z.toNat) (m:=m) (k:=k.toNat) (n:=k.toNat+1) (by omega) (by omega) (by omega) hl
 unfold nput ncore bdI sg
 rw [decide_eq_false (show ¬ k < 0 by omega),decide_eq_false (show ¬ k+1 < 0 by omega),show ((k.natAbs:Nat):Int).toNat=k.toNat by omega,show (((k+1).natAbs:Nat):Int).toNat=k.toNat+1 by omega]
 generalize bdy b.toNat pl.toNat pt z.toNat m k.toNat=B at *
 generalize bdy b.toNat pl.toNat pt z.toNat m (k.toNat+1)=C at *
 generalize stL sn false=L
 generalize stT sn false=R
 have e1:(B++R).length=(C++R).length:=by rw [List.length_append,List.length_append,lb]
 have h1:B++R < C++R:=lt_app_right lb hb
 unfold nfil
 rw [List.append_assoc,List.append_assoc]
 split
 ·rw [List.drop_left,List.drop_left];exact lt_app_left (pad_less e1 h1)
 ·exact pad_less (by rw [List.length_append,e1,← List.length_append]) (lt_app_left h1)
theorem inO_all (hb : 2 ≤ b) : ∀ (n i : Nat), inO pl b sn z m pt wd f x st n i = none → ∀ j, i ≤ j → j < i + n → wdB pl b sn z m pt wd st j = true ∨ lsB pl b sn z m pt wd f x j = true
  | 0, i, _, j, h1, h2 => by omega
  | n + 1, i, h, j, h1, h2 => by
    rw [inO_succ] at h
    by_cases hw : wdB pl b sn z m pt wd st i = true
    · left
      have : ∀ d, wdB pl b sn z m pt wd st (i + d) = true := by
        intro d
        induction d with
        | zero => exact hw
        | succ d ih => exact wd_up hb ih
      have := this (j - i)
      rwa [show i + (j - i) = j by omega] at this
    · rw [if_neg hw] at h
      by_cases hl : lsB pl b sn z m pt wd f x i = true
      · rw [if_pos hl] at h
        rcases Nat.eq_or_lt_of_le h1 with e | e
        · subst e; exact .inr hl
        · exact inO_all hb n (i + 1) h j (by omega) (by omega)
      · rw [if_neg hl] at h; cases h
theorem inO_some : ∀ (n i j : Nat), inO pl b sn z m pt wd f x st n i = some j → wdB pl b sn z m pt wd st j = false ∧ lsB pl b sn z m pt wd f x j = false
  | 0, i, j, h => by cases h
  | n + 1, i, j, h => by
    rw [inO_succ] at h
    split at h
    · cases h
    · rename_i hw
      split at h
      · exact inO_some n (i + 1) j h
      · rename_i hl
        cases h
        exact ⟨Bool.eq_false_iff.mpr hw, Bool.eq_false_iff.mpr hl⟩
theorem step_up (ok:NumS fg pl b sn z m pt wy wd f x) (hn:inO pl b sn z m pt wd f x st (fg - 1).toNat 0=none) {k:Int} (h0:0≤k) (lim:LimN fg pl b (k+1)) (hp : ¬ (st=true∧wd < (ncore pl b sn z m pt (k+1)).length)):nput pl b sn z m pt wd f x k < nput pl b sn z m pt wd f x (k+1):=by
 have o1:=ok.fg1;have o3:=ok.pl1;have o5:=ok.b1
 by_cases hl:(figs b.toNat (k.toNat / b.toNat ^ pl.toNat)).length=(figs b.toNat ((k.toNat+1) / b.toNat ^ pl.toNat)).length
 ·exact same_level ok h0 hl
 ·obtain ⟨j,hj⟩:=level_jump (by omega) hl
  have e:k+1=kk b pl j:=by
   rw [kk_nat o5,show (1+(j:Int)+pl).toNat=j+1+pl.toNat by omega,← hj];omega
  have lj:j+1+pl.toNat < (fg+pl).toNat:=by
   unfold LimN at lim
   rw [show (k+1).natAbs=k.toNat+1 by omega,hj] at lim
   exact (Nat.pow_lt_pow_iff_right (show 1 < b.toNat by omega)).mp lim
  rcases inO_all o5 _ _ hn j (by omega) (by omega) with w | w
  ·exfalso
   unfold wdB at w
   rw [Bool.and_eq_true,decide_eq_true_iff,← e] at w
   exact hp w
  ·unfold lsB at w
   rw [← e,show k+1 - 1=k by omega] at w
   exact ltT_iff.mp w
theorem not_wide {k k':Int} (hb:2≤b) (h0:0≤k) (h:k≤k') (hp : ¬ (st=true∧wd < (ncore pl b sn z m pt k').length)) : ¬ (st=true∧wd < (ncore pl b sn z m pt k).length):=fun y=>by
 have:=ncore_mono (pl:=pl) (sn:=sn) (z:=z) (m:=m) (pt:=pt) hb h0 h
 exact hp ⟨y.1,by omega⟩
theorem rise_all (ok : NumS fg pl b sn z m pt wy wd f x) (hn : inO pl b sn z m pt wd f x st (fg - 1).toNat 0 = none) {k : Int} (h0 : 0 ≤ k) : ∀ d : Nat, LimN fg pl b (k + d + 1) → ¬ (st = true ∧ wd < (ncore pl b sn z m pt (k + d + 1)).length) → nput pl b sn z m pt wd f x k < nput pl b sn z m pt wd f x (k + d + 1)
  | 0, lim, hp => by
    rw [show k + ((0 : Nat) : Int) + 1 = k + 1 by omega] at lim hp ⊢
    exact step_up ok hn h0 lim hp
  | d + 1, lim, hp => by
    have e : k + ((d + 1 : Nat) : Int) + 1 = (k + d + 1) + 1 := by omega
    rw [e] at lim hp ⊢
    have l2 : LimN fg pl b (k + d + 1) := by unfold LimN at lim ⊢; omega
    refine List.lt_trans (rise_all ok hn h0 d l2 (not_wide ok.b1 (by omega) (by omega) hp)) (step_up ok hn (by omega) lim hp)
theorem rise_two (ok:NumS fg pl b sn z m pt wy wd f x) (hn:inO pl b sn z m pt wd f x st (fg - 1).toNat 0=none) {k k':Int} (h0:0≤k) (h:k < k') (lim:LimN fg pl b k') (hp : ¬ (st=true∧wd < (ncore pl b sn z m pt k').length)):nput pl b sn z m pt wd f x k < nput pl b sn z m pt wd f x k':=by
 have e:k'=k+((k' - k - 1).toNat:Int)+1:=by omega
 rw [e] at lim hp ⊢
 exact rise_all ok hn h0 _ lim hp
end
def rizB (ts:List (List Nat)):Bool:=(List.range (ts.length - 1)).all fun i=>ltT (ts.getD i []) (ts.getD (i+1) [])
theorem riz_true {ts:List (List Nat)} (h : ∀ i,i+1 < ts.length→ltT (ts.getD i []) (ts.getD (i+1) [])=true):rizB ts=true:=by
 unfold rizB
 rw [List.all_eq_true]
 intro i hi
 exact h i (by have:=List.mem_range.mp hi;omega)
theorem riz_false {ts:List (List Nat)} {i:Nat} (hi:i+1 < ts.length) (h:ltT (ts.getD i []) (ts.getD (i+1) [])=false):rizB ts=false:=by
 unfold rizB
 rw [List.all_eq_false]
 exact ⟨i,List.mem_range.mpr (by omega),by rw [h];decide⟩
theorem riz_pairwise {ts:List (List Nat)} (h:ts.Pairwise (· < ·)):rizB ts=true:=by
 refine riz_true fun i hi=>ltT_iff.mpr ?_
 have:=(List.pairwise_iff_getElem.mp h) i (i+1) (by omega) hi (by omega)
 rw [List.getD_eq_getElem?_getD,List.getD_eq_getElem?_getD,List.getElem?_eq_getElem hi,List.getElem?_eq_getElem (show i < ts.length by omega)]
 exact this
section
variable {fg pl b : Int} {sn : Str} {z : Int} {m pt : Nat} {wy : Str} {wd : Int} {f : Nat} {x : Str} {st : Bool}
abbrev txs (pl b:Int) (sn:Str) (z:Int) (m pt:Nat) (wd:Int) (f:Nat) (x:Str) (st:Bool) (ms:List Int):List (List Nat):=ms.filterMap (lput pl b sn z m pt wd f x st)
theorem lput_some {k:Int} {t:List Nat} (h:lput pl b sn z m pt wd f x st k=some t) : ¬ (st=true∧wd < (ncore pl b sn z m pt k).length)∧t=nput pl b sn z m pt wd f x k:=by
 unfold lput at h
 split at h
 ·cases h
 ·rename_i hw;cases h;exact ⟨hw,rfl⟩
theorem riz_up (ok:NumS fg pl b sn z m pt wy wd f x) (hn:inO pl b sn z m pt wd f x st (fg - 1).toNat 0=none) {ms:List Int} (h0 : ∀ k ∈ ms,0≤k∧LimN fg pl b k) (hs:ms.Pairwise (· < ·)):rizB (txs pl b sn z m pt wd f x st ms)=true:=by
 refine riz_pairwise ?_
 rw [List.pairwise_filterMap]
 refine List.Pairwise.imp_of_mem (fun {k k'} hk hk' hlt t ht t' ht'=>?_) hs
 obtain ⟨_,rfl⟩:=lput_some ht
 obtain ⟨w',rfl⟩:=lput_some ht'
 exact rise_two ok hn (h0 k hk).1 hlt (h0 k' hk').2 w'
theorem riz_mid : ∀ (A B:List (List Nat)) (u v:List Nat),ltT u v=false→rizB (A++u::v::B)=false:=by
 intro A B u v h
 refine riz_false (i:=A.length) (by simp) ?_
 rw [List.getD_eq_getElem?_getD,List.getD_eq_getElem?_getD,List.getElem?_append_right (Nat.le_refl _),List.getElem?_append_right (Nat.le_succ _)]
 rw [Nat.sub_self,show A.length.succ - A.length=1 by omega]
 exact h
abbrev upTo (n:Nat):List Int:=(List.range n).map fun i=>((i:Nat):Int)
theorem upTo_split {n k:Nat} (h:k+1 < n) : ∃ A B,upTo n=A++(k:Int)::((k:Int)+1)::B:=by
 obtain ⟨d,rfl⟩ : ∃ d,n=k+(2+d):=⟨n - k - 2,by omega⟩
 refine ⟨upTo k,(List.range d).map fun i=>((k+(2+i):Nat):Int),?_⟩
 unfold upTo
 rw [List.range_add,List.map_append]
 congr 1
 rw [List.range_add,List.map_append,List.map_append]
 simp [List.range_succ]
theorem riz_down (ok:NumS fg pl b sn z m pt wy wd f x) {i n:Nat} (hi:inO pl b sn z m pt wd f x st (fg - 1).toNat 0=some i) (hl:kk b pl i < n):rizB (txs pl b sn z m pt wd f x st (upTo n))=false:=by
 have o5:=ok.b1
 obtain ⟨w,l⟩:=inO_some _ _ _ hi
 have p:=kk_pos (pl:=pl) (i:=i) o5
 obtain ⟨w1,w2⟩:=not_wd (pl:=pl) (sn:=sn) (z:=z) (m:=m) (pt:=pt) (wd:=wd) (st:=st) (i:=i) o5 (by rw [w];decide)
 obtain ⟨A,B,e⟩:=upTo_split (n:=n) (k:=(kk b pl i - 1).toNat) (by omega)
 rw [show (((kk b pl i - 1).toNat:Nat):Int)=kk b pl i - 1 by omega,show kk b pl i - 1+1=kk b pl i by omega] at e
 unfold txs
 rw [e,List.filterMap_append]
 have e1:lput pl b sn z m pt wd f x st (kk b pl i - 1)=some (nput pl b sn z m pt wd f x (kk b pl i - 1)):=by unfold lput;rw [if_neg w2]
 have e2:lput pl b sn z m pt wd f x st (kk b pl i)=some (nput pl b sn z m pt wd f x (kk b pl i)):=by unfold lput;rw [if_neg w1]
 rw [List.filterMap_cons_some e1,List.filterMap_cons_some e2]
 exact riz_mid _ _ _ _ l
end
def sp_law_whole (K:W.Frag):Sp:=fun vs H Q _=>∃ i:Int,vs=[.int i]∧Q (.bl true) H
theorem c_whole {K:W.Frag} {i:Int} {H:Hp} {Q:VK} {E:XK} (q:Q (.bl true) H):sp_law_whole K ([.int i]++[]) H Q E:=⟨i,rfl,q⟩
local macro_rules | `(tactic| walk_at "rdc")=>`(tactic| (with_reducible refine c_whole ?_))
theorem ok_law_whole {f:Addr} {fd:FuncData} (F:Fun K "_law_whole" "_law_whole" s_law_whole f fd) (B:Blt mg):FnOk P w K mg base CX0 1 f fd ["_law_thing"] (sp_law_whole K):=by
 refine F.ok sc_law_whole (fun vs H Q E h=>?_) (fun cdv A outer s H vs Q E hr h=>?_)
 ·obtain ⟨i,rfl,q⟩:=h
  rfl
 obtain ⟨i,rfl,q⟩:=h
 refine ⟨_,pss_one (ps_ret (pe_and (pe_callBH call_isi B.z_isinstance rfl bo_isinstance (pa_cons (pv 0) (pa_cons (pe_bltn rfl B.z_int bo_int (v:=.ty "int") rfl) (pa_nil)))) (pe_one (pe_not (pe_callBH call_isi B.z_isinstance rfl bo_isinstance (pa_cons (pv 0) (pa_cons (pe_bltn rfl B.z_bool bo_bool (v:=.ty "bool") rfl) (pa_nil)))))))),?_⟩
 walk_at "st"
 walk_at "rd"
 exact q
def sp_law_divisor (K:W.Frag):Sp:=fun vs H Q _=>∃ a b:Int,vs=[.int a,.int b]∧0 < b∧Q (.int (Int.gcd a b)) H
theorem c_divisor {K:W.Frag} {a b:Int} {H:Hp} {Q:VK} {E:XK} (h:0 < b) (q:Q (.int (Int.gcd a b)) H):sp_law_divisor K ([.int a,.int b]++[]) H Q E:=⟨a,b,rfl,h,q⟩
local macro_rules | `(tactic| walk_at "rdc")=>`(tactic| ((with_reducible refine' c_divisor ?h ?_);(case h=>omega)))
theorem ok_law_divisor {f:Addr} {fd:FuncData} (F:Fun K "_law_divisor" "_law_divisor" s_law_divisor f fd) (B:Blt mg):FnOk P w K mg base CX0 1 f fd ["_law_one", "_law_other"] (sp_law_divisor K):=by
 refine F.ok sc_law_divisor (fun vs H Q E h=>?_) (fun cdv A outer s H vs Q E hr h=>?_)
 ·obtain ⟨a,b,rfl,h0,q⟩:=h
  rfl
 obtain ⟨a,b,rfl,h0,q⟩:=h
 refine ⟨_,pss_cons (ps_while PassesOwn.never (pt_cmpR op_ne (pv 1) (pe_int) (nomark _)) (pss_one (ps_par (i:=0) (j:=1) rfl sc_law_divisor.nd rfl rfl (by decide) rfl rfl (pa_cons (pv 1) (pa_cons (pe_op op_modP (pv 0) (pv 1)) (pa_nil))) rfl)))
  (pss_one (ps_ret (pe_callBH call_absN B.z_abs rfl bo_abs (pa_cons (pv 0) (pa_nil))))),?_⟩
 walk_at "st"
 walk_at "rd"
 refine r_while (fun m σ H'=>H'=H ∧ ∃ (g l:Int),σ=[some (.int g),some (.int l)]∧0≤l∧Int.gcd g l=Int.gcd a b∧m=l.toNat) ⟨_,rfl,a,b,rfl,by omega,rfl,rfl⟩ ?_
 rintro m σ H' ⟨rfl,g,l,rfl,hl,hgl,rfl⟩
 walk_at "rd"
 ·rename_i hc k' hk'
  subst hc
  rw [Int.gcd_zero_right] at hgl
  rw [← hgl] at q
  rw [show k'=(g.natAbs:Int) by omega];exact q
 ·rename_i hc
  have e1:=Int.emod_nonneg g (show l≠0 by omega)
  have e2:=Int.emod_lt_of_pos g (show 0 < l by omega)
  exact ⟨_,by omega,rfl,l,g % l,rfl,e1,(gcd_turn0 (by omega)).trans hgl,rfl⟩
def sp_law_lowest (K:W.Frag):Sp:=fun vs H Q _=>∃ t b:Int,vs=[.int t,.int b]∧0 < b∧b < 10000000000000000000000000000000000000000000000000000000000000000000000000000000000000000000000000000000000000000000000000000000000000000000000000000000000000000000000000000000000000000000000 ∧ ∀ p H',Same H H'→H' p=some (.tup [.int (low1 t b),.int (low2 t b)])→Q (.ref p) H'
theorem ok_law_lowest {f:Addr} {fd:FuncData} (F:Fun K "_law_lowest" "_law_lowest" s_law_lowest f fd) (B:Blt mg) (C_law_divisor:Has P w K mg base "_law_divisor" 1 ["_law_one", "_law_other"] (sp_law_divisor K)):FnOk P w K mg base CX0 2 f fd ["_law_top", "_law_bottom"] (sp_law_lowest K):=by
 refine F.ok sc_law_lowest (fun vs H Q E h=>?_) (fun cdv A outer s H vs Q E hr h=>?_)
 ·obtain ⟨t,b,rfl,h0,h1,q⟩:=h
  rfl
 obtain ⟨t,b,rfl,h0,h1,q⟩:=h
 refine ⟨_,pss_cons (ps_set (i:=2) sc_law_lowest.nd rfl (Or.inl rfl) (pe_callH C_law_divisor hr rfl (pa_cons (pv 0) (pa_cons (pv 1) (pa_nil)))))
  (pss_one (ps_ret (pe_tup (pa_cons (pe_op op_fdivB (pv 0) (pv 2)) (pa_cons (pe_op op_fdivB (pv 1) (pv 2)) (pa_nil)))))),?_⟩
 walk_at "st"
 have e0:0 < (Int.gcd t b:Int):=by have:=Int.gcd_pos_of_ne_zero_right t (show b≠0 by omega);omega
 have e1:(Int.gcd t b:Int)≤b.natAbs:=by have:=Int.gcd_le_natAbs_right (a:=t) (b:=b) (by omega);omega
 walk_at "rd"
 refine q _ _ (by assumption) ?_
 unfold low1 low2 lowS;rw [if_neg (show ¬ b < 0 by omega),Int.fdiv_eq_ediv_of_nonneg _ (Int.le_of_lt e0),Int.fdiv_eq_ediv_of_nonneg _ (Int.le_of_lt e0)];assumption
theorem c_lowest {K:W.Frag} {t b:Int} {H:Hp} {Q:VK} {E:XK} (h1:0 < b) (h2:b < 10000000000000000000000000000000000000000000000000000000000000000000000000000000000000000000000000000000000000000000000000000000000000000000000000000000000000000000000000000000000000000000000) (q : ∀ p H',Same H H'→H' p=some (.tup [.int (low1 t b),.int (low2 t b)])→Q (.ref p) H'):sp_law_lowest K ([.int t,.int b]++[]) H Q E:=⟨t,b,rfl,h1,h2,q⟩
def sp_law_great (K:W.Frag):Sp:=fun vs H Q _=>∃ c t m:Int,vs=[.int c,.int t,.int m]∧0≤t∧t < 1000∧0 < m ∧ ∀ v:Int,0≤v→v < m→Q (.int v) H
theorem c_great {K:W.Frag} {c t m:Int} {H:Hp} {Q:VK} {E:XK} (h1:0≤t) (h1':t < 1000) (h2:0 < m) (q : ∀ v:Int,0≤v→v < m→Q (.int v) H):sp_law_great K ([.int c,.int t,.int m]++[]) H Q E:=⟨c,t,m,rfl,h1,h1',h2,q⟩
theorem ok_law_great {f:Addr} {fd:FuncData} (F:Fun K "_law_great" "_law_great" s_law_great f fd) (B:Blt mg):FnOk P w K mg base CX0 1 f fd ["_law_cell", "_law_at", "_law_limit_here"] (sp_law_great K):=by
 refine F.ok sc_law_great (fun vs H Q E h=>?_) (fun cdv A outer s H vs Q E hr h=>?_)
 ·obtain ⟨c,t,m,rfl,ht,ht',hm,q⟩:=h
  rfl
 obtain ⟨c,t,m,rfl,ht,ht',hm,q⟩:=h
 refine ⟨_,pss_cons (ps_if (PW.pt (pw_and (pt_cmpR op_gt (pv 0) (pe_powK (k:=1000000000000000000) (by unfold CPow;decide) (by decide +kernel)) (nomark _)) (pw_and1 (pt_cmpR op_gt (pe_op op_shrP (pv 0) (pe_op op_add (pe_int) (pe_op op_mulA (pe_int) (pv 1)))) (pe_int) (nomark _))))) (pss_one (ps_ret (pe_op op_modP (pe_op op_shrP (pv 0) (pe_op op_add (pe_int) (pe_op op_mulA (pe_int) (pv 1)))) (pv 2)))) (pss_nil))
  (pss_cons (ps_set (i:=3) sc_law_great.nd rfl (Or.inl rfl) (pe_op op_add (pe_op op_add (pe_op op_modP (pv 0) (pe_powK (k:=10000000000000000000000000000000000000000) (by unfold CPow;decide) (by decide +kernel))) (pe_op op_mulA (pe_int) (pv 1))) (pe_int)))
  (pss_one (ps_ret (pe_op op_modP (pe_op op_mulA (pv 3) (pe_int)) (pv 2))))),?_⟩
 walk_at "st"
 walk_at "rd"
 all_goals exact q _ (Int.emod_nonneg _ (by omega)) (Int.emod_lt_of_pos _ hm)
abbrev lmI (fg pl b:Int):Int:=b ^ (fg+pl).toNat
theorem lim_lm {fg pl b k:Int} (hb:2≤b) (h0:0≤k):LimN fg pl b k↔k < lmI fg pl b:=by
 unfold LimN lmI
 have e:b ^ (fg+pl).toNat=((b.toNat ^ (fg+pl).toNat:Nat):Int):=by rw [Int.natCast_pow,Int.toNat_of_nonneg (by omega)]
 rw [e];omega
def sp_law_limit (K:W.Frag):Sp:=fun vs H Q _=>∃ (p:Addr) (fg pl b:Int) (sn:Str) (z:Int) (m pt:Nat) (wy:Str) (wd:Int) (f:Nat) (x:Str) (st:Bool),vs=[.ref p]∧SpecN H p fg pl b sn z m pt wy wd f x st∧NumS fg pl b sn z m pt wy wd f x∧Q (.int (lmI fg pl b)) H
theorem c_limit {K:W.Frag} {p:Addr} {fg pl b:Int} {sn:Str} {z:Int} {m pt:Nat} {wy:Str} {wd:Int} {f:Nat} {x:Str} {st:Bool} {H:Hp} {Q:VK} {E:XK} (h1:SpecN H p fg pl b sn z m pt wy wd f x st) (h2:NumS fg pl b sn z m pt wy wd f x) (q:Q (.int (lmI fg pl b)) H):sp_law_limit K ([.ref p]++[]) H Q E:=⟨p,fg,pl,b,sn,z,m,pt,wy,wd,f,x,st,rfl,h1,h2,q⟩
theorem ok_law_limit {f:Addr} {fd:FuncData} (F:Fun K "_law_limit" "_law_limit" s_law_limit f fd) (B:Blt mg) (C_law_power:Has P w K mg base "_law_power" 1 ["_law_base", "_law_times"] (sp_law_power K)):FnOk P w K mg base CX0 2 f fd ["_law_spec"] (sp_law_limit K):=by
 refine F.ok sc_law_limit (fun vs H Q E h=>?_) (fun cdv A outer s H vs Q E hr h=>?_)
 ·obtain ⟨p,fg,pl,b,sn,z,m,pt,wy,wd,f,x,st,rfl,hp,ok,q⟩:=h
  rfl
 obtain ⟨p,fg,pl,b,sn,z,m,pt,wy,wd,f,x,st,rfl,hp,ok,q⟩:=h
 refine ⟨_,pss_one (ps_ret (pe_callH C_law_power hr rfl (pa_cons (pe_ix ix_tup (pv 0) (pe_int) (fun _ _=>rfl)) (pa_cons (pe_op op_add (pe_ix ix_tup (pv 0) (pe_int) (fun _ _=>rfl)) (pe_ix ix_tup (pv 0) (pe_int) (fun _ _=>rfl))) (pa_nil))))),?_⟩
 walk_at "st"
 have o1:=ok.fg1;have o2:=ok.fg2;have o3:=ok.pl1;have o4:=ok.pl2;have o5:=ok.b1;have o6:=ok.b2
 unfold SpecN at hp
 walk_at "rd"
 exact q
theorem r_notNN {H:Hp} {Q:VK} (q:Q (.bl false) H):rNotN .non .non H Q:=⟨rfl,by rw [decide_eq_true rfl];exact q⟩
theorem r_notNS {t:Str} {H:Hp} {Q:VK} (q:Q (.bl true) H):rNotN (.str t) .non H Q:=⟨rfl,by rw [decide_eq_false (fun z=>nomatch z)];exact q⟩
theorem r_notNR {a:Addr} {H:Hp} {Q:VK} (q:Q (.bl true) H):rNotN (.ref a) .non H Q:=⟨rfl,by rw [decide_eq_false (fun z=>nomatch z)];exact q⟩
local macro_rules | `(tactic| walk_at "rdc")=>`(tactic| first
 | (with_reducible refine r_notNN ?_) | (with_reducible refine r_notNS ?_) | (with_reducible refine r_notNR ?_))
theorem r_ixTs {K:W.Frag} {H:Hp} {Q:VK} {p:Addr} {ts:List (List Nat)} {i:Int} (h:H p=some (.lst (tsV ts))) (h0:0≤i) (h1:i < ts.length) (q:Q (.str (T (ts.getD i.toNat []))) H):rIxL K (.ref p) (.int i) H Q:=by
 refine r_ixAll (SqL.of h) h0 (by unfold tsV;rw [List.length_map];exact h1) fun x hx=>?_
 unfold tsV at hx
 rw [List.getElem?_map,List.getElem?_eq_getElem (show i.toNat < ts.length by omega)] at hx
 cases hx
 rw [List.getD_eq_getElem?_getD,List.getElem?_eq_getElem (show i.toNat < ts.length by omega)] at q
 exact q
def sp_law_rising (K:W.Frag):Sp:=fun vs H Q _=>∃ (l p:Addr) (ms:List Int) (fg pl b:Int) (sn:Str) (z:Int) (m pt:Nat) (wy:Str) (wd:Int) (f:Nat) (x:Str) (st:Bool),vs=[.ref l,.ref p]∧SqL K H l (ms.map V.int)∧ms.length≤200∧SpecN H p fg pl b sn z m pt wy wd f x st∧NumS fg pl b sn z m pt wy wd f x∧(∀ k ∈ ms,0≤k∧LimN fg pl b k) ∧ ∀ H',Same H H'→Q (.bl (rizB (txs pl b sn z m pt wd f x st ms))) H'
theorem ok_law_rising {f:Addr} {fd:FuncData} (F:Fun K "_law_rising" "_law_rising" s_law_rising f fd) (B:Blt mg) (C_law_put:Has P w K mg base "_law_put" 4 ["_law_steps", "_law_spec"] (sp_law_put K)):FnOk P w K mg base CX0 5 f fd ["_law_some", "_law_spec"] (sp_law_rising K):=by
 refine F.ok sc_law_rising (fun vs H Q E h=>?_) (fun cdv A outer s H vs Q E hr h=>?_)
 ·obtain ⟨l,p,ms,fg,pl,b,sn,z,m,pt,wy,wd,f,x,st,rfl,hl,h200,hp,ok,hk,q⟩:=h
  rfl
 obtain ⟨l,p,ms,fg,pl,b,sn,z,m,pt,wy,wd,f,x,st,rfl,hl,h200,hp,ok,hk,q⟩:=h
 refine ⟨_,pss_cons (ps_setcomp (cl:=[("_law_spec", s.heap.objs.size+1+0)]) (fr:=["_law_spec"]) (is:=[1]) (i:=2) sc_law_rising.nd rfl (Or.inl rfl) rfl rfl rfl ⟨rfl,trivial⟩ rfl ⟨⟨rfl,rfl,Or.inl rfl⟩,trivial⟩ (by decide) (by decide +kernel) rfl (by decide +kernel) rfl (pi_list (pv 0)) (fun _ _ _ _=>pifs_nil) (fun _ _ _ _=>pe_callH C_law_put hr rfl (pa_cons (pv 0) (pa_cons (pv 1) (pa_nil)))))
  (pss_cons (ps_setcomp (cl:=[]) (fr:=[]) (is:=[]) (i:=2) sc_law_rising.nd rfl (Or.inl rfl) rfl rfl rfl trivial rfl trivial (by decide) (by decide +kernel) rfl (by decide +kernel) rfl (pi_list (pv 2)) (fun _ _ _ _=>pifs_one (pt_cmpR op_notN2 (pv 0) (pe_non) (nomark _))) (fun _ _ _ _=>pv 0))
  (pss_cons (ps_for PassesOwn.never rfl (pi_range2 rfl B.z_range (pa_cons (pe_int) (pa_cons (pe_callBH call_lenN B.z_len rfl bo_len (pa_cons (pv 2) (pa_nil))) (pa_nil)))) (pg_name (i:=3) sc_law_rising.nd rfl (Or.inl rfl)) (pss_one (ps_if (pt_not (pt_cmpR op_ltS (pe_ix ix_list (pv 2) (pe_op op_sub (pv 3) (pe_int)) (fun _ _=>rfl)) (pe_ix ix_list (pv 2) (pv 3) (fun _ _=>rfl)) (nomark _))) (pss_one (ps_ret (pe_bl))) (pss_nil))))
  (pss_one (ps_ret (pe_bl))))),?_⟩
 walk_at "st"
 walk_at "rd"
 refine r_kCompL hl (small (by rw [List.length_map];omega)) (fun i ys H'=>Same H H'∧ys=(ms.take i).map fun k=>oS (lput pl b sn z m pt wd f x st k)) ⟨Same.refl _,rfl⟩ (fun i ys H' hi h=>⟨h.1.seq hl,by rw [h.2,List.length_map,List.length_take];omega⟩) ?_ ?_
 ·rintro i v ys H1 hv hlt ⟨g1,rfl⟩
  rw [List.length_map] at hlt
  rw [List.getElem?_map,List.getElem?_eq_getElem hlt] at hv
  cases hv
  refine r_noIf ?_
  rw [if_pos rfl]
  walk_at "rd"
  refine c_lput (g1.at hp) ok (hk _ (List.getElem_mem hlt)).2 fun H2 g2=>?_
  refine nxC (by rw [List.length_map];exact hlt) ⟨g1.trans g2,?_⟩
  rw [List.take_succ_eq_append_getElem hlt,List.map_append];rfl
 ·rintro ys H1 ⟨g1,rfl⟩ p1 H2 g2 e2
  rw [List.length_map,List.take_length] at e2
  walk_at "rd"
  refine r_kCompL (SqL.of e2) (small (by rw [List.length_map];omega)) (fun i ys H'=>H'=H2∧ys=tsV (txs pl b sn z m pt wd f x st (ms.take i))) ⟨rfl,rfl⟩ (fun i ys H' hi h=>⟨by rw [h.1];exact SqL.of e2,by rw [h.2];unfold tsV txs;rw [List.length_map];have:=List.length_filterMap_le (lput pl b sn z m pt wd f x st) (ms.take i);rw [List.length_take] at this;omega⟩) ?_ ?_
  ·rintro i v ys H3 hv hlt ⟨rfl,rfl⟩
   rw [List.length_map] at hlt
   rw [List.getElem?_map,List.getElem?_eq_getElem hlt] at hv
   cases hv
   rcases lput_or (pl:=pl) (b:=b) (sn:=sn) (z:=z) (m:=m) (pt:=pt) (wd:=wd) (f:=f) (x:=x) (st:=st) (k:=ms[i]) with h0 | h0
   ·have e0:(fun k=>oS (lput pl b sn z m pt wd f x st k)) ms[i] = .non:=by show oS (lput pl b sn z m pt wd f x st ms[i])=_;rw [h0];rfl
    rw [e0]
    walk_at "rd"
    refine nxC (by rw [List.length_map];exact hlt) ⟨rfl,?_⟩
    unfold txs
    rw [List.take_succ_eq_append_getElem hlt,List.filterMap_append,List.filterMap_cons_none h0,List.filterMap_nil,List.append_nil]
   ·have e0:(fun k=>oS (lput pl b sn z m pt wd f x st k)) ms[i] = .str (T (nput pl b sn z m pt wd f x ms[i])):=by show oS (lput pl b sn z m pt wd f x st ms[i])=_;rw [h0];rfl
    rw [e0]
    walk_at "rd"
    refine nxC (by rw [List.length_map];exact hlt) ⟨rfl,?_⟩
    unfold txs tsV
    rw [List.take_succ_eq_append_getElem hlt,List.filterMap_append,List.filterMap_cons_some h0,List.filterMap_nil,List.map_append];rfl
  ·rintro ys H3 ⟨rfl,rfl⟩ p3 H4 g4 e4
   rw [List.length_map,List.take_length] at e4
   walk_at "rd"
   have ll:(txs pl b sn z m pt wd f x st ms).length≤200:=by unfold txs;have:=List.length_filterMap_le (lput pl b sn z m pt wd f x st) ms;omega
   have lt:(tsV (txs pl b sn z m pt wd f x st ms)).length=(txs pl b sn z m pt wd f x st ms).length:=by unfold tsV;rw [List.length_map]
   rw [lt]
   generalize txs pl b sn z m pt wd f x st ms=ts at *
   refine r_kForR2 (by omega) (fun i σ H'=>H'=H4∧(∀ j,j < i→ltT (ts.getD j []) (ts.getD (j+1) [])=true) ∧ ∃ r:Option V,σ=[some (.ref l),some (.ref p),some (.ref p3),r]) ⟨rfl,fun j h=>absurd h (Nat.not_lt_zero _),none,rfl⟩ ?_ ?_
   ·rintro i σ H5 hlt ⟨rfl,ha,r,rfl⟩
    walk_at "rd"
    ·rename_i hc
     rw [show (1+(i:Int) - 1).toNat=i by omega,show (1+(i:Int)).toNat=i+1 by omega,Bool.not_eq_true'] at hc
     have q':=q _ (g1.trans (g2.trans g4))
     rw [riz_false (by omega) hc] at q'
     exact q'
    ·rename_i hc
     rw [show (1+(i:Int) - 1).toNat=i by omega,show (1+(i:Int)).toNat=i+1 by omega,Bool.not_eq_false'] at hc
     refine ⟨rfl,fun j hj=>?_,_,rfl⟩
     rcases Nat.lt_or_ge j i with h | h
     ·exact ha j h
     ·rw [show j=i by omega];exact hc
   ·rintro σ H5 ⟨rfl,ha,r,rfl⟩
    walk_at "rd"
    rw [← riz_true fun j hj=>ha j (by omega)]
    exact q _ (g1.trans (g2.trans g4))
theorem c_rising {K:W.Frag} {l p:Addr} {ms:List Int} {fg pl b:Int} {sn:Str} {z:Int} {m pt:Nat} {wy:Str} {wd:Int} {f:Nat} {x:Str} {st:Bool} {H:Hp} {Q:VK} {E:XK} (h1:SqL K H l (ms.map V.int)) (h2:ms.length≤200) (h3:SpecN H p fg pl b sn z m pt wy wd f x st) (h4:NumS fg pl b sn z m pt wy wd f x) (h5 : ∀ k ∈ ms,0≤k∧LimN fg pl b k) (q : ∀ H',Same H H'→Q (.bl (rizB (txs pl b sn z m pt wd f x st ms))) H'):sp_law_rising K ([.ref l,.ref p]++[]) H Q E:=⟨l,p,ms,fg,pl,b,sn,z,m,pt,wy,wd,f,x,st,rfl,h1,h2,h3,h4,h5,q⟩
def sp_law_drawn (K:W.Frag):Sp:=fun vs H Q _=>∃ (p:Addr) (c:Int) (fg pl b:Int) (sn:Str) (z:Int) (m pt:Nat) (wy:Str) (wd:Int) (f:Nat) (x:Str) (st:Bool),vs=[.ref p,.int c]∧SpecN H p fg pl b sn z m pt wy wd f x st∧NumS fg pl b sn z m pt wy wd f x ∧
 ∀ (q:Addr) (ms:List Int) (H':Hp),Same H H'→H' q=some (.lst (ms.map V.int))→ms.length≤200→ms.Pairwise (· < ·)→(∀ k ∈ ms,0≤k∧LimN fg pl b k)→Q (.ref q) H'
theorem c_drawn {K:W.Frag} {p:Addr} {c fg pl b:Int} {sn:Str} {z:Int} {m pt:Nat} {wy:Str} {wd:Int} {f:Nat} {x:Str} {st:Bool} {H:Hp} {Q:VK} {E:XK} (h1:SpecN H p fg pl b sn z m pt wy wd f x st) (h2:NumS fg pl b sn z m pt wy wd f x) (q : ∀ (q:Addr) (ms:List Int) (H':Hp),Same H H'→H' q=some (.lst (ms.map V.int))→ms.length≤200→ms.Pairwise (· < ·)→(∀ k ∈ ms,0≤k∧LimN fg pl b k)→Q (.ref q) H'):sp_law_drawn K ([.ref p,.int c]++[]) H Q E:=⟨p,c,fg,pl,b,sn,z,m,pt,wy,wd,f,x,st,rfl,h1,h2,q⟩
theorem ok_law_drawn {f:Addr} {fd:FuncData} (F:Fun K "_law_drawn" "_law_drawn" s_law_drawn f fd) (B:Blt mg) (C_law_power:Has P w K mg base "_law_power" 1 ["_law_base", "_law_times"] (sp_law_power K)) (C_law_great:Has P w K mg base "_law_great" 1 ["_law_cell", "_law_at", "_law_limit_here"] (sp_law_great K)) (C_law_pick:Has P w K mg base "_law_pick" 1 ["_law_cell", "_law_salt", "_law_many"] (sp_law_pick K)):FnOk P w K mg base CX0 2 f fd ["_law_spec", "_law_cell"] (sp_law_drawn K):=by
 refine F.ok sc_law_drawn (fun vs H Q E h=>?_) (fun cdv A outer s H vs Q E hr h=>?_)
 ·obtain ⟨p,c,fg,pl,b,sn,z,m,pt,wy,wd,f,x,st,rfl,hp,ok,q⟩:=h
  rfl
 obtain ⟨p,c,fg,pl,b,sn,z,m,pt,wy,wd,f,x,st,rfl,hp,ok,q⟩:=h
 refine ⟨_,pss_cons (ps_set (i:=2) sc_law_drawn.nd rfl (Or.inl rfl) (pe_callH C_law_power hr rfl (pa_cons (pe_ix ix_tup (pv 0) (pe_int) (fun _ _=>rfl)) (pa_cons (pe_op op_add (pe_ix ix_tup (pv 0) (pe_int) (fun _ _=>rfl)) (pe_ix ix_tup (pv 0) (pe_int) (fun _ _=>rfl))) (pa_nil)))))
  (pss_cons (ps_set (i:=3) sc_law_drawn.nd rfl (Or.inl rfl) (pe_lst (pa_cons (pe_int) (pa_cons (pe_int) (pa_cons (pe_op op_sub (pv 2) (pe_int)) (pa_nil))))))
  (pss_cons (ps_for PassesOwn.never rfl (pi_range1 rfl B.z_range (pa_cons (pe_int) (pa_nil))) (pg_name (i:=4) sc_law_drawn.nd rfl (Or.inl rfl)) (pss_cons (ps_set (i:=5) sc_law_drawn.nd rfl (Or.inl rfl) (pe_callH C_law_power hr rfl (pa_cons (pe_ix ix_tup (pv 0) (pe_int) (fun _ _=>rfl)) (pa_cons (pe_op op_add (pe_int) (pe_callH C_law_pick hr rfl (pa_cons (pv 1) (pa_cons (pe_op op_add (pe_int) (pv 4)) (pa_cons (pe_op op_add (pe_ix ix_tup (pv 0) (pe_int) (fun _ _=>rfl)) (pe_ix ix_tup (pv 0) (pe_int) (fun _ _=>rfl))) (pa_nil)))))) (pa_nil)))))
  (pss_cons (ps_set (i:=6) sc_law_drawn.nd rfl (Or.inl rfl) (pe_callH C_law_great hr rfl (pa_cons (pv 1) (pa_cons (pv 4) (pa_cons (pv 5) (pa_nil))))))
  (pss_one (ps_set (i:=3) sc_law_drawn.nd rfl (Or.inl rfl) (pe_op op_cat (pv 3) (pe_lst (pa_cons (pv 6) (pa_cons (pe_op op_sub (pv 5) (pe_int)) (pa_cons (pe_callBH (call_min2N rfl) B.z_min rfl bo_min (pa_cons (pv 5) (pa_cons (pe_op op_sub (pv 2) (pe_int)) (pa_nil)))) (pa_nil)))))))))))
  (pss_one (ps_ret (pe_callBH (call_sortedI rfl) B.z_sorted rfl bo_sorted (pa_cons (pe_callTy (call_setI rfl) rfl B.z_set bo_set (pa_cons (pv 3) (pa_nil))) (pa_nil))))))),?_⟩
 walk_at "st"
 have o1:=ok.fg1;have o2:=ok.fg2;have o3:=ok.pl1;have o4:=ok.pl2;have o5:=ok.b1;have o6:=ok.b2
 unfold SpecN at hp
 walk_at "rd"
 rename_i q0 H0 g0 e0
 have mono : ∀ t:Int,0≤t→t≤fg+pl→b ^ t.toNat≤b ^ (fg+pl).toNat:=fun t h0 h1=>by
  have e : ∀ n:Nat,b ^ n=((b.toNat ^ n:Nat):Int):=fun n=>by rw [Int.natCast_pow,Int.toNat_of_nonneg (by omega)]
  rw [e,e]
  exact Int.ofNat_le.mpr (Nat.pow_le_pow_right (show b.toNat > 0 by omega) (by omega))
 have two : ∀ t:Int,1≤t→2≤b ^ t.toNat:=fun t h=>by
  have e:t.toNat=(t - 1).toNat+1:=by omega
  have:=(pw_bd o5 o6 (t - 1).toNat).1
  rw [e,Int.pow_succ]
  have h2:=Int.mul_le_mul (show (1:Int)≤b ^ (t - 1).toNat by omega) o5 (by omega) (by omega)
  omega
 have L2:=two (fg+pl) (by omega)
 have hq : ∀ n:Nat,∀ k:Int,0≤k→k < b ^ (fg+pl).toNat→0≤k∧LimN fg pl b k:=fun _ k h0 h1=>⟨h0,(lim_lm o5 h0).mpr h1⟩
 generalize hL:b ^ (fg+pl).toNat=L at *
 refine r_kForR (by decide) (by decide) (fun i σ H'=>Same H H' ∧ ∃ (q:Addr) (ns:List Int) (r4 r5 r6:Option V),H' q=some (.lst (ns.map V.int))∧ns.length=3+3*i∧(∀ k ∈ ns,0≤k∧k < L)∧σ=[some (.ref p),some (.int c),some (.int L),some (.ref q),r4,r5,r6])
  ⟨g0,q0,[0,1,L - 1],none,none,none,e0,rfl,by simp only [List.mem_cons,List.not_mem_nil,or_false];rintro k (rfl | rfl | rfl) <;> omega,rfl⟩ ?_ ?_
 ·rintro i σ H1 hlt ⟨g1,q1,ns,r4,r5,r6,e1,ln,hn,rfl⟩
  have hp1:=g1.at hp
  walk_at "rd"
  rename_i v h0 h1
  have w1:=mono (1+v) (by omega) (by omega)
  have w2:=two (1+v) (by omega)
  refine c_great (by omega) (by omega) (by omega) fun sv s0 s1=>?_
  generalize b ^ (1+v).toNat=wi at *
  walk_at "rd"
  rename_i km hkm pn Hn gn en
  have h6:Int.toNat 6=6:=rfl
  refine r_cat (gn.at e1) en (small (by simp only [List.length_map,List.length_cons,List.length_nil];omega)) fun pc Hc gc ec=>?_
  walk_at "rd"
  refine ⟨g1.trans (gn.trans gc),pc,ns++[sv,wi - 1,km],_,_,_,by rw [List.map_append];exact ec,by simp only [List.length_append,List.length_cons,List.length_nil];omega,fun k hk=>?_,rfl⟩
  rcases List.mem_append.mp hk with hk | hk
  ·exact hn k hk
  ·simp only [List.mem_cons,List.not_mem_nil,or_false] at hk
   rcases hk with rfl | rfl | rfl <;> omega
 ·rintro σ H1 ⟨g1,q1,ns,r4,r5,r6,e1,ln,hn,rfl⟩
  walk_at "rd"
  refine r_setI (SqL.of e1) (by omega) fun q2 H2 g2 e2=>?_
  walk_at "rd"
  refine r_sortedI e2 (by omega) fun ms q3 H3 st mm lm g3 e3=>?_
  walk_at "rd"
  refine q q3 ms H3 (g1.trans (g2.trans g3)) e3 ?_ st fun k hk=>hq 0 k (hn k ((mm k).mp hk)).1 (hn k ((mm k).mp hk)).2
  have:Int.toNat 6=6:=rfl
  omega
theorem lm_bd {fg pl b:Int} (o5:2≤b) (o6:b≤16) (o1:1≤fg) (o2:fg≤12) (o3:0≤pl) (o4:pl≤6):1≤lmI fg pl b∧lmI fg pl b≤4722366482869645213696:=by
 have p:=pw_bd o5 o6 (fg+pl).toNat
 have q:=pw_mono (n:=(fg+pl).toNat) (m:=18) (by omega)
 have e:(16:Int) ^ 18=4722366482869645213696:=by decide
 exact ⟨p.1,by show b ^ (fg+pl).toNat≤_;omega⟩
theorem low_self {u v:Int} (hv:0 < v) (h:Int.gcd u v=1):low1 u v=u∧low2 u v=v:=by
 unfold low1 low2 lowS
 rw [if_neg (show ¬ v < 0 by omega),h]
 exact ⟨Int.fdiv_one u,Int.fdiv_one v⟩
theorem low_facts {k S L:Int} (h0:0≤k) (hS:0 < S) (h1:k < L) (h2:S < L):0≤low1 k S∧low1 k S < L∧0 < low2 k S∧low2 k S < L∧low1 k S*S=low2 k S*k∧Int.gcd (low1 k S) (low2 k S)=1:=by
 have a1:=low_mul1 k S
 have a2:=low_mul2 k S
 have g:=lowS_pos (t:=k) hS
 have bd:=low_bd (t:=k) (L:=L) hS h2 (by omega) h1
 refine ⟨?_,bd.2.1,bd.2.2.1,bd.2.2.2,?_,low_gcd1 hS⟩
 ·rcases Int.lt_or_le (low1 k S) 0 with z | z
  ·have:=Int.mul_neg_of_neg_of_pos z g
   omega
  ·exact z
 ·have e1:low1 k S*S=low1 k S*(low2 k S*lowS k S):=by rw [a2]
  have e2:low2 k S*k=low2 k S*(low1 k S*lowS k S):=by rw [a1]
  rw [e1,e2];ac_rfl
def sp_law_is_number (K:W.Frag):Sp:=fun vs H Q _=>∃ (a p:Addr) (u v k:Int) (fg pl b:Int) (sn:Str) (z:Int) (m pt:Nat) (wy:Str) (wd:Int) (f:Nat) (x:Str) (st:Bool),vs=[.ref a,.ref p]∧H a=some (.tup [.int u,.int v])∧SpecN H p fg pl b sn z m pt wy wd f x st∧NumS fg pl b sn z m pt wy wd f x ∧
 0≤u∧u < 100000000000000000000000000000∧0 < v∧v < 100000000000000000000000000000∧u*b ^ pl.toNat=v*k∧Int.gcd u v=1∧k < lmI fg pl b ∧ ∀ H',Same H H'→Q (.bl true) H'
theorem c_is_number {K:W.Frag} {a p:Addr} {u v k:Int} {fg pl b:Int} {sn:Str} {z:Int} {m pt:Nat} {wy:Str} {wd:Int} {f:Nat} {x:Str} {st:Bool} {H:Hp} {Q:VK} {E:XK} (h1:H a=some (.tup [.int u,.int v])) (h2:SpecN H p fg pl b sn z m pt wy wd f x st) (h3:NumS fg pl b sn z m pt wy wd f x) (h4:0≤u) (h5:u < 100000000000000000000000000000) (h6:0 < v) (h7:v < 100000000000000000000000000000) (h8:u*b ^ pl.toNat=v*k) (h9:Int.gcd u v=1) (h10:k < lmI fg pl b) (q : ∀ H',Same H H'→Q (.bl true) H'):sp_law_is_number K ([.ref a,.ref p]++[]) H Q E:=⟨a,p,u,v,k,fg,pl,b,sn,z,m,pt,wy,wd,f,x,st,rfl,h1,h2,h3,h4,h5,h6,h7,h8,h9,h10,q⟩
theorem ok_law_is_number {f:Addr} {fd:FuncData} (F:Fun K "_law_is_number" "_law_is_number" s_law_is_number f fd) (B:Blt mg) (C_law_power:Has P w K mg base "_law_power" 1 ["_law_base", "_law_times"] (sp_law_power K)) (C_law_whole:Has P w K mg base "_law_whole" 1 ["_law_thing"] (sp_law_whole K)) (C_law_lowest:Has P w K mg base "_law_lowest" 2 ["_law_top", "_law_bottom"] (sp_law_lowest K)) (C_law_limit:Has P w K mg base "_law_limit" 2 ["_law_spec"] (sp_law_limit K)):FnOk P w K mg base CX0 3 f fd ["_law_found", "_law_spec"] (sp_law_is_number K):=by
 refine F.ok sc_law_is_number (fun vs H Q E h=>?_) (fun cdv A outer s H vs Q E hr h=>?_)
 ·obtain ⟨a,p,u,v,k,fg,pl,b,sn,z,m,pt,wy,wd,f,x,st,rfl,ha,hp,ok,u0,u1,v0,v1,uk,gc,kl,q⟩:=h
  rfl
 obtain ⟨a,p,u,v,k,fg,pl,b,sn,z,m,pt,wy,wd,f,x,st,rfl,ha,hp,ok,u0,u1,v0,v1,uk,gc,kl,q⟩:=h
 refine ⟨_,pss_cons (ps_if (PW.pt (pw_or (pt_not (pt_val (pe_callBH call_isi B.z_isinstance rfl bo_isinstance (pa_cons (pv 0) (pa_cons (pe_bltn rfl B.z_tuple bo_tuple (v:=.ty "tuple") rfl) (pa_nil)))))) (pw_or (pt_cmpR op_ne (pe_callBH call_lenN B.z_len rfl bo_len (pa_cons (pv 0) (pa_nil))) (pe_int) (nomark _)) (pw_or (pt_not (pt_val (pe_callH C_law_whole hr rfl (pa_cons (pe_ix ix_tup (pv 0) (pe_int) (fun _ _=>rfl)) (pa_nil))))) (pw_or1 (pt_not (pt_val (pe_callH C_law_whole hr rfl (pa_cons (pe_ix ix_tup (pv 0) (pe_int) (fun _ _=>rfl)) (pa_nil)))))))))) (pss_one (ps_ret (pe_bl))) (pss_nil))
  (pss_cons (ps_set (i:=2) sc_law_is_number.nd rfl (Or.inl rfl) (pe_callH C_law_power hr rfl (pa_cons (pe_ix ix_tup (pv 1) (pe_int) (fun _ _=>rfl)) (pa_cons (pe_ix ix_tup (pv 1) (pe_int) (fun _ _=>rfl)) (pa_nil)))))
  (pss_cons (ps_if (PW.pt (pw_or (pt_cmpR op_lt (pe_ix ix_tup (pv 0) (pe_int) (fun _ _=>rfl)) (pe_int) (nomark _)) (pw_or (pt_cmpR op_lt (pe_ix ix_tup (pv 0) (pe_int) (fun _ _=>rfl)) (pe_int) (nomark _)) (pw_or1 (pt_cmpR op_ne (pe_op op_modP (pe_op op_mulA (pe_ix ix_tup (pv 0) (pe_int) (fun _ _=>rfl)) (pv 2)) (pe_ix ix_tup (pv 0) (pe_int) (fun _ _=>rfl))) (pe_int) (nomark _)))))) (pss_one (ps_ret (pe_bl))) (pss_nil))
  (pss_one (ps_ret (pe_and (pe_cmpR (op_eqT (hu_lt hr)) (pv 0) (pe_callH C_law_lowest hr rfl (pa_cons (pe_ix ix_tup (pv 0) (pe_int) (fun _ _=>rfl)) (pa_cons (pe_ix ix_tup (pv 0) (pe_int) (fun _ _=>rfl)) (pa_nil)))) (nomark _)) (pe_one (pe_cmpR op_lt (pe_op op_mulA (pe_ix ix_tup (pv 0) (pe_int) (fun _ _=>rfl)) (pv 2)) (pe_op op_mulA (pe_ix ix_tup (pv 0) (pe_int) (fun _ _=>rfl)) (pe_callH C_law_limit hr rfl (pa_cons (pv 1) (pa_nil)))) (nomark _)))))))),?_⟩
 walk_at "st"
 have o1:=ok.fg1;have o2:=ok.fg2;have o3:=ok.pl1;have o4:=ok.pl2;have o5:=ok.b1;have o6:=ok.b2
 have pw:=pw6 (b:=b) (t:=pl) o5 o6 o4
 have hp0:=hp
 unfold SpecN at hp
 have uz:u*b ^ pl.toNat % v=0:=by rw [uk];exact Int.mul_emod_right ..
 have lb:=lm_bd (fg:=fg) (pl:=pl) o5 o6 o1 o2 o3 o4
 have ls:=low_self v0 gc
 have cm:u*b ^ pl.toNat < v*lmI fg pl b:=by rw [uk];exact Int.mul_lt_mul_of_pos_left kl v0
 walk_at "rd"
 refine c_lowest v0 (by omega) fun p1 H1 g1 e1=>?_
 rw [ls.1,ls.2] at e1
 refine r_eqT (g1.at ha) e1 rfl rfl ?_
 rw [eqVs_pair,decide_eq_true rfl,decide_eq_true rfl,Bool.and_self]
 have ha1:=g1.at ha
 walk_at "rd"
 refine c_limit (g1.at hp0) ok ?_
 generalize lmI fg pl b=L at *
 walk_at "rd"
 rw [decide_eq_true cm]
 exact q _ g1
def sp_law_breaks (K:W.Frag):Sp:=fun vs H Q _=>∃ (a a1 a2 p:Addr) (k:Int) (fg pl b:Int) (sn:Str) (z:Int) (m pt:Nat) (wy:Str) (wd:Int) (f:Nat) (x:Str) (st:Bool),vs=[.ref a,.ref p]∧H a=some (.tup [.ref a1,.ref a2])∧H a1=some (.tup [.int (low1 (k - 1) (b ^ pl.toNat)),.int (low2 (k - 1) (b ^ pl.toNat))])∧H a2=some (.tup [.int (low1 k (b ^ pl.toNat)),.int (low2 k (b ^ pl.toNat))])∧SpecN H p fg pl b sn z m pt wy wd f x st∧NumS fg pl b sn z m pt wy wd f x ∧
 1≤k∧k < lmI fg pl b ∧ ¬ (st=true∧wd < (ncore pl b sn z m pt (k - 1)).length) ∧ ¬ (st=true∧wd < (ncore pl b sn z m pt k).length)∧ltT (nput pl b sn z m pt wd f x (k - 1)) (nput pl b sn z m pt wd f x k)=false ∧ ∀ H',Same H H'→Q (.bl true) H'
theorem ok_law_breaks {f:Addr} {fd:FuncData} (F:Fun K "_law_breaks" "_law_breaks" s_law_breaks f fd) (B:Blt mg) (C_law_power:Has P w K mg base "_law_power" 1 ["_law_base", "_law_times"] (sp_law_power K)) (C_law_put:Has P w K mg base "_law_put" 4 ["_law_steps", "_law_spec"] (sp_law_put K)) (C_law_is_number:Has P w K mg base "_law_is_number" 3 ["_law_found", "_law_spec"] (sp_law_is_number K)):FnOk P w K mg base CX0 5 f fd ["_law_found", "_law_spec"] (sp_law_breaks K):=by
 refine F.ok sc_law_breaks (fun vs H Q E h=>?_) (fun cdv A outer s H vs Q E hr h=>?_)
 ·obtain ⟨a,a1,a2,p,k,fg,pl,b,sn,z,m,pt,wy,wd,f,x,st,rfl,ha,ha1,ha2,hp,ok,k1,kl,w1,w2,hlt,q⟩:=h
  rfl
 obtain ⟨a,a1,a2,p,k,fg,pl,b,sn,z,m,pt,wy,wd,f,x,st,rfl,ha,ha1,ha2,hp,ok,k1,kl,w1,w2,hlt,q⟩:=h
 refine ⟨_,pss_cons (ps_if (PW.pt (pw_or (pt_not (pt_val (pe_callBH call_isi B.z_isinstance rfl bo_isinstance (pa_cons (pv 0) (pa_cons (pe_bltn rfl B.z_tuple bo_tuple (v:=.ty "tuple") rfl) (pa_nil)))))) (pw_or1 (pt_cmpR op_ne (pe_callBH call_lenN B.z_len rfl bo_len (pa_cons (pv 0) (pa_nil))) (pe_int) (nomark _))))) (pss_one (ps_ret (pe_bl))) (pss_nil))
  (pss_cons (ps_if (PW.pt (pw_or (pt_not (pt_val (pe_callH C_law_is_number hr rfl (pa_cons (pe_ix ix_tup (pv 0) (pe_int) (fun _ _=>rfl)) (pa_cons (pv 1) (pa_nil)))))) (pw_or1 (pt_not (pt_val (pe_callH C_law_is_number hr rfl (pa_cons (pe_ix ix_tup (pv 0) (pe_int) (fun _ _=>rfl)) (pa_cons (pv 1) (pa_nil))))))))) (pss_one (ps_ret (pe_bl))) (pss_nil))
  (pss_cons (ps_set (i:=2) sc_law_breaks.nd rfl (Or.inl rfl) (pe_callH C_law_power hr rfl (pa_cons (pe_ix ix_tup (pv 1) (pe_int) (fun _ _=>rfl)) (pa_cons (pe_ix ix_tup (pv 1) (pe_int) (fun _ _=>rfl)) (pa_nil)))))
  (pss_cons (ps_set (i:=3) sc_law_breaks.nd rfl (Or.inl rfl) (pe_op op_fdivB (pe_op op_mulA (pe_ix ix_tup (pe_ix ix_tup (pv 0) (pe_int) (fun _ _=>rfl)) (pe_int) (fun _ _=>rfl)) (pv 2)) (pe_ix ix_tup (pe_ix ix_tup (pv 0) (pe_int) (fun _ _=>rfl)) (pe_int) (fun _ _=>rfl))))
  (pss_cons (ps_set (i:=4) sc_law_breaks.nd rfl (Or.inl rfl) (pe_op op_fdivB (pe_op op_mulA (pe_ix ix_tup (pe_ix ix_tup (pv 0) (pe_int) (fun _ _=>rfl)) (pe_int) (fun _ _=>rfl)) (pv 2)) (pe_ix ix_tup (pe_ix ix_tup (pv 0) (pe_int) (fun _ _=>rfl)) (pe_int) (fun _ _=>rfl))))
  (pss_cons (ps_set (i:=5) sc_law_breaks.nd rfl (Or.inl rfl) (pe_lst (pa_cons (pe_callH C_law_put hr rfl (pa_cons (pv 3) (pa_cons (pv 1) (pa_nil)))) (pa_cons (pe_callH C_law_put hr rfl (pa_cons (pv 4) (pa_cons (pv 1) (pa_nil)))) (pa_nil)))))
  (pss_one (ps_ret (pe_and (pe_cmpR op_lt (pv 3) (pv 4) (nomark _)) (pe_and (pe_cmpR op_notIn_seq (pe_non) (pv 5) (by with_unfolding_all rfl)) (pe_one (pe_not (pe_cmpR op_ltS (pe_ix ix_list (pv 5) (pe_int) (fun _ _=>rfl)) (pe_ix ix_list (pv 5) (pe_int) (fun _ _=>rfl)) (nomark _))))))))))))),?_⟩
 walk_at "st"
 have o1:=ok.fg1;have o2:=ok.fg2;have o3:=ok.pl1;have o4:=ok.pl2;have o5:=ok.b1;have o6:=ok.b2
 have pw:=pw6 (b:=b) (t:=pl) o5 o6 o4
 have lb:=lm_bd (fg:=fg) (pl:=pl) o5 o6 o1 o2 o3 o4
 have f1:=low_facts (k:=k - 1) (S:=b ^ pl.toNat) (L:=100000000000000000000000000000) (by omega) (by omega) (by omega) (by omega)
 have f2:=low_facts (k:=k) (S:=b ^ pl.toNat) (L:=100000000000000000000000000000) (by omega) (by omega) (by omega) (by omega)
 have l1:LimN fg pl b (k - 1):=(lim_lm o5 (by omega)).mpr (by omega)
 have l2:LimN fg pl b k:=(lim_lm o5 (by omega)).mpr kl
 have hp0:=hp
 unfold SpecN at hp
 generalize low1 (k - 1) (b ^ pl.toNat)=u1 at *
 generalize low2 (k - 1) (b ^ pl.toNat)=v1 at *
 generalize low1 k (b ^ pl.toNat)=u2 at *
 generalize low2 k (b ^ pl.toNat)=v2 at *
 obtain ⟨a3,a4,a5,a6,a7,a8⟩:=f1
 obtain ⟨b3,b4,b5,b6,b7,b8⟩:=f2
 walk_at "rd"
 refine c_is_number ha1 hp0 ok a3 a4 a5 a6 a7 a8 (by omega) fun H1 g1=>?_
 have ha':=g1.at ha
 walk_at "rd"
 refine c_is_number (g1.at ha2) (show SpecN H1 p fg pl b sn z m pt wy wd f x st from g1.at hp0) ok b3 b4 b5 b6 b7 b8 kl fun H2 g2=>?_
 have gA:=g1.trans g2
 have hA:=gA.at ha
 have hA1:=gA.at ha1
 have hA2:=gA.at ha2
 have hpA:=gA.at hp
 clear ha ha1 ha2 hp ha'
 have q1:u1*b ^ pl.toNat / v1=k - 1:=by rw [a7];exact Int.mul_ediv_cancel_left _ (by omega)
 have q2:u2*b ^ pl.toNat / v2=k:=by rw [b7];exact Int.mul_ediv_cancel_left _ (by omega)
 walk_at "rd"
 rw [q1,q2]
 have hq2:SpecN H2 p fg pl b sn z m pt wy wd f x st:=gA.at hp0
 refine c_lput hq2 ok l1 fun H3 g3=>?_
 have hq3:SpecN H3 p fg pl b sn z m pt wy wd f x st:=g3.at hq2
 walk_at "rd"
 refine c_lput hq3 ok l2 fun H4 g4=>?_
 have e1:lput pl b sn z m pt wd f x st (k - 1)=some (nput pl b sn z m pt wd f x (k - 1)):=by unfold lput;rw [if_neg w1]
 have e2:lput pl b sn z m pt wd f x st k=some (nput pl b sn z m pt wd f x k):=by unfold lput;rw [if_neg w2]
 rw [e1,e2]
 walk_at "rd"
 rename_i p5 H5 g5 e5
 refine r_ninO2 (SqL.of e5) ?_
 have e5':H5 p5=some (.lst [.str (T (nput pl b sn z m pt wd f x (k - 1))),.str (T (nput pl b sn z m pt wd f x k))]):=e5
 clear e5
 simp only [Option.isNone,Bool.or_self,Bool.not_false]
 walk_at "rd"
 rw [hlt]
 exact q _ (gA.trans (g3.trans (g4.trans g5)))
theorem c_breaks {K:W.Frag} {a a1 a2 p:Addr} {k:Int} {fg pl b:Int} {sn:Str} {z:Int} {m pt:Nat} {wy:Str} {wd:Int} {f:Nat} {x:Str} {st:Bool} {H:Hp} {Q:VK} {E:XK} (h1:H a=some (.tup [.ref a1,.ref a2])) (h2:H a1=some (.tup [.int (low1 (k - 1) (b ^ pl.toNat)),.int (low2 (k - 1) (b ^ pl.toNat))])) (h3:H a2=some (.tup [.int (low1 k (b ^ pl.toNat)),.int (low2 k (b ^ pl.toNat))])) (h4:SpecN H p fg pl b sn z m pt wy wd f x st) (h5:NumS fg pl b sn z m pt wy wd f x) (h6:1≤k) (h7:k < lmI fg pl b) (h8 : ¬ (st=true∧wd < (ncore pl b sn z m pt (k - 1)).length)) (h9 : ¬ (st=true∧wd < (ncore pl b sn z m pt k).length)) (h10:ltT (nput pl b sn z m pt wd f x (k - 1)) (nput pl b sn z m pt wd f x k)=false) (q : ∀ H',Same H H'→Q (.bl true) H'):sp_law_breaks K ([.ref a,.ref p]++[]) H Q E:=⟨a,a1,a2,p,k,fg,pl,b,sn,z,m,pt,wy,wd,f,x,st,rfl,h1,h2,h3,h4,h5,h6,h7,h8,h9,h10,q⟩
local macro_rules | `(tactic| walk_at "rdc")=>`(tactic| (with_reducible refine r_forR3 ?_))
theorem bo_range:bootBuiltins "range" = some (.type "range"):=by decide +kernel
theorem stepB3 {j:Int} (h0:1≤j) (h1:j≤1000):StepB 0 j 3 ((j+2) / 3).toNat:=by
 have e:Builtin.Range.rangeSize 0 j 3=(j+2) / 3:=by
  unfold Builtin.Range.rangeSize
  rw [if_pos (by decide),if_pos (by omega)];omega
 refine ⟨by decide,?_,by rw [e];omega,PyProof.noPylong_small (by omega)⟩
 unfold Builtin.Range.small
 rw [e]
 simp only [Builtin.Range.rangeFitsLong,Bool.and_eq_true,Bool.or_eq_true,decide_eq_true_eq,beq_iff_eq,show (3:Int) > 0 by decide,if_true]
 omega
theorem kk_lm {fg b pl:Int} {i:Nat} (h:2≤b) (h0:0≤pl) (hi:(i:Int)+1 < fg):kk b pl i < lmI fg pl b:=(lim_lm h (by have:=kk_pos (pl:=pl) (i:=i) h;omega)).mp (kk_lim h h0 hi).1
theorem up_lim {fg b pl:Int} (h:2≤b) {n:Nat} (hn:(n:Int)≤lmI fg pl b) : ∀ k ∈ upTo n,0≤k∧LimN fg pl b k:=fun k hk=>by
 obtain ⟨i,hi,rfl⟩:=List.mem_map.mp hk
 have:=List.mem_range.mp hi
 exact ⟨by omega,(lim_lm h (by omega)).mpr (by omega)⟩
theorem up_pair (n:Nat):(upTo n).Pairwise (· < ·):=by
 unfold upTo
 rw [List.pairwise_map]
 exact List.Pairwise.imp (fun h=>by omega) List.pairwise_lt_range
def sp_law (K:W.Frag):Sp:=fun vs H Q _=>∃ (a:Addr) (ns:List Int),vs=[.ref a]∧SqL K H a (ns.map V.int)∧ns.length≤63 ∧ ∀ H',Q (.bl true) H'
theorem ok_law {f:Addr} {fd:FuncData} (F:Fun K "law" "law" s_law f fd) (B:Blt mg) {c_NumberForm:Addr} (C_law_cell_at:Has P w K mg base "_law_cell_at" 1 ["_law_script", "_law_k"] (sp_law_cell_at K)) (C_law_number_spec:Has P w K mg base "_law_number_spec" 3 ["_law_cell", "_law_other", "_law_small"] (sp_law_number_spec K)) (C_in_order:Has P w K mg base "in_order" 7 ["form"] (sp_in_order K c_NumberForm)) (C_law_pick:Has P w K mg base "_law_pick" 1 ["_law_cell", "_law_salt", "_law_many"] (sp_law_pick K)) (C_law_number_form:Has P w K mg base "_law_number_form" 4 ["_law_spec"] (sp_law_number_form K c_NumberForm)) (C_law_limit:Has P w K mg base "_law_limit" 2 ["_law_spec"] (sp_law_limit K)) (C_law_rising:Has P w K mg base "_law_rising" 5 ["_law_some", "_law_spec"] (sp_law_rising K)) (C_law_breaks:Has P w K mg base "_law_breaks" 5 ["_law_found", "_law_spec"] (sp_law_breaks K)) (C_law_drawn:Has P w K mg base "_law_drawn" 2 ["_law_spec", "_law_cell"] (sp_law_drawn K)):FnOk P w K mg base CX0 8 f fd ["_law_script"] (sp_law K):=by
 refine F.ok sc_law (fun vs H Q E h=>?_) (fun cdv A outer s H vs Q E hr h=>?_)
 ·obtain ⟨a,ns,rfl,hS,h63,k⟩:=h
  rfl
 obtain ⟨a,ns,rfl,hS,h63,k⟩:=h
 refine ⟨_,pss_cons (ps_for PassesOwn.never rfl (pi_rangeS rfl B.z_range (pa_cons (pe_int) (pa_cons (pe_callBH (call_max2N rfl) B.z_max rfl bo_max (pa_cons (pe_int) (pa_cons (pe_callBH (call_min2N rfl) B.z_min rfl bo_min (pa_cons (pe_callBH call_lenN B.z_len rfl bo_len (pa_cons (pv 0) (pa_nil))) (pa_cons (pe_int) (pa_nil)))) (pa_nil)))) (pa_cons (pe_int) (pa_nil))))) (pg_name (i:=1) sc_law.nd rfl (Or.inl rfl)) (pss_cons (ps_set (i:=2) sc_law.nd rfl (Or.inl rfl) (pe_callH C_law_cell_at hr rfl (pa_cons (pv 0) (pa_cons (pv 1) (pa_nil)))))
  (pss_cons (ps_set (i:=3) sc_law.nd rfl (Or.inl rfl) (pe_callH C_law_number_spec hr rfl (pa_cons (pv 2) (pa_cons (pe_callH C_law_cell_at hr rfl (pa_cons (pv 0) (pa_cons (pe_op op_add (pv 1) (pe_int)) (pa_nil)))) (pa_cons (pe_callH C_law_pick hr rfl (pa_cons (pv 2) (pa_cons (pe_int) (pa_cons (pe_int) (pa_nil))))) (pa_nil))))))
  (pss_cons (ps_set (i:=4) sc_law.nd rfl (Or.inl rfl) (pe_callH C_in_order hr rfl (pa_cons (pe_callH C_law_number_form hr rfl (pa_cons (pv 3) (pa_nil))) (pa_nil))))
  (pss_cons (ps_set (i:=5) sc_law.nd rfl (Or.inl rfl) (pe_cmpR op_le (pe_callH C_law_limit hr rfl (pa_cons (pv 3) (pa_nil))) (pe_int) (nomark _)))
  (pss_cons (ps_if (PW.pt (pw_and (pt_cmpR op_isN2 (pv 4) (pe_non) (nomark _)) (pw_and1 (pt_not (pt_val (pe_callH C_law_rising hr rfl (pa_cons (pe_callH C_law_drawn hr rfl (pa_cons (pv 3) (pa_cons (pe_callH C_law_cell_at hr rfl (pa_cons (pv 0) (pa_cons (pe_op op_add (pv 1) (pe_int)) (pa_nil)))) (pa_nil)))) (pa_cons (pv 3) (pa_nil))))))))) (pss_one (ps_ret (pe_bl))) (pss_nil))
  (pss_cons (ps_if (PW.pt (pw_and (pt_val (pv 5)) (pw_and1 (pt_cmpR op_ne (pe_cmpR op_isN2 (pv 4) (pe_non) (nomark _)) (pe_callH C_law_rising hr rfl (pa_cons (pe_callTy (call_listR rfl) rfl B.z_list bo_list (pa_cons (pe_callTy call_rng rfl B.z_range bo_range (pa_cons (pe_callBH (call_min2N rfl) B.z_min rfl bo_min (pa_cons (pe_int) (pa_cons (pe_callH C_law_limit hr rfl (pa_cons (pv 3) (pa_nil))) (pa_nil)))) (pa_nil))) (pa_nil))) (pa_cons (pv 3) (pa_nil)))) (nomark _))))) (pss_one (ps_ret (pe_bl))) (pss_nil))
  (pss_one (ps_if (PW.pt (pw_and (pt_cmpR op_notN2 (pv 4) (pe_non) (nomark _)) (pw_and1 (pt_not (pt_val (pe_callH C_law_breaks hr rfl (pa_cons (pv 4) (pa_cons (pv 3) (pa_nil))))))))) (pss_one (ps_ret (pe_bl))) (pss_nil))))))))))
  (pss_one (ps_ret (pe_bl))),?_⟩
 walk_at "st"
 walk_at "rd"
 rename_i k1 hk1 k0 hk0
 rw [List.length_map] at hk1
 refine r_kForR3 (stepB3 (by omega) (by omega)) (fun i σ H'=>Same H H' ∧ ∃ r1 r2 r3 r4 r5:Option V,σ=[some (.ref a),r1,r2,r3,r4,r5]) ⟨Same.refl _,none,none,none,none,none,rfl⟩ ?_ ?_
 ·rintro i σ H1 hlt ⟨gg,r1,r2,r3,r4,r5,rfl⟩
  have hS1:=gg.seq hS
  clear hS
  walk_at "rd"
  rename_i c1 c2 s1 s2 s3
  refine ⟨_,_,_,rfl,by omega,fun p H2 fg pl b sn z m pt wy wd f x st g2 ok hp=>?_⟩
  have hS2:=g2.seq hS1
  have o1:=ok.fg1;have o2:=ok.fg2;have o3:=ok.pl1;have o4:=ok.pl2;have o5:=ok.b1;have o6:=ok.b2
  have lb:=lm_bd (fg:=fg) (pl:=pl) o5 o6 o1 o2 o3 o4
  walk_at "rd"
  refine ⟨p,fg,pl,b,sn,z,m,pt,wy,wd,f,x,st,rfl,hp,fun o H3 g3 F3=>?_⟩
  have hS3:=g3.seq hS2
  have hp3:SpecN H3 p fg pl b sn z m pt wy wd f x st:=g3.at hp
  clear hp hS2
  walk_at "rd"
  refine c_in_order F3 ok (fun hn H4 g4=>?_) (fun j hj lj pp p1 p2 H4 g4 e0 e1 e2=>?_)
  ·have hS4:=g4.seq hS3
   have hp4:SpecN H4 p fg pl b sn z m pt wy wd f x st:=g4.at hp3
   clear hp3 hS3
   walk_at "rd"
   refine c_limit hp4 ok ?_
   walk_at "rd"
   refine c_drawn hp4 ok fun q5 ms H5 g5 e5 l5 st5 hm5=>?_
   walk_at "rd"
   refine c_rising (SqL.of e5) l5 (show SpecN H5 p fg pl b sn z m pt wy wd f x st from g5.at hp4) ok hm5 fun H6 g6=>?_
   rw [riz_up ok hn hm5 st5]
   have hp6:SpecN H6 p fg pl b sn z m pt wy wd f x st:=g6.at (g5.at hp4)
   have gA:=gg.trans (g2.trans (g3.trans (g4.trans (g5.trans g6))))
   walk_at "rd"
   ·rename_i hc
    refine c_limit hp6 ok ?_
    walk_at "rd"
    rename_i km hkm
    refine r_rng fun q7 H7 g7 e7=>?_
    walk_at "rd"
    refine r_listR e7 (by omega) (by omega) fun q8 H8 g8 e8=>?_
    have e8':H8 q8=some (.lst ((upTo km.toNat).map V.int)):=by rw [e8];unfold upTo;rw [List.map_map];rfl
    have ul:=up_lim (fg:=fg) (pl:=pl) o5 (n:=km.toNat) (by omega)
    walk_at "rd"
    refine c_rising (SqL.of e8') (by unfold upTo;rw [List.length_map,List.length_range];omega) (show SpecN H8 p fg pl b sn z m pt wy wd f x st from g8.at (g7.at hp6)) ok ul fun H9 g9=>?_
    rw [riz_up ok hn ul (up_pair _)]
    refine r_ne rfl ?_
    rw [decide_eq_true rfl]
    walk_at "rd"
    exact ⟨gA.trans (g7.trans (g8.trans g9)),_,_,_,_,_,rfl⟩
   ·exact ⟨gA,_,_,_,_,_,rfl⟩
  ·have hS4:=g4.seq hS3
   have hp4:SpecN H4 p fg pl b sn z m pt wy wd f x st:=g4.at hp3
   clear hp3 hS3
   have gA:=gg.trans (g2.trans (g3.trans g4))
   walk_at "rd"
   refine c_limit hp4 ok ?_
   walk_at "rd"
   refine r_isNR ?_
   have kp:=kk_pos (pl:=pl) (i:=j) o5
   have km1:=kk_lm (fg:=fg) (pl:=pl) (i:=j) o5 o3 lj
   obtain ⟨w0,l0⟩:=inO_some _ _ _ hj
   obtain ⟨w1,w2⟩:=not_wd (pl:=pl) (sn:=sn) (z:=z) (m:=m) (pt:=pt) (wd:=wd) (st:=st) (i:=j) o5 (by rw [w0];decide)
   walk_at "rd"
   ·rename_i hc
    refine r_isNR ?_
    walk_at "rd"
    refine c_limit hp4 ok ?_
    walk_at "rd"
    rename_i km hkm
    refine r_rng fun q7 H7 g7 e7=>?_
    walk_at "rd"
    refine r_listR e7 (by omega) (by omega) fun q8 H8 g8 e8=>?_
    have e8':H8 q8=some (.lst ((upTo km.toNat).map V.int)):=by rw [e8];unfold upTo;rw [List.map_map];rfl
    have ul:=up_lim (fg:=fg) (pl:=pl) o5 (n:=km.toNat) (by omega)
    walk_at "rd"
    refine c_rising (SqL.of e8') (by unfold upTo;rw [List.length_map,List.length_range];omega) (show SpecN H8 p fg pl b sn z m pt wy wd f x st from g8.at (g7.at hp4)) ok ul fun H9 g9=>?_
    rw [riz_down ok hj (n:=km.toNat) (by omega)]
    refine r_ne rfl ?_
    rw [decide_eq_true rfl]
    have gB:=g7.trans (g8.trans g9)
    walk_at "rd"
    refine c_breaks (gB.at e0) (gB.at e1) (gB.at e2) (show SpecN H9 p fg pl b sn z m pt wy wd f x st from gB.at hp4) ok kp km1 w2 w1 l0 fun H10 g10=>?_
    walk_at "rd"
    exact ⟨gA.trans (gB.trans g10),_,_,_,_,_,rfl⟩
   ·refine c_breaks e0 e1 e2 hp4 ok kp km1 w2 w1 l0 fun H10 g10=>?_
    walk_at "rd"
    exact ⟨gA.trans g10,_,_,_,_,_,rfl⟩
 ·rintro σ H1 ⟨gg,r1,r2,r3,r4,r5,rfl⟩
  walk_at "rd"
  exact k _
end
theorem all_mk {l:W.OpenLaw} {w:World} {K:W.Frag} {h:Heap} {mg:Str→Option Value} {fa f0 f1 f2 f3 f4 f5 f6 f7 f8 f9 f10 f11 f12 f13 f14 f15 f16 f17 f18 f19 f20 f21 f22 f23 f24 f25 f26 f27 f28 f29 f30 f31 f32 f33 f34 f35 f36 f37 f38 f39 f40 f41 f42 f43 f44 f45 f46 f47 f48 f49:Addr} (X:K.In h) (G:h.Ns mainGlobals mg) (hfa:mg "law" = some (.ref fa))
  {od0 an0 od1 an1 od2 an2 od3 an3 od4 an4 od5 an5 od6 an6 od7 an7 od8 an8 od9 an9 od10 an10 od11 an11 od12 an12 od13 an13 od14 an14 od15 an15 od16 an16 od17 an17 od18 an18 od19 an19 od20 an20 od21 an21 od22 an22 od23 an23 od24 an24 od25 an25 od26 an26 od27 an27 od28 an28 od29 an29 od30 an30 od31 an31 od32 an32 od33 an33 od34 an34 od35 an35 od36 an36 od37 an37 od38 an38 od39 an39 od40 an40 od41 an41 od42 an42 od43 an43 od44 an44 od45 an45 od46 an46 od47 an47 od48 an48 od49 an49:Option Addr} {sl0 sl1 sl2 sl3 sl4 sl5 sl6 sl7 sl8 sl9 sl10 sl11 sl12 sl13 sl14 sl15 sl16 sl17 sl18 sl19 sl20 sl21 sl22 sl23 sl24 sl25 sl26 sl27 sl28 sl29 sl30 sl31 sl32 sl33 sl34 sl35 sl36 sl37 sl38 sl39 sl40 sl41 sl42 sl43 sl44 sl45 sl46 sl47 sl48 sl49:Array (Option Value)} {oc0 kV0 dc0 pm0 cd0 ct0 oc1 kV1 dc1 pm1 cd1 ct1 oc2 kV2 dc2 pm2 cd2 ct2 oc3 kV3 dc3 pm3 cd3 ct3 oc4 kV4 dc4 pm4 cd4 ct4 oc5 kV5 dc5 pm5 cd5 ct5 oc6 kV6 dc6 pm6 cd6 ct6 oc7 kV7 dc7 pm7 cd7 ct7 oc8 kV8 dc8 pm8 cd8 ct8 oc9 kV9 dc9 pm9 cd9 ct9 oc10 kV10 dc10 pm10 cd10 ct10 oc11 kV11 dc11 pm11 cd11 ct11 oc12 kV12 dc12 pm12 cd12 ct12 oc13 kV13 dc13 pm13 cd13 ct13 oc14 kV14 dc14 pm14 cd14 ct14 oc15 kV15 dc15 pm15 cd15 ct15 oc16 kV16 dc16 pm16 cd16 ct16 oc17 kV17 dc17 pm17 cd17 ct17 oc18 kV18 dc18 pm18 cd18 ct18 oc19 kV19 dc19 pm19 cd19 ct19 oc20 kV20 dc20 pm20 cd20 ct20 ocD20 d20v0 d20v1 d20v2 d20v3 d20v4 d20v5 d20v6 d20v7 d20v8 d20v9 oc21 kV21 dc21 pm21 cd21 ct21 oc22 kV22 dc22 pm22 cd22 ct22 oc23 kV23 dc23 pm23 cd23 ct23 oc24 kV24 dc24 pm24 cd24 ct24 oc25 kV25 dc25 pm25 cd25 ct25 oc26 kV26 dc26 pm26 cd26 ct26 oc27 kV27 dc27 pm27 cd27 ct27 oc28 kV28 dc28 pm28 cd28 ct28 oc29 kV29 dc29 pm29 cd29 ct29 oc30 kV30 dc30 pm30 cd30 ct30 oc31 kV31 dc31 pm31 cd31 ct31 oc32 kV32 dc32 pm32 cd32 ct32 oc33 kV33 dc33 pm33 cd33 ct33 oc34 kV34 dc34 pm34 cd34 ct34 oc35 kV35 dc35 pm35 cd35 ct35 oc36 kV36 dc36 pm36 cd36 ct36 oc37 kV37 dc37 pm37 cd37 ct37 oc38 kV38 dc38 pm38 cd38 ct38 oc39 kV39 dc39 pm39 cd39 ct39 oc40 kV40 dc40 pm40 cd40 ct40 oc41 kV41 dc41 pm41 cd41 ct41 oc42 kV42 dc42 pm42 cd42 ct42 oc43 kV43 dc43 pm43 cd43 ct43 oc44 kV44 dc44 pm44 cd44 ct44 oc45 kV45 dc45 pm45 cd45 ct45 oc46 kV46 dc46 pm46 cd46 ct46 oc47 kV47 dc47 pm47 cd47 ct47 oc48 kV48 dc48 pm48 cd48 ct48 oc49 kV49 dc49 pm49 cd49 ct49:Value} {tD20:Addr} {odD20:Option Addr} {nD20:Nat} {slD20:Array (Option Value)} {c_NoCore c_Form c_NumberForm:Addr} {t_FIGURES:Tok} {t_STYLES:Addr}
  (a0:W.nsIn K mainGlobals "_law_cell_at" = some (some (.ref f0))) (l0:K.lookup f0=some ⟨oc0,od0,.func (W.fnOf "_law_cell_at" "_law_cell_at" (defArgs s_law_cell_at) (defBody s_law_cell_at) (defScope s_law_cell_at) .none kV0 dc0 pm0 an0 cd0 ct0),sl0⟩) (c0:W.codeIn K cd0 "_law_cell_at" = true) (k0:W.keepIn K (.ref f0)=true)
  (a1:W.nsIn K mainGlobals "_law_pick" = some (some (.ref f1))) (l1:K.lookup f1=some ⟨oc1,od1,.func (W.fnOf "_law_pick" "_law_pick" (defArgs s_law_pick) (defBody s_law_pick) (defScope s_law_pick) .none kV1 dc1 pm1 an1 cd1 ct1),sl1⟩) (c1:W.codeIn K cd1 "_law_pick" = true) (k1:W.keepIn K (.ref f1)=true)
  (a2:W.nsIn K mainGlobals "pads_of" = some (some (.ref f2))) (l2:K.lookup f2=some ⟨oc2,od2,.func (W.fnOf "pads_of" "pads_of" (defArgs s_pads_of) (defBody s_pads_of) (defScope s_pads_of) .none kV2 dc2 pm2 an2 cd2 ct2),sl2⟩) (c2:W.codeIn K cd2 "pads_of" = true) (k2:W.keepIn K (.ref f2)=true)
  (a3:W.nsIn K mainGlobals "padded" = some (some (.ref f3))) (l3:K.lookup f3=some ⟨oc3,od3,.func (W.fnOf "padded" "padded" (defArgs s_padded) (defBody s_padded) (defScope s_padded) .none kV3 dc3 pm3 an3 cd3 ct3),sl3⟩) (c3:W.codeIn K cd3 "padded" = true) (k3:W.keepIn K (.ref f3)=true)
  (a4:W.nsIn K mainGlobals "power_of" = some (some (.ref f4))) (l4:K.lookup f4=some ⟨oc4,od4,.func (W.fnOf "power_of" "power_of" (defArgs s_power_of) (defBody s_power_of) (defScope s_power_of) .none kV4 dc4 pm4 an4 cd4 ct4),sl4⟩) (c4:W.codeIn K cd4 "power_of" = true) (k4:W.keepIn K (.ref f4)=true)
  (a5:W.nsIn K mainGlobals "goes_up" = some (some (.ref f5))) (l5:K.lookup f5=some ⟨oc5,od5,.func (W.fnOf "goes_up" "goes_up" (defArgs s_goes_up) (defBody s_goes_up) (defScope s_goes_up) .none kV5 dc5 pm5 an5 cd5 ct5),sl5⟩) (c5:W.codeIn K cd5 "goes_up" = true) (k5:W.keepIn K (.ref f5)=true)
  (a6:W.nsIn K mainGlobals "gridded" = some (some (.ref f6))) (l6:K.lookup f6=some ⟨oc6,od6,.func (W.fnOf "gridded" "gridded" (defArgs s_gridded) (defBody s_gridded) (defScope s_gridded) .none kV6 dc6 pm6 an6 cd6 ct6),sl6⟩) (c6:W.codeIn K cd6 "gridded" = true) (k6:W.keepIn K (.ref f6)=true)
  (a7:W.nsIn K mainGlobals "figures_of" = some (some (.ref f7))) (l7:K.lookup f7=some ⟨oc7,od7,.func (W.fnOf "figures_of" "figures_of" (defArgs s_figures_of) (defBody s_figures_of) (defScope s_figures_of) .none kV7 dc7 pm7 an7 cd7 ct7),sl7⟩) (c7:W.codeIn K cd7 "figures_of" = true) (k7:W.keepIn K (.ref f7)=true)
  (a8:W.nsIn K mainGlobals "parts_of" = some (some (.ref f8))) (l8:K.lookup f8=some ⟨oc8,od8,.func (W.fnOf "parts_of" "parts_of" (defArgs s_parts_of) (defBody s_parts_of) (defScope s_parts_of) .none kV8 dc8 pm8 an8 cd8 ct8),sl8⟩) (c8:W.codeIn K cd8 "parts_of" = true) (k8:W.keepIn K (.ref f8)=true)
  (a9:W.nsIn K mainGlobals "grouped" = some (some (.ref f9))) (l9:K.lookup f9=some ⟨oc9,od9,.func (W.fnOf "grouped" "grouped" (defArgs s_grouped) (defBody s_grouped) (defScope s_grouped) .none kV9 dc9 pm9 an9 cd9 ct9),sl9⟩) (c9:W.codeIn K cd9 "grouped" = true) (k9:W.keepIn K (.ref f9)=true)
  (a10:W.nsIn K mainGlobals "body_of" = some (some (.ref f10))) (l10:K.lookup f10=some ⟨oc10,od10,.func (W.fnOf "body_of" "body_of" (defArgs s_body_of) (defBody s_body_of) (defScope s_body_of) .none kV10 dc10 pm10 an10 cd10 ct10),sl10⟩) (c10:W.codeIn K cd10 "body_of" = true) (k10:W.keepIn K (.ref f10)=true)
  (a11:W.nsIn K mainGlobals "ends_of" = some (some (.ref f11))) (l11:K.lookup f11=some ⟨oc11,od11,.func (W.fnOf "ends_of" "ends_of" (defArgs s_ends_of) (defBody s_ends_of) (defScope s_ends_of) .none kV11 dc11 pm11 an11 cd11 ct11),sl11⟩) (c11:W.codeIn K cd11 "ends_of" = true) (k11:W.keepIn K (.ref f11)=true)
  (a12:W.nsIn K mainGlobals "signed" = some (some (.ref f12))) (l12:K.lookup f12=some ⟨oc12,od12,.func (W.fnOf "signed" "signed" (defArgs s_signed) (defBody s_signed) (defScope s_signed) .none kV12 dc12 pm12 an12 cd12 ct12),sl12⟩) (c12:W.codeIn K cd12 "signed" = true) (k12:W.keepIn K (.ref f12)=true)
  (a13:W.nsIn K mainGlobals "stands_between_figures" = some (some (.ref f13))) (l13:K.lookup f13=some ⟨oc13,od13,.func (W.fnOf "stands_between_figures" "stands_between_figures" (defArgs s_stands_between_figures) (defBody s_stands_between_figures) (defScope s_stands_between_figures) .none kV13 dc13 pm13 an13 cd13 ct13),sl13⟩) (c13:W.codeIn K cd13 "stands_between_figures" = true) (k13:W.keepIn K (.ref f13)=true)
  (a14:W.nsIn K mainGlobals "unsigned" = some (some (.ref f14))) (l14:K.lookup f14=some ⟨oc14,od14,.func (W.fnOf "unsigned" "unsigned" (defArgs s_unsigned) (defBody s_unsigned) (defScope s_unsigned) .none kV14 dc14 pm14 an14 cd14 ct14),sl14⟩) (c14:W.codeIn K cd14 "unsigned" = true) (k14:W.keepIn K (.ref f14)=true)
  (a15:W.nsIn K mainGlobals "is_whole" = some (some (.ref f15))) (l15:K.lookup f15=some ⟨oc15,od15,.func (W.fnOf "is_whole" "is_whole" (defArgs s_is_whole) (defBody s_is_whole) (defScope s_is_whole) .none kV15 dc15 pm15 an15 cd15 ct15),sl15⟩) (c15:W.codeIn K cd15 "is_whole" = true) (k15:W.keepIn K (.ref f15)=true)
  (a16:W.nsIn K mainGlobals "common_divisor" = some (some (.ref f16))) (l16:K.lookup f16=some ⟨oc16,od16,.func (W.fnOf "common_divisor" "common_divisor" (defArgs s_common_divisor) (defBody s_common_divisor) (defScope s_common_divisor) .none kV16 dc16 pm16 an16 cd16 ct16),sl16⟩) (c16:W.codeIn K cd16 "common_divisor" = true) (k16:W.keepIn K (.ref f16)=true)
  (a17:W.nsIn K mainGlobals "is_fraction" = some (some (.ref f17))) (l17:K.lookup f17=some ⟨oc17,od17,.func (W.fnOf "is_fraction" "is_fraction" (defArgs s_is_fraction) (defBody s_is_fraction) (defScope s_is_fraction) .none kV17 dc17 pm17 an17 cd17 ct17),sl17⟩) (c17:W.codeIn K cd17 "is_fraction" = true) (k17:W.keepIn K (.ref f17)=true)
  (a18:W.nsIn K mainGlobals "padded_inside" = some (some (.ref f18))) (l18:K.lookup f18=some ⟨oc18,od18,.func (W.fnOf "padded_inside" "padded_inside" (defArgs s_padded_inside) (defBody s_padded_inside) (defScope s_padded_inside) .none kV18 dc18 pm18 an18 cd18 ct18),sl18⟩) (c18:W.codeIn K cd18 "padded_inside" = true) (k18:W.keepIn K (.ref f18)=true)
  (a19:W.findIn K (.ref c_Form) "__init__" = some (some (.ref f19))) (l19:K.lookup f19=some ⟨oc19,od19,.func (W.fnOf "__init__" "Form.__init__" (defArgs s_Form___init__) (defBody s_Form___init__) (defScope s_Form___init__) .none kV19 dc19 pm19 an19 cd19 ct19),sl19⟩) (c19:W.codeIn K cd19 "Form.__init__" = true) (k19:W.keepIn K (.ref f19)=true)
  (a20:W.findIn K (.ref c_NumberForm) "__init__" = some (some (.ref f20))) (l20:K.lookup f20=some ⟨oc20,od20,.func (W.fnOf "__init__" "NumberForm.__init__" (defArgs s_NumberForm___init__) (defBody s_NumberForm___init__) (defScope s_NumberForm___init__) (.ref tD20) kV20 dc20 pm20 an20 cd20 ct20),sl20⟩) (c20:W.codeIn K cd20 "NumberForm.__init__" = true) (k20:W.keepIn K (.ref f20)=true)
  (a21:W.findIn K (.ref c_NumberForm) "is_too_great" = some (some (.ref f21))) (l21:K.lookup f21=some ⟨oc21,od21,.func (W.fnOf "is_too_great" "NumberForm.is_too_great" (defArgs s_NumberForm_is_too_great) (defBody s_NumberForm_is_too_great) (defScope s_NumberForm_is_too_great) .none kV21 dc21 pm21 an21 cd21 ct21),sl21⟩) (c21:W.codeIn K cd21 "NumberForm.is_too_great" = true) (k21:W.keepIn K (.ref f21)=true)
  (a22:W.findIn K (.ref c_NumberForm) "core" = some (some (.ref f22))) (l22:K.lookup f22=some ⟨oc22,od22,.func (W.fnOf "core" "NumberForm.core" (defArgs s_NumberForm_core) (defBody s_NumberForm_core) (defScope s_NumberForm_core) .none kV22 dc22 pm22 an22 cd22 ct22),sl22⟩) (c22:W.codeIn K cd22 "NumberForm.core" = true) (k22:W.keepIn K (.ref f22)=true)
  (a23:W.findIn K (.ref c_NumberForm) "lead_of" = some (some (.ref f23))) (l23:K.lookup f23=some ⟨oc23,od23,.func (W.fnOf "lead_of" "NumberForm.lead_of" (defArgs s_NumberForm_lead_of) (defBody s_NumberForm_lead_of) (defScope s_NumberForm_lead_of) .none kV23 dc23 pm23 an23 cd23 ct23),sl23⟩) (c23:W.codeIn K cd23 "NumberForm.lead_of" = true) (k23:W.keepIn K (.ref f23)=true)
  (a24:W.findIn K (.ref c_Form) "is_too_wide" = some (some (.ref f24))) (l24:K.lookup f24=some ⟨oc24,od24,.func (W.fnOf "is_too_wide" "Form.is_too_wide" (defArgs s_Form_is_too_wide) (defBody s_Form_is_too_wide) (defScope s_Form_is_too_wide) .none kV24 dc24 pm24 an24 cd24 ct24),sl24⟩) (c24:W.codeIn K cd24 "Form.is_too_wide" = true) (k24:W.keepIn K (.ref f24)=true)
  (a25:W.findIn K (.ref c_Form) "filled" = some (some (.ref f25))) (l25:K.lookup f25=some ⟨oc25,od25,.func (W.fnOf "filled" "Form.filled" (defArgs s_Form_filled) (defBody s_Form_filled) (defScope s_Form_filled) .none kV25 dc25 pm25 an25 cd25 ct25),sl25⟩) (c25:W.codeIn K cd25 "Form.filled" = true) (k25:W.keepIn K (.ref f25)=true)
  (a26:W.findIn K (.ref c_Form) "put" = some (some (.ref f26))) (l26:K.lookup f26=some ⟨oc26,od26,.func (W.fnOf "put" "Form.put" (defArgs s_Form_put) (defBody s_Form_put) (defScope s_Form_put) .none kV26 dc26 pm26 an26 cd26 ct26),sl26⟩) (c26:W.codeIn K cd26 "Form.put" = true) (k26:W.keepIn K (.ref f26)=true)
  (a27:W.nsIn K mainGlobals "_law_signs" = some (some (.ref f27))) (l27:K.lookup f27=some ⟨oc27,od27,.func (W.fnOf "_law_signs" "_law_signs" (defArgs s_law_signs) (defBody s_law_signs) (defScope s_law_signs) .none kV27 dc27 pm27 an27 cd27 ct27),sl27⟩) (c27:W.codeIn K cd27 "_law_signs" = true) (k27:W.keepIn K (.ref f27)=true)
  (a28:W.nsIn K mainGlobals "_law_sign" = some (some (.ref f28))) (l28:K.lookup f28=some ⟨oc28,od28,.func (W.fnOf "_law_sign" "_law_sign" (defArgs s_law_sign) (defBody s_law_sign) (defScope s_law_sign) .none kV28 dc28 pm28 an28 cd28 ct28),sl28⟩) (c28:W.codeIn K cd28 "_law_sign" = true) (k28:W.keepIn K (.ref f28)=true)
  (a29:W.nsIn K mainGlobals "_law_number_spec" = some (some (.ref f29))) (l29:K.lookup f29=some ⟨oc29,od29,.func (W.fnOf "_law_number_spec" "_law_number_spec" (defArgs s_law_number_spec) (defBody s_law_number_spec) (defScope s_law_number_spec) .none kV29 dc29 pm29 an29 cd29 ct29),sl29⟩) (c29:W.codeIn K cd29 "_law_number_spec" = true) (k29:W.keepIn K (.ref f29)=true)
  (a30:W.nsIn K mainGlobals "_law_number_form" = some (some (.ref f30))) (l30:K.lookup f30=some ⟨oc30,od30,.func (W.fnOf "_law_number_form" "_law_number_form" (defArgs s_law_number_form) (defBody s_law_number_form) (defScope s_law_number_form) .none kV30 dc30 pm30 an30 cd30 ct30),sl30⟩) (c30:W.codeIn K cd30 "_law_number_form" = true) (k30:W.keepIn K (.ref f30)=true)
  (a31:W.nsIn K mainGlobals "_law_power" = some (some (.ref f31))) (l31:K.lookup f31=some ⟨oc31,od31,.func (W.fnOf "_law_power" "_law_power" (defArgs s_law_power) (defBody s_law_power) (defScope s_law_power) .none kV31 dc31 pm31 an31 cd31 ct31),sl31⟩) (c31:W.codeIn K cd31 "_law_power" = true) (k31:W.keepIn K (.ref f31)=true)
  (a32:W.nsIn K mainGlobals "_law_figures" = some (some (.ref f32))) (l32:K.lookup f32=some ⟨oc32,od32,.func (W.fnOf "_law_figures" "_law_figures" (defArgs s_law_figures) (defBody s_law_figures) (defScope s_law_figures) .none kV32 dc32 pm32 an32 cd32 ct32),sl32⟩) (c32:W.codeIn K cd32 "_law_figures" = true) (k32:W.keepIn K (.ref f32)=true)
  (a33:W.nsIn K mainGlobals "_law_body" = some (some (.ref f33))) (l33:K.lookup f33=some ⟨oc33,od33,.func (W.fnOf "_law_body" "_law_body" (defArgs s_law_body) (defBody s_law_body) (defScope s_law_body) .none kV33 dc33 pm33 an33 cd33 ct33),sl33⟩) (c33:W.codeIn K cd33 "_law_body" = true) (k33:W.keepIn K (.ref f33)=true)
  (a34:W.nsIn K mainGlobals "_law_parts" = some (some (.ref f34))) (l34:K.lookup f34=some ⟨oc34,od34,.func (W.fnOf "_law_parts" "_law_parts" (defArgs s_law_parts) (defBody s_law_parts) (defScope s_law_parts) .none kV34 dc34 pm34 an34 cd34 ct34),sl34⟩) (c34:W.codeIn K cd34 "_law_parts" = true) (k34:W.keepIn K (.ref f34)=true)
  (a35:W.nsIn K mainGlobals "_law_filled" = some (some (.ref f35))) (l35:K.lookup f35=some ⟨oc35,od35,.func (W.fnOf "_law_filled" "_law_filled" (defArgs s_law_filled) (defBody s_law_filled) (defScope s_law_filled) .none kV35 dc35 pm35 an35 cd35 ct35),sl35⟩) (c35:W.codeIn K cd35 "_law_filled" = true) (k35:W.keepIn K (.ref f35)=true)
  (a36:W.nsIn K mainGlobals "fraction" = some (some (.ref f36))) (l36:K.lookup f36=some ⟨oc36,od36,.func (W.fnOf "fraction" "fraction" (defArgs s_fraction) (defBody s_fraction) (defScope s_fraction) .none kV36 dc36 pm36 an36 cd36 ct36),sl36⟩) (c36:W.codeIn K cd36 "fraction" = true) (k36:W.keepIn K (.ref f36)=true)
  (a37:W.nsIn K mainGlobals "grid_value" = some (some (.ref f37))) (l37:K.lookup f37=some ⟨oc37,od37,.func (W.fnOf "grid_value" "grid_value" (defArgs s_grid_value) (defBody s_grid_value) (defScope s_grid_value) .none kV37 dc37 pm37 an37 cd37 ct37),sl37⟩) (c37:W.codeIn K cd37 "grid_value" = true) (k37:W.keepIn K (.ref f37)=true)
  (a38:W.nsIn K mainGlobals "in_order" = some (some (.ref f38))) (l38:K.lookup f38=some ⟨oc38,od38,.func (W.fnOf "in_order" "in_order" (defArgs s_in_order) (defBody s_in_order) (defScope s_in_order) .none kV38 dc38 pm38 an38 cd38 ct38),sl38⟩) (c38:W.codeIn K cd38 "in_order" = true) (k38:W.keepIn K (.ref f38)=true)
  (a39:W.nsIn K mainGlobals "_law_put" = some (some (.ref f39))) (l39:K.lookup f39=some ⟨oc39,od39,.func (W.fnOf "_law_put" "_law_put" (defArgs s_law_put) (defBody s_law_put) (defScope s_law_put) .none kV39 dc39 pm39 an39 cd39 ct39),sl39⟩) (c39:W.codeIn K cd39 "_law_put" = true) (k39:W.keepIn K (.ref f39)=true)
  (a40:W.nsIn K mainGlobals "_law_whole" = some (some (.ref f40))) (l40:K.lookup f40=some ⟨oc40,od40,.func (W.fnOf "_law_whole" "_law_whole" (defArgs s_law_whole) (defBody s_law_whole) (defScope s_law_whole) .none kV40 dc40 pm40 an40 cd40 ct40),sl40⟩) (c40:W.codeIn K cd40 "_law_whole" = true) (k40:W.keepIn K (.ref f40)=true)
  (a41:W.nsIn K mainGlobals "_law_divisor" = some (some (.ref f41))) (l41:K.lookup f41=some ⟨oc41,od41,.func (W.fnOf "_law_divisor" "_law_divisor" (defArgs s_law_divisor) (defBody s_law_divisor) (defScope s_law_divisor) .none kV41 dc41 pm41 an41 cd41 ct41),sl41⟩) (c41:W.codeIn K cd41 "_law_divisor" = true) (k41:W.keepIn K (.ref f41)=true)
  (a42:W.nsIn K mainGlobals "_law_lowest" = some (some (.ref f42))) (l42:K.lookup f42=some ⟨oc42,od42,.func (W.fnOf "_law_lowest" "_law_lowest" (defArgs s_law_lowest) (defBody s_law_lowest) (defScope s_law_lowest) .none kV42 dc42 pm42 an42 cd42 ct42),sl42⟩) (c42:W.codeIn K cd42 "_law_lowest" = true) (k42:W.keepIn K (.ref f42)=true)
  (a43:W.nsIn K mainGlobals "_law_great" = some (some (.ref f43))) (l43:K.lookup f43=some ⟨oc43,od43,.func (W.fnOf "_law_great" "_law_great" (defArgs s_law_great) (defBody s_law_great) (defScope s_law_great) .none kV43 dc43 pm43 an43 cd43 ct43),sl43⟩) (c43:W.codeIn K cd43 "_law_great" = true) (k43:W.keepIn K (.ref f43)=true)
  (a44:W.nsIn K mainGlobals "_law_limit" = some (some (.ref f44))) (l44:K.lookup f44=some ⟨oc44,od44,.func (W.fnOf "_law_limit" "_law_limit" (defArgs s_law_limit) (defBody s_law_limit) (defScope s_law_limit) .none kV44 dc44 pm44 an44 cd44 ct44),sl44⟩) (c44:W.codeIn K cd44 "_law_limit" = true) (k44:W.keepIn K (.ref f44)=true)
  (a45:W.nsIn K mainGlobals "_law_rising" = some (some (.ref f45))) (l45:K.lookup f45=some ⟨oc45,od45,.func (W.fnOf "_law_rising" "_law_rising" (defArgs s_law_rising) (defBody s_law_rising) (defScope s_law_rising) .none kV45 dc45 pm45 an45 cd45 ct45),sl45⟩) (c45:W.codeIn K cd45 "_law_rising" = true) (k45:W.keepIn K (.ref f45)=true)
  (a46:W.nsIn K mainGlobals "_law_drawn" = some (some (.ref f46))) (l46:K.lookup f46=some ⟨oc46,od46,.func (W.fnOf "_law_drawn" "_law_drawn" (defArgs s_law_drawn) (defBody s_law_drawn) (defScope s_law_drawn) .none kV46 dc46 pm46 an46 cd46 ct46),sl46⟩) (c46:W.codeIn K cd46 "_law_drawn" = true) (k46:W.keepIn K (.ref f46)=true)
  (a47:W.nsIn K mainGlobals "_law_is_number" = some (some (.ref f47))) (l47:K.lookup f47=some ⟨oc47,od47,.func (W.fnOf "_law_is_number" "_law_is_number" (defArgs s_law_is_number) (defBody s_law_is_number) (defScope s_law_is_number) .none kV47 dc47 pm47 an47 cd47 ct47),sl47⟩) (c47:W.codeIn K cd47 "_law_is_number" = true) (k47:W.keepIn K (.ref f47)=true)
  (a48:W.nsIn K mainGlobals "_law_breaks" = some (some (.ref f48))) (l48:K.lookup f48=some ⟨oc48,od48,.func (W.fnOf "_law_breaks" "_law_breaks" (defArgs s_law_breaks) (defBody s_law_breaks) (defScope s_law_breaks) .none kV48 dc48 pm48 an48 cd48 ct48),sl48⟩) (c48:W.codeIn K cd48 "_law_breaks" = true) (k48:W.keepIn K (.ref f48)=true)
  (a49:W.nsIn K mainGlobals "law" = some (some (.ref f49))) (l49:K.lookup f49=some ⟨oc49,od49,.func (W.fnOf "law" "law" (defArgs s_law) (defBody s_law) (defScope s_law) .none kV49 dc49 pm49 an49 cd49 ct49),sl49⟩) (c49:W.codeIn K cd49 "law" = true) (k49:W.keepIn K (.ref f49)=true)
  (z_len:W.nsIn K mainGlobals "len" = some none) (z_max:W.nsIn K mainGlobals "max" = some none) (z_range:W.nsIn K mainGlobals "range" = some none) (z_isinstance:W.nsIn K mainGlobals "isinstance" = some none) (z_bool:W.nsIn K mainGlobals "bool" = some none) (z_int:W.nsIn K mainGlobals "int" = some none) (z_abs:W.nsIn K mainGlobals "abs" = some none) (z_tuple:W.nsIn K mainGlobals "tuple" = some none) (z_min:W.nsIn K mainGlobals "min" = some none) (z_sorted:W.nsIn K mainGlobals "sorted" = some none) (z_set:W.nsIn K mainGlobals "set" = some none) (z_list:W.nsIn K mainGlobals "list" = some none) (n_FIGURES:W.nsIn K mainGlobals "FIGURES" = some (some (.str "0123456789abcdef" t_FIGURES))) (n_STYLES:W.nsIn K mainGlobals "STYLES" = some (some (.ref t_STYLES))) (n_NoCore:W.nsIn K mainGlobals "NoCore" = some (some (.ref c_NoCore))) (n_Form:W.nsIn K mainGlobals "Form" = some (some (.ref c_Form))) (n_NumberForm:W.nsIn K mainGlobals "NumberForm" = some (some (.ref c_NumberForm))) (ex_NoCore:W.excIn K c_NoCore VEB "ValueError.__new__" = true) (h1_NoCore:W.findIn K (.ref c_NoCore) "__getattribute__" = some (some (.builtin "BaseException.__getattribute__"))) (h2_NoCore:W.findIn K (.ref c_NoCore) "__getattr__" = some none) (hb_NoCore:W.mroIn K c_NoCore (.type "BaseException")=some true) (hd_NoCore:W.hasDictIn K c_NoCore=true) (ha_NoCore:W.findIn K (.ref c_NoCore) "__class__" = some (some (.builtin "object.__class__"))) (hn_NoCore:W.specialIn K (.builtin "object.__class__") "__get__" = some (some (.builtin "getset_descriptor.__get__"))) (ht_NoCore:W.takesIn K (.builtin "object.__class__")=some true) (hm_NoCore:W.mroIn K c_NoCore (.type "object")=some true) (sty:Sty w K t_STYLES) (K1_NumberForm:W.plainGet K c_NumberForm Str.empty=true) (K2_NumberForm:W.hasDictIn K c_NumberForm=true) (K3_NumberForm:W.plainOver K c_NumberForm=true) (K4_NumberForm:W.findIn K (.ref c_NumberForm) "__setattr__" = some (some (.builtin "object.__setattr__"))) (N_NumberForm_width:W.findIn K (.ref c_NumberForm) "width" = some none) (N_NumberForm_fill:W.findIn K (.ref c_NumberForm) "fill" = some none) (N_NumberForm_side:W.findIn K (.ref c_NumberForm) "side" = some none) (N_NumberForm_strict:W.findIn K (.ref c_NumberForm) "strict" = some none) (N_NumberForm_figures:W.findIn K (.ref c_NumberForm) "figures" = some none) (N_NumberForm_places:W.findIn K (.ref c_NumberForm) "places" = some none) (N_NumberForm_base:W.findIn K (.ref c_NumberForm) "base" = some none) (N_NumberForm_sign:W.findIn K (.ref c_NumberForm) "sign" = some none) (N_NumberForm_size:W.findIn K (.ref c_NumberForm) "size" = some none) (N_NumberForm_mark:W.findIn K (.ref c_NumberForm) "mark" = some none) (N_NumberForm_point:W.findIn K (.ref c_NumberForm) "point" = some none) (N_NumberForm_way:W.findIn K (.ref c_NumberForm) "way" = some none) (C1_Form_init:W.specialIn K (.ref c_Form) "__getattribute__" = some (some (.builtin "type.__getattribute__"))) (C2_Form_init:W.readsIn K c_Form (.type "type")=true) (C3_Form_init:W.findCls K (.ref c_Form) (.type "type") "__init__" = some (.val (.ref f19))) (Fn_NumberForm_is_too_great:W.isFn K (.ref f21)=true) (Ma_NumberForm_is_too_great:W.findIn K (.ref c_NumberForm) "is_too_great" = some (some (.ref f21))) (Fn_NumberForm_lead_of:W.isFn K (.ref f23)=true) (Ma_NumberForm_lead_of:W.findIn K (.ref c_NumberForm) "lead_of" = some (some (.ref f23))) (Fn_NumberForm_core:W.isFn K (.ref f22)=true) (Ma_NumberForm_core:W.findIn K (.ref c_NumberForm) "core" = some (some (.ref f22))) (Fn_Form_is_too_wide:W.isFn K (.ref f24)=true) (Ma_NumberForm_is_too_wide:W.findIn K (.ref c_NumberForm) "is_too_wide" = some (some (.ref f24))) (Fn_Form_filled:W.isFn K (.ref f25)=true) (Ma_NumberForm_filled:W.findIn K (.ref c_NumberForm) "filled" = some (some (.ref f25))) (Fn_NumberForm___init__:W.isFn K (.ref f20)=true) (I1_NumberForm:W.makesIn K c_NumberForm=true) (I2_NumberForm:W.findIn K (.ref c_NumberForm) "__init__" = some (some (.ref f20))) (I4_NumberForm:W.keepIn K (.ref c_NumberForm)=true) (Fn_Form_put:W.isFn K (.ref f26)=true) (Ma_NumberForm_put:W.findIn K (.ref c_NumberForm) "put" = some (some (.ref f26))) (dl20:K.lookup tD20=some ⟨ocD20,odD20,.seq #[d20v0,d20v1,d20v2,d20v3,d20v4,d20v5,d20v6,d20v7,d20v8,d20v9] nD20,slD20⟩) :
  ∃ fd:FuncData,(∀ (s:Shared) (v:Value),BindsTo s fd ⟨[v],[]⟩ [("_law_script", v)]) ∧ ∀ base:Heap,K.In base→base.Ns mainGlobals mg→FnOk l.prog w K mg base CX0 8 fa fd ["_law_script"] (sp_law K):=by
 have e:=hfa.symm.trans (W.mg_of X G a49)
 cases e
 have B:Blt mg:=⟨W.mg_none_of X G z_len,W.mg_none_of X G z_max,W.mg_none_of X G z_range,W.mg_none_of X G z_isinstance,W.mg_none_of X G z_bool,W.mg_none_of X G z_int,W.mg_none_of X G z_abs,W.mg_none_of X G z_tuple,W.mg_none_of X G z_min,W.mg_none_of X G z_sorted,W.mg_none_of X G z_set,W.mg_none_of X G z_list⟩
 refine ⟨W.fnOf "law" "law" (defArgs s_law) (defBody s_law) (defScope s_law) .none kV49 dc49 pm49 an49 cd49 ct49,fun s v=>.of_eq rfl,fun base _ _=>?_⟩
 have g_FIGURES:=W.mg_of X G n_FIGURES
 have g_STYLES:=W.mg_of X G n_STYLES
 have m_NoCore:=W.mg_of X G n_NoCore
 have m_Form:=W.mg_of X G n_Form
 have m_NumberForm:=W.mg_of X G n_NumberForm
 have e_NoCore:Exc K c_NoCore:=⟨ex_NoCore,h1_NoCore,h2_NoCore,hb_NoCore,hd_NoCore,ha_NoCore,hn_NoCore,ht_NoCore,hm_NoCore⟩
 have cl_NumberForm:Cls K c_NumberForm:=⟨K1_NumberForm,K2_NumberForm,K3_NumberForm,K4_NumberForm⟩
 have na_NumberForm:NoAttrs K c_NumberForm ["width", "fill", "side", "strict", "figures", "places", "base", "sign", "size", "mark", "point", "way"]:=⟨N_NumberForm_width,N_NumberForm_fill,N_NumberForm_side,N_NumberForm_strict,N_NumberForm_figures,N_NumberForm_places,N_NumberForm_base,N_NumberForm_sign,N_NumberForm_size,N_NumberForm_mark,N_NumberForm_point,N_NumberForm_way,trivial⟩
 have F0:=fun_mk (st:=s_law_cell_at) l0 c0 k0
 have H_law_cell_at:Has l.prog w K mg base "_law_cell_at" 1 ["_law_script", "_law_k"] (sp_law_cell_at K):=⟨_,_,ok_law_cell_at  F0 B   , W.mg_of X G a0,k0,F0.binds fun _ _ _ _ _ _ us hl=>match us,hl with | [_,_],_=>rfl⟩
 have F1:=fun_mk (st:=s_law_pick) l1 c1 k1
 have H_law_pick:Has l.prog w K mg base "_law_pick" 1 ["_law_cell", "_law_salt", "_law_many"] (sp_law_pick K):=⟨_,_,ok_law_pick  F1 B   , W.mg_of X G a1,k1,F1.binds fun _ _ _ _ _ _ us hl=>match us,hl with | [_,_,_],_=>rfl⟩
 have F2:=fun_mk (st:=s_pads_of) l2 c2 k2
 have H_pads_of:Has l.prog w K mg base "pads_of" 1 ["length", "width", "side"] (sp_pads_of K):=⟨_,_,ok_pads_of  F2 B   , W.mg_of X G a2,k2,F2.binds fun _ _ _ _ _ _ us hl=>match us,hl with | [_,_,_],_=>rfl⟩
 have F3:=fun_mk (st:=s_padded) l3 c3 k3
 have H_padded:Has l.prog w K mg base "padded" 2 ["text", "width", "fill", "side"] (sp_padded K):=⟨_,_,ok_padded  F3 B H_pads_of  , W.mg_of X G a3,k3,F3.binds fun _ _ _ _ _ _ us hl=>match us,hl with | [_,_,_,_],_=>rfl⟩
 have F4:=fun_mk (st:=s_power_of) l4 c4 k4
 have H_power_of:Has l.prog w K mg base "power_of" 1 ["base", "times"] (sp_power_of K):=⟨_,_,ok_power_of  F4 B   , W.mg_of X G a4,k4,F4.binds fun _ _ _ _ _ _ us hl=>match us,hl with | [_,_],_=>rfl⟩
 have F5:=fun_mk (st:=s_goes_up) l5 c5 k5
 have H_goes_up:Has l.prog w K mg base "goes_up" 1 ["below", "rest", "bottom", "way"] (sp_goes_up K):=⟨_,_,ok_goes_up  F5 B   , W.mg_of X G a5,k5,F5.binds fun _ _ _ _ _ _ us hl=>match us,hl with | [_,_,_,_],_=>rfl⟩
 have F6:=fun_mk (st:=s_gridded) l6 c6 k6
 have H_gridded:Has l.prog w K mg base "gridded" 2 ["value", "base", "places", "way"] (sp_gridded K):=⟨_,_,ok_gridded  F6 B H_power_of H_goes_up  , W.mg_of X G a6,k6,F6.binds fun _ _ _ _ _ _ us hl=>match us,hl with | [_,_,_,_],_=>rfl⟩
 have F7:=fun_mk (st:=s_figures_of) l7 c7 k7
 have H_figures_of:Has l.prog w K mg base "figures_of" 1 ["number", "base"] (sp_figures_of K):=⟨_,_,ok_figures_of  F7 B  g_FIGURES , W.mg_of X G a7,k7,F7.binds fun _ _ _ _ _ _ us hl=>match us,hl with | [_,_],_=>rfl⟩
 have F8:=fun_mk (st:=s_parts_of) l8 c8 k8
 have H_parts_of:Has l.prog w K mg base "parts_of" 1 ["text", "size", "between"] (sp_parts_of K):=⟨_,_,ok_parts_of  F8 B   , W.mg_of X G a8,k8,F8.binds fun _ _ _ _ _ _ us hl=>match us,hl with | [_,_,_],_=>rfl⟩
 have F9:=fun_mk (st:=s_grouped) l9 c9 k9
 have H_grouped:Has l.prog w K mg base "grouped" 2 ["text", "size", "mark"] (sp_grouped K):=⟨_,_,ok_grouped  F9 B H_parts_of  , W.mg_of X G a9,k9,F9.binds fun _ _ _ _ _ _ us hl=>match us,hl with | [_,_,_],_=>rfl⟩
 have F10:=fun_mk (st:=s_body_of) l10 c10 k10
 have H_body_of:Has l.prog w K mg base "body_of" 3 ["number", "base", "places", "point", "size", "mark"] (sp_body_of K):=⟨_,_,ok_body_of  F10 B H_grouped H_figures_of  , W.mg_of X G a10,k10,F10.binds fun _ _ _ _ _ _ us hl=>match us,hl with | [_,_,_,_,_,_],_=>rfl⟩
 have F11:=fun_mk (st:=s_ends_of) l11 c11 k11
 have H_ends_of:Has l.prog w K mg base "ends_of" 1 ["style", "below"] (sp_ends_of K):=⟨_,_,ok_ends_of  F11 B  g_STYLES sty,W.mg_of X G a11,k11,F11.binds fun _ _ _ _ _ _ us hl=>match us,hl with | [_,_],_=>rfl⟩
 have F12:=fun_mk (st:=s_signed) l12 c12 k12
 have H_signed:Has l.prog w K mg base "signed" 2 ["body", "style", "below"] (sp_signed K):=⟨_,_,ok_signed  F12 B H_ends_of  , W.mg_of X G a12,k12,F12.binds fun _ _ _ _ _ _ us hl=>match us,hl with | [_,_,_],_=>rfl⟩
 have F13:=fun_mk (st:=s_stands_between_figures) l13 c13 k13
 have H_stands_between_figures:Has l.prog w K mg base "stands_between_figures" 1 ["body"] (sp_stands_between_figures K):=⟨_,_,ok_stands_between_figures  F13 B  g_FIGURES , W.mg_of X G a13,k13,F13.binds fun _ _ _ _ _ _ us hl=>match us,hl with | [_],_=>rfl⟩
 have F14:=fun_mk (st:=s_unsigned) l14 c14 k14
 have G_unsigned:=ok_unsigned (P:=l.prog) (w:=w) (base:=base)  F14 B H_ends_of H_stands_between_figures H_signed  m_NoCore e_NoCore n_NoCore
 have H_unsigned:HasX l.prog w K mg base "unsigned" 3 ["core", "style"] (sp_unsigned K):=⟨_,_,G_unsigned,W.mg_of X G a14,k14,F14.binds fun _ _ _ _ _ _ us hl=>match us,hl with | [_,_],_=>rfl⟩
 have H_unsigned0:Has l.prog w K mg base "unsigned" 3 ["core", "style"] (spc (sp_unsigned K)):=⟨_,_,G_unsigned.calm,W.mg_of X G a14,k14,F14.binds fun _ _ _ _ _ _ us hl=>match us,hl with | [_,_],_=>rfl⟩
 have F15:=fun_mk (st:=s_is_whole) l15 c15 k15
 have H_is_whole:Has l.prog w K mg base "is_whole" 1 ["thing"] (sp_is_whole K):=⟨_,_,ok_is_whole  F15 B   , W.mg_of X G a15,k15,F15.binds fun _ _ _ _ _ _ us hl=>match us,hl with | [_],_=>rfl⟩
 have F16:=fun_mk (st:=s_common_divisor) l16 c16 k16
 have H_common_divisor:Has l.prog w K mg base "common_divisor" 1 ["one", "other"] (sp_common_divisor K):=⟨_,_,ok_common_divisor  F16 B   , W.mg_of X G a16,k16,F16.binds fun _ _ _ _ _ _ us hl=>match us,hl with | [_,_],_=>rfl⟩
 have F17:=fun_mk (st:=s_is_fraction) l17 c17 k17
 have H_is_fraction:Has l.prog w K mg base "is_fraction" 2 ["thing"] (sp_is_fraction K):=⟨_,_,ok_is_fraction  F17 B H_is_whole H_common_divisor  , W.mg_of X G a17,k17,F17.binds fun _ _ _ _ _ _ us hl=>match us,hl with | [_],_=>rfl⟩
 have F18:=fun_mk (st:=s_padded_inside) l18 c18 k18
 have H_padded_inside:Has l.prog w K mg base "padded_inside" 3 ["lead", "rest", "width", "fill"] (sp_padded_inside K):=⟨_,_,ok_padded_inside  F18 B H_padded  , W.mg_of X G a18,k18,F18.binds fun _ _ _ _ _ _ us hl=>match us,hl with | [_,_,_,_],_=>rfl⟩
 have F19:=funD_mk (x:="__init__") (qual:="Form.__init__") (st:=s_Form___init__) l19 c19 k19
 have G_Form___init__:=ok_Form___init__ (P:=l.prog) (w:=w) (base:=base) (c_NumberForm:=c_NumberForm) F19 B   cl_NumberForm na_NumberForm
 have b_Form___init__:Binds K (W.fnOf "__init__" "Form.__init__" (defArgs s_Form___init__) (defBody s_Form___init__) (defScope s_Form___init__) .none kV19 dc19 pm19 an19 cd19 ct19) ["self", "width", "fill", "side", "strict"] []:=.all fun us hl=>match us,hl with | [_,_,_,_,_],_=>rfl
 have F20:=funD_mk (x:="__init__") (qual:="NumberForm.__init__") (st:=s_NumberForm___init__) l20 c20 k20
 have G_NumberForm___init__:=ok_NumberForm___init__ (P:=l.prog) (w:=w) (base:=base) (c_Form:=c_Form) (c_NumberForm:=c_NumberForm) F20 B m_Form   ⟨_,_,G_Form___init__,⟨C1_Form_init,C2_Form_init,C3_Form_init,k19⟩,b_Form___init__⟩  cl_NumberForm na_NumberForm
 have b_NumberForm___init__:Binds K (W.fnOf "__init__" "NumberForm.__init__" (defArgs s_NumberForm___init__) (defBody s_NumberForm___init__) (defScope s_NumberForm___init__) (.ref tD20) kV20 dc20 pm20 an20 cd20 ct20) ["self", "figures", "places", "base", "sign", "size", "mark", "point", "way", "width", "fill", "side", "strict"] []:=binds_dflt dl20 rfl fun us hl=>match us,hl with | [_,_,_,_,_,_,_,_,_,_,_,_,_],_=>⟨_,rfl,rfl⟩
 have F21:=funD_mk (x:="is_too_great") (qual:="NumberForm.is_too_great") (st:=s_NumberForm_is_too_great) l21 c21 k21
 have G_NumberForm_is_too_great:=ok_NumberForm_is_too_great (P:=l.prog) (w:=w) (base:=base) (c_NumberForm:=c_NumberForm) F21 B H_power_of
 have b_NumberForm_is_too_great:Binds K (W.fnOf "is_too_great" "NumberForm.is_too_great" (defArgs s_NumberForm_is_too_great) (defBody s_NumberForm_is_too_great) (defScope s_NumberForm_is_too_great) .none kV21 dc21 pm21 an21 cd21 ct21) ["self", "number"] []:=.all fun us hl=>match us,hl with | [_,_],_=>rfl
 have F22:=funD_mk (x:="core") (qual:="NumberForm.core") (st:=s_NumberForm_core) l22 c22 k22
 have G_NumberForm_core:=ok_NumberForm_core (P:=l.prog) (w:=w) (base:=base) (c_NumberForm:=c_NumberForm) F22 B cl_NumberForm H_gridded H_body_of H_signed H_is_fraction  ⟨_,_,G_NumberForm_is_too_great,⟨Ma_NumberForm_is_too_great,Fn_NumberForm_is_too_great,k21⟩,b_NumberForm_is_too_great⟩
 have b_NumberForm_core:Binds K (W.fnOf "core" "NumberForm.core" (defArgs s_NumberForm_core) (defBody s_NumberForm_core) (defScope s_NumberForm_core) .none kV22 dc22 pm22 an22 cd22 ct22) ["self", "value"] []:=.all fun us hl=>match us,hl with | [_,_],_=>rfl
 have F23:=funD_mk (x:="lead_of") (qual:="NumberForm.lead_of") (st:=s_NumberForm_lead_of) l23 c23 k23
 have G_NumberForm_lead_of:=ok_NumberForm_lead_of (P:=l.prog) (w:=w) (base:=base) (c_NumberForm:=c_NumberForm) F23 B H_ends_of H_unsigned0
 have b_NumberForm_lead_of:Binds K (W.fnOf "lead_of" "NumberForm.lead_of" (defArgs s_NumberForm_lead_of) (defBody s_NumberForm_lead_of) (defScope s_NumberForm_lead_of) .none kV23 dc23 pm23 an23 cd23 ct23) ["self", "core"] []:=.all fun us hl=>match us,hl with | [_,_],_=>rfl
 have F24:=funD_mk (x:="is_too_wide") (qual:="Form.is_too_wide") (st:=s_Form_is_too_wide) l24 c24 k24
 have G_Form_is_too_wide:=ok_Form_is_too_wide (P:=l.prog) (w:=w) (base:=base) (c_NumberForm:=c_NumberForm) F24 B
 have b_Form_is_too_wide:Binds K (W.fnOf "is_too_wide" "Form.is_too_wide" (defArgs s_Form_is_too_wide) (defBody s_Form_is_too_wide) (defScope s_Form_is_too_wide) .none kV24 dc24 pm24 an24 cd24 ct24) ["self", "core"] []:=.all fun us hl=>match us,hl with | [_,_],_=>rfl
 have F25:=funD_mk (x:="filled") (qual:="Form.filled") (st:=s_Form_filled) l25 c25 k25
 have G_Form_filled:=ok_Form_filled (P:=l.prog) (w:=w) (base:=base) (c_NumberForm:=c_NumberForm) F25 B cl_NumberForm H_padded_inside H_padded  ⟨_,_,G_NumberForm_lead_of,⟨Ma_NumberForm_lead_of,Fn_NumberForm_lead_of,k23⟩,b_NumberForm_lead_of⟩
 have b_Form_filled:Binds K (W.fnOf "filled" "Form.filled" (defArgs s_Form_filled) (defBody s_Form_filled) (defScope s_Form_filled) .none kV25 dc25 pm25 an25 cd25 ct25) ["self", "core"] []:=.all fun us hl=>match us,hl with | [_,_],_=>rfl
 have F26:=funD_mk (x:="put") (qual:="Form.put") (st:=s_Form_put) l26 c26 k26
 have G_Form_put:=ok_Form_put (P:=l.prog) (w:=w) (base:=base) (c_NumberForm:=c_NumberForm) F26 B cl_NumberForm   ⟨_,_,G_NumberForm_core,⟨Ma_NumberForm_core,Fn_NumberForm_core,k22⟩,b_NumberForm_core⟩ ⟨_,_,G_Form_is_too_wide,⟨Ma_NumberForm_is_too_wide,Fn_Form_is_too_wide,k24⟩,b_Form_is_too_wide⟩ ⟨_,_,G_Form_filled,⟨Ma_NumberForm_filled,Fn_Form_filled,k25⟩,b_Form_filled⟩
 have b_Form_put:Binds K (W.fnOf "put" "Form.put" (defArgs s_Form_put) (defBody s_Form_put) (defScope s_Form_put) .none kV26 dc26 pm26 an26 cd26 ct26) ["self", "value"] []:=.all fun us hl=>match us,hl with | [_,_],_=>rfl
 have F27:=fun_mk (st:=s_law_signs) l27 c27 k27
 have H_law_signs:Has l.prog w K mg base "_law_signs" 1 [] (sp_law_signs K):=⟨_,_,ok_law_signs  F27 B   , W.mg_of X G a27,k27,F27.binds fun _ _ _ _ _ _ us hl=>match us,hl with | [],_=>rfl⟩
 have F28:=fun_mk (st:=s_law_sign) l28 c28 k28
 have H_law_sign:Has l.prog w K mg base "_law_sign" 2 ["_law_cell", "_law_salt"] (sp_law_sign K):=⟨_,_,ok_law_sign  F28 B H_law_pick H_law_signs  , W.mg_of X G a28,k28,F28.binds fun _ _ _ _ _ _ us hl=>match us,hl with | [_,_],_=>rfl⟩
 have F29:=fun_mk (st:=s_law_number_spec) l29 c29 k29
 have H_law_number_spec:Has l.prog w K mg base "_law_number_spec" 3 ["_law_cell", "_law_other", "_law_small"] (sp_law_number_spec K):=⟨_,_,ok_law_number_spec  F29 B H_law_pick H_law_sign  , W.mg_of X G a29,k29,F29.binds fun _ _ _ _ _ _ us hl=>match us,hl with | [_,_,_],_=>rfl⟩
 have F30:=fun_mk (st:=s_law_number_form) l30 c30 k30
 have H_law_number_form:Has l.prog w K mg base "_law_number_form" 4 ["_law_spec"] (sp_law_number_form K c_NumberForm):=⟨_,_,ok_law_number_form (c_NumberForm:=c_NumberForm) F30 B m_NumberForm   ⟨_,_,G_NumberForm___init__,⟨I1_NumberForm,I2_NumberForm,Fn_NumberForm___init__,I4_NumberForm⟩,b_NumberForm___init__⟩  cl_NumberForm na_NumberForm,W.mg_of X G a30,k30,F30.binds fun _ _ _ _ _ _ us hl=>match us,hl with | [_],_=>rfl⟩
 have F31:=fun_mk (st:=s_law_power) l31 c31 k31
 have H_law_power:Has l.prog w K mg base "_law_power" 1 ["_law_base", "_law_times"] (sp_law_power K):=⟨_,_,ok_law_power  F31 B   , W.mg_of X G a31,k31,F31.binds fun _ _ _ _ _ _ us hl=>match us,hl with | [_,_],_=>rfl⟩
 have F32:=fun_mk (st:=s_law_figures) l32 c32 k32
 have H_law_figures:Has l.prog w K mg base "_law_figures" 1 ["_law_number", "_law_base"] (sp_law_figures K):=⟨_,_,ok_law_figures  F32 B   , W.mg_of X G a32,k32,F32.binds fun _ _ _ _ _ _ us hl=>match us,hl with | [_,_],_=>rfl⟩
 have F33:=fun_mk (st:=s_law_body) l33 c33 k33
 have H_law_body:Has l.prog w K mg base "_law_body" 2 ["_law_steps", "_law_spec"] (sp_law_body K):=⟨_,_,ok_law_body  F33 B H_law_power H_law_figures  , W.mg_of X G a33,k33,F33.binds fun _ _ _ _ _ _ us hl=>match us,hl with | [_,_],_=>rfl⟩
 have F34:=fun_mk (st:=s_law_parts) l34 c34 k34
 have H_law_parts:Has l.prog w K mg base "_law_parts" 3 ["_law_steps", "_law_spec"] (sp_law_parts K):=⟨_,_,ok_law_parts  F34 B H_law_body  , W.mg_of X G a34,k34,F34.binds fun _ _ _ _ _ _ us hl=>match us,hl with | [_,_],_=>rfl⟩
 have F35:=fun_mk (st:=s_law_filled) l35 c35 k35
 have H_law_filled:Has l.prog w K mg base "_law_filled" 1 ["_law_lead", "_law_rest", "_law_spec"] (sp_law_filled K):=⟨_,_,ok_law_filled  F35 B   , W.mg_of X G a35,k35,F35.binds fun _ _ _ _ _ _ us hl=>match us,hl with | [_,_,_],_=>rfl⟩
 have F36:=fun_mk (st:=s_fraction) l36 c36 k36
 have H_fraction:Has l.prog w K mg base "fraction" 2 ["top", "bottom"] (sp_fraction K):=⟨_,_,ok_fraction  F36 B H_common_divisor H_is_whole  , W.mg_of X G a36,k36,F36.binds fun _ _ _ _ _ _ us hl=>match us,hl with | [_,_],_=>rfl⟩
 have F37:=fun_mk (st:=s_grid_value) l37 c37 k37
 have H_grid_value:Has l.prog w K mg base "grid_value" 3 ["k", "base", "places"] (sp_grid_value K):=⟨_,_,ok_grid_value  F37 B H_fraction H_power_of  , W.mg_of X G a37,k37,F37.binds fun _ _ _ _ _ _ us hl=>match us,hl with | [_,_,_],_=>rfl⟩
 have F38:=fun_mk (st:=s_in_order) l38 c38 k38
 have H_in_order:Has l.prog w K mg base "in_order" 7 ["form"] (sp_in_order K c_NumberForm):=⟨_,_,ok_in_order (c_NumberForm:=c_NumberForm) F38 B cl_NumberForm H_power_of H_grid_value  ⟨_,_,G_Form_is_too_wide,⟨Ma_NumberForm_is_too_wide,Fn_Form_is_too_wide,k24⟩,b_Form_is_too_wide⟩ ⟨_,_,G_NumberForm_core,⟨Ma_NumberForm_core,Fn_NumberForm_core,k22⟩,b_NumberForm_core⟩ ⟨_,_,G_Form_put,⟨Ma_NumberForm_put,Fn_Form_put,k26⟩,b_Form_put⟩  , W.mg_of X G a38,k38,F38.binds fun _ _ _ _ _ _ us hl=>match us,hl with | [_],_=>rfl⟩
 have F39:=fun_mk (st:=s_law_put) l39 c39 k39
 have H_law_put:Has l.prog w K mg base "_law_put" 4 ["_law_steps", "_law_spec"] (sp_law_put K):=⟨_,_,ok_law_put  F39 B H_law_parts H_law_filled  , W.mg_of X G a39,k39,F39.binds fun _ _ _ _ _ _ us hl=>match us,hl with | [_,_],_=>rfl⟩
 have F40:=fun_mk (st:=s_law_whole) l40 c40 k40
 have H_law_whole:Has l.prog w K mg base "_law_whole" 1 ["_law_thing"] (sp_law_whole K):=⟨_,_,ok_law_whole  F40 B   , W.mg_of X G a40,k40,F40.binds fun _ _ _ _ _ _ us hl=>match us,hl with | [_],_=>rfl⟩
 have F41:=fun_mk (st:=s_law_divisor) l41 c41 k41
 have H_law_divisor:Has l.prog w K mg base "_law_divisor" 1 ["_law_one", "_law_other"] (sp_law_divisor K):=⟨_,_,ok_law_divisor  F41 B   , W.mg_of X G a41,k41,F41.binds fun _ _ _ _ _ _ us hl=>match us,hl with | [_,_],_=>rfl⟩
 have F42:=fun_mk (st:=s_law_lowest) l42 c42 k42
 have H_law_lowest:Has l.prog w K mg base "_law_lowest" 2 ["_law_top", "_law_bottom"] (sp_law_lowest K):=⟨_,_,ok_law_lowest  F42 B H_law_divisor  , W.mg_of X G a42,k42,F42.binds fun _ _ _ _ _ _ us hl=>match us,hl with | [_,_],_=>rfl⟩
 have F43:=fun_mk (st:=s_law_great) l43 c43 k43
 have H_law_great:Has l.prog w K mg base "_law_great" 1 ["_law_cell", "_law_at", "_law_limit_here"] (sp_law_great K):=⟨_,_,ok_law_great  F43 B   , W.mg_of X G a43,k43,F43.binds fun _ _ _ _ _ _ us hl=>match us,hl with | [_,_,_],_=>rfl⟩
 have F44:=fun_mk (st:=s_law_limit) l44 c44 k44
 have H_law_limit:Has l.prog w K mg base "_law_limit" 2 ["_law_spec"] (sp_law_limit K):=⟨_,_,ok_law_limit  F44 B H_law_power  , W.mg_of X G a44,k44,F44.binds fun _ _ _ _ _ _ us hl=>match us,hl with | [_],_=>rfl⟩
 have F45:=fun_mk (st:=s_law_rising) l45 c45 k45
 have H_law_rising:Has l.prog w K mg base "_law_rising" 5 ["_law_some", "_law_spec"] (sp_law_rising K):=⟨_,_,ok_law_rising  F45 B H_law_put  , W.mg_of X G a45,k45,F45.binds fun _ _ _ _ _ _ us hl=>match us,hl with | [_,_],_=>rfl⟩
 have F46:=fun_mk (st:=s_law_drawn) l46 c46 k46
 have H_law_drawn:Has l.prog w K mg base "_law_drawn" 2 ["_law_spec", "_law_cell"] (sp_law_drawn K):=⟨_,_,ok_law_drawn  F46 B H_law_power H_law_great H_law_pick  , W.mg_of X G a46,k46,F46.binds fun _ _ _ _ _ _ us hl=>match us,hl with | [_,_],_=>rfl⟩
 have F47:=fun_mk (st:=s_law_is_number) l47 c47 k47
 have H_law_is_number:Has l.prog w K mg base "_law_is_number" 3 ["_law_found", "_law_spec"] (sp_law_is_number K):=⟨_,_,ok_law_is_number  F47 B H_law_power H_law_whole H_law_lowest H_law_limit  , W.mg_of X G a47,k47,F47.binds fun _ _ _ _ _ _ us hl=>match us,hl with | [_,_],_=>rfl⟩
 have F48:=fun_mk (st:=s_law_breaks) l48 c48 k48
 have H_law_breaks:Has l.prog w K mg base "_law_breaks" 5 ["_law_found", "_law_spec"] (sp_law_breaks K):=⟨_,_,ok_law_breaks  F48 B H_law_power H_law_put H_law_is_number  , W.mg_of X G a48,k48,F48.binds fun _ _ _ _ _ _ us hl=>match us,hl with | [_,_],_=>rfl⟩
 have F49:=fun_mk (st:=s_law) l49 c49 k49
 exact ok_law (c_NumberForm:=c_NumberForm) F49 B H_law_cell_at H_law_number_spec H_in_order H_law_pick H_law_number_form H_law_limit H_law_rising H_law_breaks H_law_drawn
theorem walk {l:W.OpenLaw} {q:Program} {loose:List Str} {XP:(Str→Option Value)→Heap→Prop} {YP:World→Heap→Prop} {d:DefRec} {K:Params→W.Frag} (hn:l.most=some 63) (hdf:d.params.defaults=[])
  (hY : ∀ (w:World) (h:Heap),YP w h→(K w.params).In h)
  (F : ∀ (w:World) (mg:Str→Option Value) (fa:Addr) (h:Heap),(K w.params).In h→h.Ns mainGlobals mg→mg d.name=some (.ref fa) →
   ∃ fd:FuncData,(∀ (s:Shared) (u:Value),BindsTo s fd ⟨[u],[]⟩ [("_law_script", u)]) ∧ ∀ base:Heap,(K w.params).In base→base.Ns mainGlobals mg→FnOk l.prog w (K w.params) mg base CX0 8 fa fd ["_law_script"] (sp_law (K w.params))) :
  W.WalkO q loose XP YP l.row.toRowW d [] (fun f vs=>PySem.call f vs):=
 L2.walk_of (n:=63) (k:=8) (x:="_law_script") (CX:=fun _=>CX0) (sp:=fun w=>sp_law (K w.params)) hn (by decide) hdf ⟨rfl,by decide,by decide⟩ hY F (fun _ _ a ns hl _ hS=>⟨a,ns,rfl,hS,hl,fun _=>rfl⟩) fun _ _ _ _ _ z=>z
end Pw
namespace PySem.W.Fast
def tw10032264272333120925:=0
def tw10064059574501148053:=0
def tw1006610678019554374:=0
def tw10081130161486981265:=0
def tw10102751761593105533:=0
def tw10142172265763156624:=0
def tw10183978704628921392:=0
def tw10203128435828821711:=0
def tw10222445567634716657:=0
def tw1025604745320190792:=0
def tw10261525675336020137:=0
def tw10307662340224179081:=0
def tw10335945083407292468:=0
def tw10338036642727900481:=0
def tw10343484135242704724:=0
def tw10357836152144403753:=0
def tw10423449878414410811:=0
def tw10426108422264904794:=0
def tw10435331879250580382:=0
def tw10483287945728487192:=0
def tw10502036480968303544:=0
def tw10504896614651031300:=0
def tw10581023432563344563:=0
def tw10605056288653942577:=0
def tw106441171559396551:=0
def tw10681539537838941615:=0
def tw10698395020975691727:=0
def tw10730113043535935508:=0
def tw10740220393481300702:=0
def tw10743689879679729694:=0
def tw10775861533168754636:=0
def tw1077900584586441655:=0
def tw10840295699285079945:=0
def tw10879516041344542461:=0
def tw10957395278886311511:=0
def tw10964722294306137688:=0
def tw10977196595234432693:=0
def tw10978316274663394341:=0
def tw10987426573407948959:=0
def tw10996102816531202813:=0
def tw11001351052853995526:=0
def tw1103231754661451926:=0
def tw11051815235114212334:=0
def tw11111583839788805130:=0
def tw11116078262711679409:=0
def tw11117422830749486267:=0
def tw11139534560450647092:=0
def tw11143989159545501441:=0
def tw11212735244479732796:=0
def tw11214732187431349001:=0
def tw11250316280351267935:=0
def tw11321793778376270989:=0
def tw11395327041172596277:=0
def tw11415019943363458947:=0
def tw11420849281514730572:=0
def tw11491798676326235933:=0
def tw11513460160012592626:=0
def tw11514736217207323742:=0
def tw11522233771478370092:=0
def tw11574162198229825698:=0
def tw11631490930595580873:=0
def tw11761651037436286986:=0
def tw117753846136279731:=0
def tw11835858754278838971:=0
def tw11854745587199544776:=0
def tw11916845188235812143:=0
def tw119368908898636746:=0
def tw11940262317913085890:=0
def tw11945675944857245735:=0
def tw1194996170262651917:=0
def tw11979562661125744817:=0
def tw11996285132348199740:=0
def tw12003797447466624083:=0
def tw12004488946136288299:=0
def tw12035561814371429730:=0
def tw1205027889948727363:=0
def tw12113378937136925060:=0
def tw12130579716032351554:=0
def tw12173554503869505443:=0
def tw12180994345083613666:=0
def tw12187409974343237901:=0
def tw12270066741525689609:=0
def tw12285596386574185330:=0
def tw12290341123462973106:=0
def tw12406870295813032289:=0
def tw12535988124217363824:=0
def tw12601434827052034579:=0
def tw12618742786505960172:=0
def tw12633246067573936977:=0
def tw12722771595027687679:=0
def tw12773018625152444903:=0
def tw12800209721718800072:=0
def tw12844628195654327532:=0
def tw12879969620690831348:=0
def tw12917624242781356577:=0
def tw12919060493781648728:=0
def tw12926931029240553656:=0
def tw1293668495158213846:=0
def tw12946849263035220256:=0
def tw1296281082550493375:=0
def tw13004364971339094976:=0
def tw1300916186863397508:=0
def tw13038624773467416434:=0
def tw1306857067447073795:=0
def tw13079478534649112161:=0
def tw13215846245669481123:=0
def tw13215968025836556181:=0
def tw13274876372072379736:=0
def tw13302117574792962238:=0
def tw1333787354810245728:=0
def tw13405181725580527446:=0
def tw13457001304582434851:=0
def tw13473069689375327814:=0
def tw13519430975301193733:=0
def tw13565176192552008971:=0
def tw13592137313237121626:=0
def tw136013793393220444:=0
def tw13610829417242157843:=0
def tw13620958836875399632:=0
def tw13643593562898755702:=0
def tw13674305405382648862:=0
def tw13734906594560586993:=0
def tw13810186999554201266:=0
def tw13873666818620804370:=0
def tw13923156660024801774:=0
def tw13946252268694670666:=0
def tw13961872106007522899:=0
def tw13981457749059841240:=0
def tw1409358571080671647:=0
def tw14111662333902677544:=0
def tw14121193903737753641:=0
def tw14181779555675603567:=0
def tw14206515679798382561:=0
def tw14239153548109155047:=0
def tw14280151953373830026:=0
def tw14314166022138575420:=0
def tw14351302516943133591:=0
def tw14375282169171501176:=0
def tw14509352331368339176:=0
def tw14513994797861273935:=0
def tw14528482540012058129:=0
def tw14547503703221611866:=0
def tw14561110675795291791:=0
def tw14582746862021868171:=0
def tw14615711096382988521:=0
def tw14640385350807230138:=0
def tw14657641328136768939:=0
def tw14678288780018130091:=0
def tw14767691041992938133:=0
def tw14841361831079256521:=0
def tw14868317966355038875:=0
def tw14911915276014504394:=0
def tw14950883360834625540:=0
def tw14994855596803949802:=0
def tw15006904363555649063:=0
def tw15007540082566091254:=0
def tw15040164455293031192:=0
def tw15079596259457178582:=0
def tw15079981428536029251:=0
def tw15097722012675243:=0
def tw15100337467792021442:=0
def tw15108105847281017495:=0
def tw15112310052967653882:=0
def tw15127596529789275040:=0
def tw15216788502879413394:=0
def tw15219426304937267697:=0
def tw15243705171421101184:=0
def tw15280282791182234882:=0
def tw15281470349375638905:=0
def tw15421377837726115234:=0
def tw15428565839495615196:=0
def tw15483260711318133113:=0
def tw15498357692653163872:=0
def tw15526018983849348190:=0
def tw15544541637396146581:=0
def tw15547830862175194087:=0
def tw1555743996196422978:=0
def tw15602412020086180036:=0
def tw15615326417353691140:=0
def tw15615776962416160535:=0
def tw15713915710829345203:=0
def tw15722345323797502058:=0
def tw15757620384117558282:=0
def tw15759213779756278626:=0
def tw15786689934398654520:=0
def tw15818319226540877005:=0
def tw15837822009007224259:=0
def tw1585319237058625663:=0
def tw15879964654874951239:=0
def tw15881479589336770545:=0
def tw15934663804676869005:=0
def tw15956262235537363661:=0
def tw15962861455390142478:=0
def tw16009538543253616791:=0
def tw16034705251876257673:=0
def tw16065045900325458066:=0
def tw16149120397963062937:=0
def tw1615430507405582586:=0
def tw16156930550603166136:=0
def tw16170202468706552674:=0
def tw16180592755887748249:=0
def tw1626035524918622715:=0
def tw16316967373540399036:=0
def tw1642045744779122977:=0
def tw16447905455787774067:=0
def tw16481167068647960988:=0
def tw16481465990080291967:=0
def tw1652420771120932159:=0
def tw16537756370674449740:=0
def tw16601001625292527387:=0
def tw16626309342101063759:=0
def tw16927921132191912985:=0
def tw16954682168108187268:=0
def tw16967410148766842495:=0
def tw16980903252490377029:=0
def tw17005120272858703812:=0
def tw17061524099617517524:=0
def tw17079591584290539356:=0
def tw17087118492541725209:=0
def tw17116898978165745571:=0
def tw17201645262203986479:=0
def tw17202252546637619137:=0
def tw17207250681985193402:=0
def tw17262847742435682521:=0
def tw17295514134423521534:=0
def tw17347393937460778871:=0
def tw17445783038261501597:=0
def tw17503769209741088190:=0
def tw1753688647848713724:=0
def tw17576314973901107884:=0
def tw17598440732976934984:=0
def tw1760580085642066059:=0
def tw1762921610516451422:=0
def tw17633703326999856874:=0
def tw17645492954038228480:=0
def tw17713212695615532883:=0
def tw1772662556132103756:=0
def tw17746761740588192238:=0
def tw17801260130295152492:=0
def tw17861046735219256641:=0
def tw17926556344751133997:=0
def tw17950449731874541606:=0
def tw17958878305193685972:=0
def tw17962972685461801718:=0
def tw17983234870523442834:=0
def tw17986675219797676207:=0
def tw18000807270698680951:=0
def tw18049638427354695067:=0
def tw1805834142413841366:=0
def tw18119663498771697380:=0
def tw1822033254677586074:=0
def tw18240100491063885486:=0
def tw18298914054197591237:=0
def tw18390243884877416795:=0
def tw18391413392899841018:=0
def tw18424088284176831142:=0
def tw1849720424758808468:=0
def tw1851651990362953491:=0
def tw1859235894995691566:=0
def tw1866206550952095486:=0
def tw1873674328379911695:=0
def tw1972538083195416466:=0
def tw1996160493096273346:=0
def tw2003573578087800262:=0
def tw2068573214565773638:=0
def tw2152116388580783340:=0
def tw2174395464220842323:=0
def tw2194140926326332638:=0
def tw2223140730961537509:=0
def tw2265578167893759705:=0
def tw2279344902974841239:=0
def tw228281461062056581:=0
def tw2294740726651183937:=0
def tw229873994922542201:=0
def tw238626134186313801:=0
def tw240697982607550165:=0
def tw2519636627457893877:=0
def tw2587142861134931300:=0
def tw260415291015696634:=0
def tw2622490827703722633:=0
def tw2659248522506055373:=0
def tw2666259401011131901:=0
def tw2678387116809319903:=0
def tw2682077377017554092:=0
def tw2695695433019431813:=0
def tw2718569297899588838:=0
def tw2721013476951856607:=0
def tw2725274628793979128:=0
def tw2727569725296313650:=0
def tw2812315596014243455:=0
def tw2821485020767397957:=0
def tw2832411941973992161:=0
def tw2833879968098208108:=0
def tw2838910501597580586:=0
def tw2857641608825743940:=0
def tw2859115363855874408:=0
def tw2882591953886175631:=0
def tw2940622323644221234:=0
def tw3085378337500758340:=0
def tw3085752161834936903:=0
def tw3091917474048328291:=0
def tw3101925795691506922:=0
def tw3210106432878313279:=0
def tw3263301280496056914:=0
def tw3272402712041156045:=0
def tw3320212956921975663:=0
def tw3373571436606446154:=0
def tw3489271826291930087:=0
def tw3614728659238816796:=0
def tw3635354913934733503:=0
def tw3697923153286526383:=0
def tw3765395327768956340:=0
def tw380470821779493408:=0
def tw3820548727436924939:=0
def tw3915982904278500930:=0
def tw3968992884546627399:=0
def tw3970254658705873780:=0
def tw3971612738462105827:=0
def tw3971998225433924623:=0
def tw400436521011931408:=0
def tw4098815203946718418:=0
def tw4161888277769039747:=0
def tw4219028457003944600:=0
def tw4220232003363889480:=0
def tw4228926081471697125:=0
def tw4249390417057891384:=0
def tw4262007314088400517:=0
def tw4366633294096540550:=0
def tw437427165334707316:=0
def tw4379472903835899823:=0
def tw440823400160309759:=0
def tw450847075334574814:=0
def tw4530160149085669221:=0
def tw4690168746112761385:=0
def tw4697515837815675710:=0
def tw4726657279444070391:=0
def tw4731962909676656440:=0
def tw4764742042794563186:=0
def tw4775667189495359219:=0
def tw4804758572152943297:=0
def tw4818289084167199247:=0
def tw4828615051971742035:=0
def tw4883292747645400522:=0
def tw4897454235189592202:=0
def tw4933609739868743046:=0
def tw4939126610846517972:=0
def tw4944942486577332499:=0
def tw5053407948655970090:=0
def tw5066915374924879783:=0
def tw5071406050833604111:=0
def tw5085903503447372427:=0
def tw5087206421203282287:=0
def tw5106367201633618483:=0
def tw5114756136308322690:=0
def tw5142374529521316010:=0
def tw5164831869198419900:=0
def tw5181804449408168427:=0
def tw5186666422431227741:=0
def tw5216895520601508876:=0
def tw5244563704082204797:=0
def tw5285674142826542597:=0
def tw5291332466176710971:=0
def tw5297979206053213656:=0
def tw5305675483393049921:=0
def tw5339585552423309971:=0
def tw5353778671027503890:=0
def tw5364051707648754655:=0
def tw5393918714598361575:=0
def tw5402634404003578174:=0
def tw5452229037356652115:=0
def tw5500106639519003644:=0
def tw5521296685036923337:=0
def tw553208686065356395:=0
def tw5577595760485115370:=0
def tw5667311668189696012:=0
def tw5691405084555738381:=0
def tw5691936550865689151:=0
def tw5713266510613550171:=0
def tw5739648333859129936:=0
def tw5742924119952887490:=0
def tw5764815112078653141:=0
def tw5783588600508389581:=0
def tw5791799996669922993:=0
def tw5798543724237379271:=0
def tw5841805987702677696:=0
def tw5841871941394250709:=0
def tw5842924897504280041:=0
def tw5846744222546481025:=0
def tw5849210532234024203:=0
def tw586235611793174859:=0
def tw6012867565879996363:=0
def tw6065743900404368197:=0
def tw6116722112188189648:=0
def tw6177831934878209593:=0
def tw6199519999920500054:=0
def tw6202861879566499597:=0
def tw6209218843210714150:=0
def tw6220035768935990681:=0
def tw6231906645080656612:=0
def tw6253189698188331475:=0
def tw6284524142316640523:=0
def tw6305381439094593108:=0
def tw6332412387948451103:=0
def tw6412937636967606375:=0
def tw6427811653118435837:=0
def tw6453600981244921816:=0
def tw6479712457888076028:=0
def tw6508515127434744845:=0
def tw6510924984536930117:=0
def tw6572183641794913732:=0
def tw6584882586245329643:=0
def tw6596754801942748797:=0
def tw6610710372609433116:=0
def tw6666815994656448488:=0
def tw6730030777380264421:=0
def tw6817201977178837542:=0
def tw6887677093985860830:=0
def tw6890604773751161979:=0
def tw6932920231166263785:=0
def tw699554382279422211:=0
def tw6996220416787338779:=0
def tw7010998888196964095:=0
def tw7056953947695173531:=0
def tw7058088905061939064:=0
def tw7114112854530457618:=0
def tw7131037676320218777:=0
def tw7146819128567025646:=0
def tw7177891496985220517:=0
def tw7189426844006464369:=0
def tw7228104594766326328:=0
def tw7234281000026449868:=0
def tw7265113511240221892:=0
def tw7296861685892120028:=0
def tw7302445626464508102:=0
def tw7360152655533122402:=0
def tw7396849691953705355:=0
def tw7457540980056553856:=0
def tw7467429088764115005:=0
def tw7502357955059057169:=0
def tw7574672549616956782:=0
def tw7588638404519014943:=0
def tw7644708585600329725:=0
def tw7762481543953876955:=0
def tw7777919372041645466:=0
def tw7781514525532334511:=0
def tw7784853386301514243:=0
def tw7793556821482365677:=0
def tw793620062266125239:=0
def tw7949076629551742566:=0
def tw8038792327357952385:=0
def tw8064066024314930656:=0
def tw81424471113628817:=0
def tw8152459274181605578:=0
def tw8161253648949217865:=0
def tw8168033320477734980:=0
def tw8180537978413687722:=0
def tw8237374631748711461:=0
def tw8282614507414430202:=0
def tw8313337976265103604:=0
def tw8316404877323684528:=0
def tw8326539513174045124:=0
def tw8331461065272511410:=0
def tw8359216699539413761:=0
def tw8378775541060314355:=0
def tw8401568329752615502:=0
def tw8467150260160538446:=0
def tw8473527538937452595:=0
def tw8491077446312346565:=0
def tw8509193800121847940:=0
def tw8515776297470110581:=0
def tw854576958453936644:=0
def tw8553807755773229018:=0
def tw8596318489920902474:=0
def tw8635649441095318678:=0
def tw8693266995610855150:=0
def tw8703643108950667798:=0
def tw871535980454107536:=0
def tw8766292969368622272:=0
def tw8768428442451198915:=0
def tw8791477549817586168:=0
def tw8823299610438982540:=0
def tw8849431472449877922:=0
def tw889555788900099576:=0
def tw890706868136698269:=0
def tw8929173809688888234:=0
def tw893501383813247380:=0
def tw9055412414090881895:=0
def tw9075680885789324698:=0
def tw9080745573996429931:=0
def tw9082890481412387067:=0
def tw914830172543008185:=0
def tw9224800263367666778:=0
def tw9225538406027855929:=0
def tw9251285277800542038:=0
def tw9341770126028259083:=0
def tw9344853841198719389:=0
def tw9389981740528869252:=0
def tw9401082076244216734:=0
def tw941774072206810962:=0
def tw9455514371622300025:=0
def tw9457164637820291129:=0
def tw9515679082028135029:=0
def tw9533908983021670492:=0
def tw9571122256727191476:=0
def tw9578610238322476592:=0
def tw9592410061427534360:=0
def tw9594636444060519357:=0
def tw9606913682802626690:=0
def tw962192848154523582:=0
def tw9679611985588927988:=0
def tw9716222791236108136:=0
def tw9721903846806020681:=0
def tw9744857680111581150:=0
def tw974525268577477891:=0
def tw9813535653751511647:=0
def tw9842974647621763589:=0
def tw9851320433162369827:=0
def tw9888427925435055610:=0
def tw9914822665448122467:=0
def tw9954436828268770465:=0
def tw9954862713392819934:=0
def tw9982444212532216199:=0
end PySem.W.Fast
open PySem PySem.W PyProof.Rows
set_option maxRecDepth 100000 in
set_option maxHeartbeats 0 in
theorem PySem.Challenge.cw_padwright_k65_whole_in_order_holds : PySem.Challenge.rw_padwright_k65_whole_in_order.Holds := by
 w_on;o_law;k_head;(case hw=>w_witness2)
 k_fill
 refine Pw.walk (l:=PySem.Challenge.rw_padwright_k65_whole_in_order) rfl rfl (fun w h Y=>PySem.W.kIn_of Y) ?F
 case F =>
  intro w mg fa h KX G hmg
  refine' Pw.all_mk KX G hmg ?a0 ?l0 ?c0 ?k0 ?a1 ?l1 ?c1 ?k1 ?a2 ?l2 ?c2 ?k2 ?a3 ?l3 ?c3 ?k3 ?a4 ?l4 ?c4 ?k4 ?a5 ?l5 ?c5 ?k5 ?a6 ?l6 ?c6 ?k6 ?a7 ?l7 ?c7 ?k7 ?a8 ?l8 ?c8 ?k8 ?a9 ?l9 ?c9 ?k9 ?a10 ?l10 ?c10 ?k10 ?a11 ?l11 ?c11 ?k11 ?a12 ?l12 ?c12 ?k12 ?a13 ?l13 ?c13 ?k13 ?a14 ?l14 ?c14 ?k14 ?a15 ?l15 ?c15 ?k15 ?a16 ?l16 ?c16 ?k16 ?a17 ?l17 ?c17 ?k17 ?a18 ?l18 ?c18 ?k18 ?a19 ?l19 ?c19 ?k19 ?a20 ?l20 ?c20 ?k20 ?a21 ?l21 ?c21 ?k21 ?a22 ?l22 ?c22 ?k22 ?a23 ?l23 ?c23 ?k23 ?a24 ?l24 ?c24 ?k24 ?a25 ?l25 ?c25 ?k25 ?a26 ?l26 ?c26 ?k26 ?a27 ?l27 ?c27 ?k27 ?a28 ?l28 ?c28 ?k28 ?a29 ?l29 ?c29 ?k29 ?a30 ?l30 ?c30 ?k30 ?a31 ?l31 ?c31 ?k31 ?a32 ?l32 ?c32 ?k32 ?a33 ?l33 ?c33 ?k33 ?a34 ?l34 ?c34 ?k34 ?a35 ?l35 ?c35 ?k35 ?a36 ?l36 ?c36 ?k36 ?a37 ?l37 ?c37 ?k37 ?a38 ?l38 ?c38 ?k38 ?a39 ?l39 ?c39 ?k39 ?a40 ?l40 ?c40 ?k40 ?a41 ?l41 ?c41 ?k41 ?a42 ?l42 ?c42 ?k42 ?a43 ?l43 ?c43 ?k43 ?a44 ?l44 ?c44 ?k44 ?a45 ?l45 ?c45 ?k45 ?a46 ?l46 ?c46 ?k46 ?a47 ?l47 ?c47 ?k47 ?a48 ?l48 ?c48 ?k48 ?a49 ?l49 ?c49 ?k49 ?z_len ?z_max ?z_range ?z_isinstance ?z_bool ?z_int ?z_abs ?z_tuple ?z_min ?z_sorted ?z_set ?z_list ?n_FIGURES ?n_STYLES ?n_NoCore ?n_Form ?n_NumberForm ?ex_NoCore ?h1_NoCore ?h2_NoCore ?hb_NoCore ?hd_NoCore ?ha_NoCore ?hn_NoCore ?ht_NoCore ?hm_NoCore ?sty ?K1_NumberForm ?K2_NumberForm ?K3_NumberForm ?K4_NumberForm ?N_NumberForm_width ?N_NumberForm_fill ?N_NumberForm_side ?N_NumberForm_strict ?N_NumberForm_figures ?N_NumberForm_places ?N_NumberForm_base ?N_NumberForm_sign ?N_NumberForm_size ?N_NumberForm_mark ?N_NumberForm_point ?N_NumberForm_way ?C1_Form_init ?C2_Form_init ?C3_Form_init ?Fn_NumberForm_is_too_great ?Ma_NumberForm_is_too_great ?Fn_NumberForm_lead_of ?Ma_NumberForm_lead_of ?Fn_NumberForm_core ?Ma_NumberForm_core ?Fn_Form_is_too_wide ?Ma_NumberForm_is_too_wide ?Fn_Form_filled ?Ma_NumberForm_filled ?Fn_NumberForm___init__ ?I1_NumberForm ?I2_NumberForm ?I4_NumberForm ?Fn_Form_put ?Ma_NumberForm_put ?dl20
  (case n_NoCore=>k_is)
  (case n_Form=>k_is)
  (case n_NumberForm=>k_is)
  (case a0=>k_is);(case l0=>k_is);(case c0=>k_is);(case k0=>k_is)
  (case a1=>k_is);(case l1=>k_is);(case c1=>k_is);(case k1=>k_is)
  (case a2=>k_is);(case l2=>k_is);(case c2=>k_is);(case k2=>k_is)
  (case a3=>k_is);(case l3=>k_is);(case c3=>k_is);(case k3=>k_is)
  (case a4=>k_is);(case l4=>k_is);(case c4=>k_is);(case k4=>k_is)
  (case a5=>k_is);(case l5=>k_is);(case c5=>k_is);(case k5=>k_is)
  (case a6=>k_is);(case l6=>k_is);(case c6=>k_is);(case k6=>k_is)
  (case a7=>k_is);(case l7=>k_is);(case c7=>k_is);(case k7=>k_is)
  (case a8=>k_is);(case l8=>k_is);(case c8=>k_is);(case k8=>k_is)
  (case a9=>k_is);(case l9=>k_is);(case c9=>k_is);(case k9=>k_is)
  (case a10=>k_is);(case l10=>k_is);(case c10=>k_is);(case k10=>k_is)
  (case a11=>k_is);(case l11=>k_is);(case c11=>k_is);(case k11=>k_is)
  (case a12=>k_is);(case l12=>k_is);(case c12=>k_is);(case k12=>k_is)
  (case a13=>k_is);(case l13=>k_is);(case c13=>k_is);(case k13=>k_is)
  (case a14=>k_is);(case l14=>k_is);(case c14=>k_is);(case k14=>k_is)
  (case a15=>k_is);(case l15=>k_is);(case c15=>k_is);(case k15=>k_is)
  (case a16=>k_is);(case l16=>k_is);(case c16=>k_is);(case k16=>k_is)
  (case a17=>k_is);(case l17=>k_is);(case c17=>k_is);(case k17=>k_is)
  (case a18=>k_is);(case l18=>k_is);(case c18=>k_is);(case k18=>k_is)
  (case a19=>k_is);(case l19=>k_is);(case c19=>k_is);(case k19=>k_is)
  (case a20=>k_is);(case l20=>k_is);(case c20=>k_is);(case k20=>k_is)
  (case a21=>k_is);(case l21=>k_is);(case c21=>k_is);(case k21=>k_is)
  (case a22=>k_is);(case l22=>k_is);(case c22=>k_is);(case k22=>k_is)
  (case a23=>k_is);(case l23=>k_is);(case c23=>k_is);(case k23=>k_is)
  (case a24=>k_is);(case l24=>k_is);(case c24=>k_is);(case k24=>k_is)
  (case a25=>k_is);(case l25=>k_is);(case c25=>k_is);(case k25=>k_is)
  (case a26=>k_is);(case l26=>k_is);(case c26=>k_is);(case k26=>k_is)
  (case a27=>k_is);(case l27=>k_is);(case c27=>k_is);(case k27=>k_is)
  (case a28=>k_is);(case l28=>k_is);(case c28=>k_is);(case k28=>k_is)
  (case a29=>k_is);(case l29=>k_is);(case c29=>k_is);(case k29=>k_is)
  (case a30=>k_is);(case l30=>k_is);(case c30=>k_is);(case k30=>k_is)
  (case a31=>k_is);(case l31=>k_is);(case c31=>k_is);(case k31=>k_is)
  (case a32=>k_is);(case l32=>k_is);(case c32=>k_is);(case k32=>k_is)
  (case a33=>k_is);(case l33=>k_is);(case c33=>k_is);(case k33=>k_is)
  (case a34=>k_is);(case l34=>k_is);(case c34=>k_is);(case k34=>k_is)
  (case a35=>k_is);(case l35=>k_is);(case c35=>k_is);(case k35=>k_is)
  (case a36=>k_is);(case l36=>k_is);(case c36=>k_is);(case k36=>k_is)
  (case a37=>k_is);(case l37=>k_is);(case c37=>k_is);(case k37=>k_is)
  (case a38=>k_is);(case l38=>k_is);(case c38=>k_is);(case k38=>k_is)
  (case a39=>k_is);(case l39=>k_is);(case c39=>k_is);(case k39=>k_is)
  (case a40=>k_is);(case l40=>k_is);(case c40=>k_is);(case k40=>k_is)
  (case a41=>k_is);(case l41=>k_is);(case c41=>k_is);(case k41=>k_is)
  (case a42=>k_is);(case l42=>k_is);(case c42=>k_is);(case k42=>k_is)
  (case a43=>k_is);(case l43=>k_is);(case c43=>k_is);(case k43=>k_is)
  (case a44=>k_is);(case l44=>k_is);(case c44=>k_is);(case k44=>k_is)
  (case a45=>k_is);(case l45=>k_is);(case c45=>k_is);(case k45=>k_is)
  (case a46=>k_is);(case l46=>k_is);(case c46=>k_is);(case k46=>k_is)
  (case a47=>k_is);(case l47=>k_is);(case c47=>k_is);(case k47=>k_is)
  (case a48=>k_is);(case l48=>k_is);(case c48=>k_is);(case k48=>k_is)
  (case a49=>k_is);(case l49=>k_is);(case c49=>k_is);(case k49=>k_is)
  (case z_len=>k_is)
  (case z_max=>k_is)
  (case z_range=>k_is)
  (case z_isinstance=>k_is)
  (case z_bool=>k_is)
  (case z_int=>k_is)
  (case z_abs=>k_is)
  (case z_tuple=>k_is)
  (case z_min=>k_is)
  (case z_sorted=>k_is)
  (case z_set=>k_is)
  (case z_list=>k_is)
  (case n_FIGURES=>k_is)
  (case n_STYLES=>k_is)
  (case ex_NoCore=>k_exc)
  (case h1_NoCore=>k_is)
  (case h2_NoCore=>k_is)
  (case hb_NoCore=>k_is)
  (case hd_NoCore=>k_is)
  (case ha_NoCore=>k_is)
  (case hn_NoCore=>k_is)
  (case ht_NoCore=>k_is)
  (case hm_NoCore=>k_is)
  (case sty=>(refine' L2.sty_mk ?d ?hp0 ?ha0 ?hb0 ?hp1 ?ha1 ?hb1 ?hp2 ?ha2 ?hb2 ?hp3 ?ha3 ?hb3 ?hp4 ?ha4 ?hb4);(case d=>k_is);(case hp0=>k_is);(case ha0=>k_is);(case hb0=>k_is);(case hp1=>k_is);(case ha1=>k_is);(case hb1=>k_is);(case hp2=>k_is);(case ha2=>k_is);(case hb2=>k_is);(case hp3=>k_is);(case ha3=>k_is);(case hb3=>k_is);(case hp4=>k_is);(case ha4=>k_is);(case hb4=>k_is))
  (case K1_NumberForm=>k_is)
  (case K2_NumberForm=>k_is)
  (case K3_NumberForm=>k_is)
  (case K4_NumberForm=>k_is)
  (case N_NumberForm_width=>k_is)
  (case N_NumberForm_fill=>k_is)
  (case N_NumberForm_side=>k_is)
  (case N_NumberForm_strict=>k_is)
  (case N_NumberForm_figures=>k_is)
  (case N_NumberForm_places=>k_is)
  (case N_NumberForm_base=>k_is)
  (case N_NumberForm_sign=>k_is)
  (case N_NumberForm_size=>k_is)
  (case N_NumberForm_mark=>k_is)
  (case N_NumberForm_point=>k_is)
  (case N_NumberForm_way=>k_is)
  (case C1_Form_init=>k_is)
  (case C2_Form_init=>k_is)
  (case C3_Form_init=>k_is)
  (case Fn_NumberForm_is_too_great=>k_is)
  (case Ma_NumberForm_is_too_great=>k_is)
  (case Fn_NumberForm_lead_of=>k_is)
  (case Ma_NumberForm_lead_of=>k_is)
  (case Fn_NumberForm_core=>k_is)
  (case Ma_NumberForm_core=>k_is)
  (case Fn_Form_is_too_wide=>k_is)
  (case Ma_NumberForm_is_too_wide=>k_is)
  (case Fn_Form_filled=>k_is)
  (case Ma_NumberForm_filled=>k_is)
  (case Fn_NumberForm___init__=>k_is)
  (case I1_NumberForm=>k_is)
  (case I2_NumberForm=>k_is)
  (case I4_NumberForm=>k_is)
  (case Fn_Form_put=>k_is)
  (case Ma_NumberForm_put=>k_is)
  (case dl20=>k_is)

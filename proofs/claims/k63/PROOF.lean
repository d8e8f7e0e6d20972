import PyProof.Rows.All
import KE.KDictList
import KE.KFromBytes
import KE.KItem
import KE.KNestM
import KE.KTryMore
import KE.RegKIsAll
import KE.RegKTryMore
import Wide.FinOn
import PySem.Challenge.RW_padwright_k63_whole_texts_of_looks
set_option Elab.async false
set_option linter.all false
set_option maxRecDepth 100000
set_option compiler.extract_closed false
local macro_rules | `(tactic|omega)=>`(tactic|first|lia|omega (config:={}))
namespace L2
open PySem PySem.Spec PyProof.Rows
open List (length_cons mem_append_right mem_cons_of_mem)
open Nat (le_refl le_trans lt_irrefl lt_of_lt_of_le ne_of_lt zero_le)
abbrev Key:=Sum Int Str
def zWD:Key->Value->Bool
 | .inl k,v=>Value.isInt k v
 | .inr x,v=>Value.isStrOf x v
def keyH (w:World):Key->Int
 | .inl k=>hashInt k
 | .inr x=>hashStr w x
theorem zBz : ∀ {k:Key} {v:Value},zWD k v=true->(∃ i t,k=Sum.inl i/\v=Value.int i t)\/(∃ x t,k=Sum.inr x/\v=Value.str x t)
 | .inl i,v,h=>by
  obtain ⟨t,e⟩:=Value.isInt_shape (k:=i) (v:=v) h
  exact .inl ⟨i,t,rfl,e⟩
 | .inr x,v,h=>by
  obtain ⟨t,e⟩:=Value.isStrOf_shape (x:=x) (v:=v) h
  exact .inr ⟨x,t,rfl,e⟩
theorem zWH (a b:Int):decide ((Sum.inl a:Key)=Sum.inl b)=(a == b):=by
 by_cases e:a=b
 ·subst e;simp
 ·have h : ¬ (Sum.inl a:Key)=Sum.inl b:=fun q=>e (Sum.inl.inj q)
  rw [decide_eq_false h]
  exact (beq_eq_false_iff_ne.mpr e).symm
theorem zXJ (a b:Str):decide ((Sum.inr a:Key)=Sum.inr b)=decide (a=b):=by
 by_cases e:a=b
 ·subst e;simp
 ·have h : ¬ (Sum.inr a:Key)=Sum.inr b:=fun q=>e (Sum.inr.inj q)
  rw [decide_eq_false h,decide_eq_false e]
theorem zVs (a:Int) (b:Str):decide ((Sum.inl a:Key)=Sum.inr b)=false:=decide_eq_false (fun q=>nomatch q)
theorem zVv (a:Str) (b:Int):decide ((Sum.inr a:Key)=Sum.inl b)=false:=decide_eq_false (fun q=>nomatch q)
def zQ3 (prog:Program) (w:World):PySem.KeyKind prog w Key where
 is:=zWD
 hash:=keyH w
 inj:=fun v a b ha hb=>by
  rcases zBz ha with ⟨i,t,rfl,rfl⟩ | ⟨x,t,rfl,rfl⟩
  ·rcases zBz hb with ⟨j,u,rfl,e⟩ | ⟨y,u,rfl,e⟩
   ·injection e with e1 _;rw [e1]
   ·exact nomatch e
  ·rcases zBz hb with ⟨j,u,rfl,e⟩ | ⟨y,u,rfl,e⟩
   ·exact nomatch e
   ·injection e with e1 _;rw [e1]
 byValue:=fun k v h=>by
  rcases zBz h with ⟨i,t,rfl,rfl⟩ | ⟨x,t,rfl,rfl⟩ <;> rfl
 pyHash:=fun hv h=>by
  rcases zBz hv with ⟨i,t,rfl,rfl⟩ | ⟨x,t,rfl,rfl⟩
  ·exact wpAny_pyHash_int h
  ·exact wpAny_pyHash_str h
 eqBool:=fun hu hv h=>by
  rcases zBz hu with ⟨i,t,rfl,rfl⟩ | ⟨x,t,rfl,rfl⟩
  ·rcases zBz hv with ⟨j,u,rfl,rfl⟩ | ⟨y,u,rfl,rfl⟩
   ·rw [zWH] at h;exact wpAny_eqBool_int h
   ·rw [zVs] at h;exact SeqAt.EqAt.int_str i t y u _ _ _ _ h
  ·rcases zBz hv with ⟨j,u,rfl,rfl⟩ | ⟨y,u,rfl,rfl⟩
   ·rw [zVv] at h;exact SeqAt.EqAt.str_int x t j u _ _ _ _ h
   ·rw [zXJ] at h;exact wpAny_eqBool_str h
 «strs» := fun k x t v h=>by
  rcases zBz h with ⟨i,u,rfl,e⟩ | ⟨y,u,rfl,e⟩
  ·exact nomatch e
  ·injection e with e1 _
   subst e1
   cases v <;> rfl
inductive V where
 | non | bl (b:Bool) | int (i:Int) | str (x:Str) | byt (b:Array UInt8) | flt (b:UInt64) | ref (a:Addr) | ty (n:String)
 deriving DecidableEq
def RelV:V->Value->Prop
 | .non,u=>u=Value.none
 | .bl b,u=>u=Value.bool b
 | .int i,u=>∃ t,u=Value.int i t
 | .str x,u=>∃ t,u=Value.str x t
 | .byt b,u=>∃ t,u=Value.bytes b t
 | .flt b,u=>∃ t,u=Value.float b t
 | .ref a,u=>u=Value.ref a
 | .ty n,u=>u=Value.type n
abbrev Vals:List V->List Value->Prop:=Paired RelV
variable {xs:List V} {us:List Value}
theorem Vals.length (r:Vals xs us):xs.length=us.length:=Paired.length r
theorem Vals.get : ∀ {xs:List V} {us:List Value} {i:Nat} {x:V},Vals xs us->xs[i]? = some x -> ∃ u,us[i]? = some u/\RelV x u
 | _,_,_,_,.nil,e=>by simp at e
 | _,_,0,_,.cons r _,e=>by simp at e;subst e;exact ⟨_,rfl,r⟩
 | _,_,i+1,x,.cons _ t,e=>by
  obtain ⟨u,h1,h2⟩:=Vals.get (i:=i) (x:=x) t (by simpa using e)
  exact ⟨u,by simpa using h1,h2⟩
theorem Vals.set {x:V} {u:Value} (r:RelV x u) : ∀ {xs:List V} {us:List Value} (i:Nat),Vals xs us->Vals (xs.set i x) (us.set i u)
 | _,_,_,.nil=>.nil
 | _,_,0,.cons _ t=>.cons r t
 | _,_,i+1,.cons q t=>.cons q (Vals.set r i t)
theorem Vals.append : ∀ {xs ys:List V} {us ws:List Value},Vals xs us->Vals ys ws->Vals (xs++ys) (us++ws)
 | _,_,_,_,.nil,s=>s
 | _,_,_,_,.cons r t,s=>.cons r (Vals.append t s)
theorem Vals.take : ∀ {xs:List V} {us:List Value} (n:Nat),Vals xs us->Vals (xs.take n) (us.take n)
 | _,_,0,_=>.nil
 | _,_,_+1,.nil=>.nil
 | _,_,n+1,.cons r t=>.cons r (Vals.take n t)
theorem Vals.drop : ∀ {xs:List V} {us:List Value} (n:Nat),Vals xs us->Vals (xs.drop n) (us.drop n)
 | _,_,0,r=>r
 | _,_,_+1,.nil=>.nil
 | _,_,n+1,.cons _ t=>Vals.drop n t
theorem Vals.none_of : ∀ {xs:List V} {us:List Value} {i:Nat},Vals xs us->xs[i]? = none->us[i]? = none:=fun {xs us i} r e=>by
 have h1:=r.length
 have h2:xs.length<=i:=List.getElem?_eq_none_iff.mp e
 exact List.getElem?_eq_none_iff.mpr (by omega)
def RelO:Option V->Option Value->Prop
 | some v,some u=>RelV v u
 | none,none=>True
 | _,_=>False
def KV {κ:Type}:List (κ × V)->List (κ × Value)->Prop:=Paired fun (p:κ × V) (q:κ × Value)=>p.1=q.1/\RelV p.2 q.2
def kV:Key->V
 | .inl i=>.int i
 | .inr x=>.str x
inductive HO where
 | lst (xs:List V)
 | tup (xs:List V)
 | dK (kvs:List (Key × V)) | dT (kvs:List (List Key × V))
 | set (S:Int->Bool) (n:Nat)
 | ins (C dx:Addr) (fs:List (Str × V))
 | own (x:Addr)
 | xd (fs:List (Str × V))
 | met (f x:Addr)
 | rng (lo hi:Int)
 | frz (o:Obj) (u:HO)
 | tbl (ps:Array Value)
 | ext (φ:Heap->Prop)
abbrev Hp:=Addr->Option HO
def upd (H:Hp) (a:Addr) (o:HO):Hp:=fun b=>if b=a then some o else H b
variable {H:Hp} {a:Addr} {o:HO}
theorem zAU:upd H a o a=some o:=by unfold upd;rw [if_pos rfl]
variable {b:Addr}
theorem zBY (h:b≠a):upd H a o b=H b:=by unfold upd;rw [if_neg h]
variable {u:HO}
theorem zCf:upd (upd H a o) a u=upd H a u:=by
 funext b;unfold upd;split <;> rfl
theorem zXk (h:H a=some o) (h':H b=some u) (d:o≠u):a≠b:=by
 intro e;subst e;rw [h] at h';exact d (Option.some.inj h')
theorem zB8 (h:H a=some o) (h':H b=none):a≠b:=by
 intro e;subst e;rw [h] at h';cases h'
section
variable (P : Program) (w : World)
def zD7 (H:Hp) (h:Heap) (a:Addr):HO->Prop
 | .lst xs=>xs.length<=sizeLine /\ ∃ (its:List Value) (n:Nat),Vals xs its/\h.get? a=some { cls:=.type "list", data:=.seq its.toArray n }
 | .tup xs=>xs.length<=sizeLine /\ ∃ its:List Value,Vals xs its/\IsTup h a its.toArray
 | .dK kvs=>kvs.length<=sizeLine/\(a == sysModules)=false /\ ∃ vs,KV kvs vs/\h.DictOf (zQ3 P w) a vs
 | .dT kvs=>kvs.length<=sizeLine/\(a == sysModules)=false /\ ∃ xs:List (List Key × Addr × Value),
   Paired (fun (p:List Key × V) (q:List Key × Addr × Value)=>p.1=q.1/\H q.2.1=some (.tup (p.1.map kV))/\RelV p.2 q.2.2) kvs xs /\
   ∃ o es ep,h.get? a=some o/\o.ExactDict/\o.data = .dict es ep/\es.toList=xs.map (entryOfKey (tupleKind (zQ3 P w)))/\(xs.map (·.1)).Nodup
 | .set S n=>h.SetOf (intKind P w) a S n
 | .ins C dx fs=>H dx=some (.own a)/\fs.length<=1000/\dx≠a/\h.get? a=some (W.instObj C dx) /\
   ∃ mA,h.Ns1 dx mA/\(∀ f,RelO (fs.lookup f) (mA f))/\PySem.Within mA (fs.map (·.1))
 | .own _=>∃ o,h.get? a=some o
 | .xd fs=>∃ mA,h.Ns1 a mA /\ ∀ f,RelO (fs.lookup f) (mA f)
 | .rng lo hi=>∃ t u v,h.get? a=some { cls:=.type "range", data:=.fields #[.int lo t,.int hi u,.int 1 v] }
 | .frz o u=>h.get? a=some o/\zD7 H h a u
 | .tbl ps=>h.get? a=some { cls:=.none,data:=.fields ps }
 | .met f x=>h.get? a=some (W.methodObj (.ref f) (.ref x))
 | .ext φ=>φ h/\(∃ o,h.get? a=some o) /\ ∀ h1 h2:Heap,φ h1->(∀ o,h1.get? a=some o->h2.get? a=some o)->φ h2
def HOk (H:Hp) (h:Heap):Prop:=∀ a o,H a=some o->zD7 P w H h a o
end
section
variable {P : Program} {w : World} {H H' : Hp} {h h' : Heap} {a : Addr} {o : HO}
theorem zD7.lt (x:zD7 P w H h a o):a < h.objs.size:=by
 cases o with
 | lst xs=>obtain ⟨_,_,_,_,e⟩:=x;exact Heap.lt_size e
 | tup xs=>obtain ⟨_,_,_,p⟩:=x;exact p.lt
 | dK kvs=>obtain ⟨_,_,_,_,o,_,_,e,_⟩:=x;exact Heap.lt_size e
 | dT kvs=>obtain ⟨_,_,_,_,o,_,_,e,_⟩:=x;exact Heap.lt_size e
 | set S n=>obtain ⟨o,_,_,_,e,_⟩:=x;exact Heap.lt_size e
 | ins C dx fs=>obtain ⟨_,_,_,e,_⟩:=x;exact Heap.lt_size e
 | own y=>obtain ⟨_,e⟩:=x;exact Heap.lt_size e
 | xd fs=>obtain ⟨_,⟨_,_,_,e,_⟩,_⟩:=x;exact Heap.lt_size e
 | rng lo hi=>obtain ⟨_,_,_,e⟩:=x;exact Heap.lt_size e
 | frz ob u=>obtain ⟨e,_⟩:=x;exact Heap.lt_size e
 | tbl ps=>exact Heap.lt_size (show h.get? a=some _ from x)
 | met f y=>exact Heap.lt_size (show h.get? a=some _ from x)
 | ext φ=>obtain ⟨_,⟨_,e⟩,_⟩:=x;exact Heap.lt_size e
theorem Paired.mapP {α β:Type} {F G:α->β->Prop} : ∀ {l₁:List α} {l₂:List β},Paired F l₁ l₂->(∀ a b,F a b->G a b)->Paired G l₁ l₂
 | _,_,.nil,_=>.nil
 | _,_,.cons r t,f=>.cons (f _ _ r) (Paired.mapP t f)
theorem zD7.stay (x:zD7 P w H h a o) (k : ∀ b u,(b=a\/H b=some (.own a))->h.get? b=some u->h'.get? b=some u)
  (ho : ∀ b,H b=some (.own a)->H' b=some (.own a)) (ht : ∀ b xs,H b=some (.tup xs)->H' b=some (.tup xs)):zD7 P w H' h' a o:=by
 induction o with
 | lst xs=>obtain ⟨z,its,n,r,e⟩:=x;exact ⟨z,its,n,r,k _ _ (.inl rfl) e⟩
 | tup xs=>obtain ⟨z,its,r,ob,e,c⟩:=x;exact ⟨z,its,r,ob,k _ _ (.inl rfl) e,c⟩
 | dK kvs=>obtain ⟨z,y,vs,r,ob,es,ep,e,c⟩:=x;exact ⟨z,y,vs,r,ob,es,ep,k _ _ (.inl rfl) e,c⟩
 | dT kvs =>
  obtain ⟨z,y,xs,r,ob,es,ep,e,c⟩:=x
  exact ⟨z,y,xs,Paired.mapP r fun p q z=>⟨z.1,ht _ _ z.2.1,z.2.2⟩,ob,es,ep,k _ _ (.inl rfl) e,c⟩
 | set S n=>obtain ⟨ob,es,ep,t,e,c⟩:=x;exact ⟨ob,es,ep,t,k _ _ (.inl rfl) e,c⟩
 | ins C dx fs =>
  obtain ⟨d,z,ne,e,mA,⟨od,es,ep,e2,c⟩,r⟩:=x
  exact ⟨ho _ d,z,ne,k _ _ (.inl rfl) e,mA,⟨od,es,ep,k _ _ (.inr d) e2,c⟩,r⟩
 | own y=>obtain ⟨ob,e⟩:=x;exact ⟨ob,k _ _ (.inl rfl) e⟩
 | xd fs=>obtain ⟨mA,⟨od,es,ep,e,c⟩,r⟩:=x;exact ⟨mA,⟨od,es,ep,k _ _ (.inl rfl) e,c⟩,r⟩
 | rng lo hi=>obtain ⟨t,u,v,e⟩:=x;exact ⟨t,u,v,k _ _ (.inl rfl) e⟩
 | frz ob u ih=>obtain ⟨e,q⟩:=x;exact ⟨k _ _ (.inl rfl) e,ih q⟩
 | tbl ps =>
  have e:h.get? a=some { cls:=.none,data:=.fields ps }:=x
  show h'.get? a=some { cls:=.none,data:=.fields ps }
  exact k a _ (.inl rfl) e
 | met f y =>
  have e:h.get? a=some (W.methodObj (.ref f) (.ref y)):=x
  show h'.get? a=some (W.methodObj (.ref f) (.ref y))
  exact k a _ (.inl rfl) e
 | ext φ=>obtain ⟨p,⟨o,e⟩,st⟩:=x;exact ⟨st _ _ p fun o q=>k _ _ (.inl rfl) q,⟨o,k _ _ (.inl rfl) e⟩,st⟩
theorem HOk.lt (x:HOk P w H h) (e:H a=some o):a < h.objs.size:=(x a o e).lt
theorem HOk.fresh (x:HOk P w H h) (e:h.objs.size<=a):H a=none:=by
 cases q:H a with
 | none=>rfl
 | some u=>exact absurd (lt_of_lt_of_le (x.lt q) e) (lt_irrefl _)
theorem HOk.kept (x:HOk P w H h) (k : ∀ b u,h.get? b=some u->h'.get? b=some u):HOk P w H h':=fun a o e =>
 (x a o e).stay (fun b u _ q=>k b u q) (fun _ q=>q) fun _ _ q=>q
theorem HOk.laid (x:HOk P w H h) (k : ∀ b u,h.get? b=some u->h'.get? b=some u) (hp:h.objs.size<=a) (new:zD7 P w (upd H a o) h' a o):HOk P w (upd H a o) h':=fun b u e=>by
 have hn:=x.fresh hp
 by_cases hb:b=a
 ·subst hb;rw [zAU] at e;cases e;exact new
 ·rw [zBY hb] at e
  exact (x b u e).stay (fun c v _ q=>k c v q) (fun c q=>by rw [zBY (zB8 q hn)];exact q) fun c xs q=>by rw [zBY (zB8 q hn)];exact q
end
def Rd (H:Hp) (a:Addr) (u:HO):Prop:=H a=some u \/ ∃ o,H a=some (.frz o u)
theorem Rd.of (h:H a=some u):Rd H a u:=.inl h
variable {P:Program} {w:World} {h:Heap}
theorem Rd.ok (r:Rd H a u) (x:HOk P w H h):zD7 P w H h a u:=by
 rcases r with r | ⟨o,r⟩
 ·exact x a u r
 ·obtain ⟨_,q⟩:=x a _ r
  exact q
def Mut:Option HO->Prop
 | some (.lst _)=>True
 | some (.dK _)=>True
 | some (.dT _)=>True
 | some (.set _ _)=>True
 | some (.ins _ _ _)=>True
 | some (.ext _)=>True
 | _=>False
section
variable {P : Program} {w : World} {H : Hp} {h h' : Heap} {x e : Addr} {o' : HO}
theorem HOk.write (ok:HOk P w H h) (mu:Mut (H x)) (he:e=x\/H e=some (.own x)) (k : ∀ b u,b≠e->h.get? b=some u->h'.get? b=some u) (heo : ∃ u,h'.get? e=some u)
  (new:zD7 P w (upd H x o') h' x o'):HOk P w (upd H x o') h':=fun b u q=>by
 have nown : ∀ c y,H c=some (.own y)->c≠x:=fun c y r z=>by subst z;rw [r] at mu;exact mu
 have ntup : ∀ c xs,H c=some (.tup xs)->c≠x:=fun c xs r z=>by subst z;rw [r] at mu;exact mu
 by_cases hb:b=x
 ·subst hb;rw [zAU] at q;cases q;exact new
 ·rw [zBY hb] at q
  by_cases hbe:b=e
  ·have q':H b=some (.own x):=by
    rcases he with z | z
    ·exact absurd (hbe.trans z) hb
    ·rw [hbe];exact z
   rw [q] at q';cases q'
   obtain ⟨v,hv⟩:=heo
   exact ⟨v,by rw [hbe];exact hv⟩
  ·refine (ok b u q).stay (fun c v hc r=>k c v ?_ r) (fun c r=>by rw [zBY (nown c b r)];exact r) fun c xs r=>by rw [zBY (ntup c xs r)];exact r
   rcases hc with rfl | hc
   ·exact hbe
   ·rintro rfl
    rcases he with z | z
    ·exact nown c b hc z
    ·rw [hc] at z;cases z;exact hb rfl
end
structure Un (fs ex:List Addr) (H H':Hp) (h h':Heap):Prop where
 keep : ∀ b o,h.get? b=some o->H b=none->b ∉ fs->b ∉ ex->h'.get? b=some o
 slot : ∀ b o,h.get? b=some o->H b=none->b ∈ fs->b ∉ ex -> ∃ sl,h'.get? b=some { o with slots:=sl }
 free : ∀ b o,h.get? b=some o->H b=none->b ∉ ex->H' b=none
 there : ∀ b o,h.get? b=some o->b ∉ ex -> ∃ o',h'.get? b=some o'
 tups : ∀ b xs,H b=some (.tup xs)->H' b=some (.tup xs)
 frzs : ∀ b o u,H b=some (.frz o u)->H' b=some (.frz o u)
 tbls : ∀ b ps,H b=some (.tbl ps) -> ∃ more,H' b=some (.tbl (ps++more))
section
variable {fs fs' ex ex' : List Addr} {H H1 H2 : Hp} {h h1 h2 h' : Heap} {a x e : Addr} {o : HO}
theorem Un.any (u:Un fs ex H H1 h h1) {ob:Obj} (q:h.get? b=some ob) (n:H b=none) (hx:b ∉ ex) : ∃ sl,h1.get? b=some { ob with slots:=sl }:=by
 by_cases hb:b ∈ fs
 ·exact u.slot b ob q n hb hx
 ·exact ⟨ob.slots,u.keep b ob q n hb hx⟩
theorem Un.trans (a:Un fs ex H H1 h h1) (b:Un fs ex H1 H2 h1 h2):Un fs ex H H2 h h2 where
 keep:=fun c ob q n hc hx=>b.keep c ob (a.keep c ob q n hc hx) (a.free c ob q n hx) hc hx
 slot:=fun c ob q n hc hx=>by
  obtain ⟨sl,e1⟩:=a.slot c ob q n hc hx
  obtain ⟨sl',e2⟩:=b.slot c _ e1 (a.free c ob q n hx) hc hx
  exact ⟨sl',e2⟩
 free:=fun c ob q n hx=>by
  obtain ⟨o',e1⟩:=a.there c ob q hx
  exact b.free c o' e1 (a.free c ob q n hx) hx
 there:=fun c ob q hx=>by
  obtain ⟨o',e1⟩:=a.there c ob q hx
  exact b.there c o' e1 hx
 tups:=fun c xs q=>b.tups c xs (a.tups c xs q)
 frzs:=fun c ob xs q=>b.frzs c ob xs (a.frzs c ob xs q)
 tbls:=fun c ps q=>by
  obtain ⟨m1,e1⟩:=a.tbls c ps q
  obtain ⟨m2,e2⟩:=b.tbls c _ e1
  exact ⟨m1++m2,by rw [e2,Array.append_assoc]⟩
theorem Un.kept (k : ∀ b u,h.get? b=some u->h'.get? b=some u):Un fs ex H H h h':=
 ⟨fun b ob q _ _ _=>k b ob q,fun b ob q _ _ _=>⟨ob.slots,k b ob q⟩,fun _ _ _ n _=>n,fun b ob q _=>⟨ob,k b ob q⟩,fun _ _ q=>q,fun _ _ _ q=>q,fun _ ps q=>⟨#[],by rw [q];simp⟩⟩
theorem Un.refl:Un fs ex H H h h:=Un.kept fun _ _ q=>q
theorem Un.laid (k : ∀ b u,h.get? b=some u->h'.get? b=some u) (hp:h.objs.size<=a) (hn:H a=none):Un fs ex H (upd H a o) h h' where
 keep:=fun b u q _ _ _=>k b u q
 slot:=fun b u q _ _ _=>⟨u.slots,k b u q⟩
 free:=fun b u q n _=>by rw [zBY (ne_of_lt (lt_of_lt_of_le (Heap.lt_size q) hp))];exact n
 there:=fun b u q _=>⟨u,k b u q⟩
 tups:=fun b xs q=>by rw [zBY (zB8 q hn)];exact q
 frzs:=fun b u xs q=>by rw [zBY (zB8 q hn)];exact q
 tbls:=fun b ps q=>⟨#[],by rw [zBY (zB8 q hn),q];simp⟩
theorem Un.write (mu:Mut (H x)) (he:e=x\/H e=some (.own x)) (k : ∀ b u,b≠e->h.get? b=some u->h'.get? b=some u) (heo : ∃ u,h'.get? e=some u):Un fs ex H (upd H x o) h h':=by
 have hx : ∀ b,H b=none->b≠x:=fun b n z=>by subst z;rw [n] at mu;exact mu
 have hb : ∀ b,H b=none->b≠e:=fun b n z=>by
  subst z
  rcases he with r | r
  ·exact hx b n r
  ·rw [n] at r;cases r
 have hm : ∀ b u,H b=some u -> ¬ Mut (some u)->b≠x:=fun b u q nm z=>by subst z;rw [q] at mu;exact nm mu
 refine ⟨fun b u q n _ _=>k b u (hb b n) q,fun b u q n _ _=>⟨u.slots,k b u (hb b n) q⟩,fun b u q n _=>by rw [zBY (hx b n)];exact n,fun b u q _=>?_,
  fun b xs q=>by rw [zBY (hm b _ q fun z=>z)];exact q,fun b u xs q=>by rw [zBY (hm b _ q fun z=>z)];exact q,fun b ps q=>⟨#[],by rw [zBY (hm b _ q fun z=>z),q];simp⟩⟩
 by_cases hbe:b=e
 ·subst hbe;exact heo
 ·exact ⟨u,k b u hbe q⟩
theorem Un.mono (u:Un fs ex H H1 h h1) (hs : ∀ b ∈ fs,b ∈ fs') (hx : ∀ b ∈ ex,b ∈ ex'):Un fs' ex' H H1 h h1:=
 ⟨fun b ob q n hb he=>u.keep b ob q n (fun z=>hb (hs b z)) fun z=>he (hx b z),fun _ _ q n _ he=>u.any q n fun z=>he (hx _ z),fun b ob q n he=>u.free b ob q n fun z=>he (hx b z),fun b ob q he=>u.there b ob q fun z=>he (hx b z),u.tups,u.frzs,u.tbls⟩
end
def trk (h:Heap) (H:Hp):List Addr:=(List.range h.objs.size).filter fun a=>(H a).isSome
def hidT (h:Heap) (H:Hp):Heap:=W.hideAll h (trk h H)
theorem zQl (h:Heap) (H:Hp):(hidT h H).objs.size=h.objs.size:=W.hideAll_size _ _
theorem zRc {o:Obj} (e:h.get? b=some o) (n:H b=none):(hidT h H).get? b=some o:=
 W.hideAll_get _ e fun hm=>by
  have q:(H b).isSome=true:=(List.mem_filter.mp hm).2
  rw [n] at q;simp at q
theorem zU1 {o:Obj} (e:(hidT h H).get? b=some o):h.get? b=some o/\H b=none:=by
 have e':h.get? b=some o:=W.of_hideAll (trk h H) e
 refine ⟨e',?_⟩
 cases q:H b with
 | none=>rfl
 | some x =>
  have hm:b ∈ trk h H:=List.mem_filter.mpr ⟨List.mem_range.mpr (Heap.lt_size e'),by simp [q]⟩
  have z:(hidT h H).get? b=none:=W.hideAll_none (trk h H) hm
  rw [z] at e;cases e
def zVN (g h:Heap) (L:Addr):List (Addr × Obj):=(List.range h.objs.size).filterMap fun a=>if a=L\/(g.get? a).isSome=true then none else (h.get? a).map fun o=>(a,o)
def rest (g h:Heap) (L d:Addr):List (Addr × Obj):=(zVN g h L).filter fun p=>decide (p.1≠d)
structure Mod (K:W.Frag) (mg:Str->Option Value) (base:Heap):Prop where
 kin:K.In base
 glob:base.Ns mainGlobals mg
 blt : ∃ mb,base.Ns builtinsNs mb /\ ∀ x:Str,x ≠ "__name__" -> mb x=bootBuiltins x
 nolimit:base.NoLimit
structure Cx where
 prog:Program
 w:World
 K:W.Frag
 mg:Str->Option Value
 base:Heap
 A:Around
 N:List Str
 s₀:Shared
 H₀:Hp
 env:Env
 outer:List Env
 stack:List Env
 ex:List Addr
 fn:Str->Bool
 calm:Bool
 pn:List (Addr × Obj)
 xe:Value->Shared->Prop
def frs (l:List Env):List Addr:=l.filterMap (·.frame)
abbrev Cx.fs (X:Cx):List Addr:=frs X.outer
def Vis (sc:Scope) (x:Str):Prop:=sc.names.lookup x=some .local\/sc.names.lookup x=some .cell\/sc.names.lookup x=some .free
def Loc (sc:Scope) (x:Str):Prop:=sc.names.lookup x=some .local\/sc.names.lookup x=some .cell
def Look (env:Env) (h:Heap) (m:Str->Option Value) (x:Str) (u:Value):Prop:=
 (env.kindOf x=some .local/\m x=some u)\/((env.kindOf x=some .cell\/env.kindOf x=some .free) /\ ∃ c,env.cells.lookup x=some c/\h.IsCell c (some u))
structure Cx.Ok (X:Cx):Prop where
 mod:Mod X.K X.mg X.base
 kind:X.env.scope.kind = .function
 glob:X.env.globals=mainGlobals
 blt:X.env.builtins=builtinsNs
 above:X.s₀.heap.objs.size<=X.env.locals
 inj : ∀ x y c,X.env.cells.lookup x=some c->X.env.cells.lookup y=some c->x=y
 has : ∀ x,(X.env.kindOf x=some .cell\/X.env.kindOf x=some .free) -> ∃ c,X.env.cells.lookup x=some c
 cab : ∀ x c,X.fn x=true->X.env.cells.lookup x=some c->X.s₀.heap.objs.size<=c
 hd:X.calm=true->X.A.handled=none
 frames:X.A.frames=some X.stack
 stk:X.stack=X.outer\/(X.stack=X.env::X.outer/\X.env.frame=some X.env.locals)
 exf : ∀ b ∈ X.ex,b≠X.env.locals /\ ∀ x c,X.env.cells.lookup x=some c->c≠b
 bs : ∀ b o,X.base.get? b=some o->X.s₀.heap.get? b=some o/\X.H₀ b=none
 bsz:X.base.objs.size<=X.s₀.heap.objs.size
 noex : ∀ b o,X.base.get? b=some o->b ∉ X.ex
 exfs : ∀ b ∈ X.ex,b ∉ X.fs
 funs:X.s₀.heap.FunFrames X.base X.outer
 frf : ∀ b ∈ X.fs,X.H₀ b=none
structure Inv (X:Cx) (pins:List (Addr × Obj)) (σ:List (Option V)) (H:Hp) (s:Shared):Prop where
 ok:X.Ok
 os:s.os=X.s₀.os
 bare:AllBare s.gens
 base:Un X.fs X.ex X.H₀ H X.s₀.heap s.heap
 loc : ∃ m,s.heap.Ns X.env.locals m /\ ∀ (i:Nat) (x:Str) (v:V),X.N[i]? = some x->σ[i]? = some (some v)->Vis X.env.scope x -> ∃ u,RelV v u/\Look X.env s.heap m x u
 cell : ∀ x c,X.env.cells.lookup x=some c -> ∃ v,s.heap.IsCell c v
 free:H X.env.locals=none
 freeC : ∀ x c,X.env.cells.lookup x=some c->H c=none
 pin : ∀ p ∈ X.pn++pins,s.heap.get? p.1=some p.2/\H p.1=none/\p.1≠X.env.locals/\p.1 ∉ X.fs /\ ∀ v,p.2.data ≠ .cell v
 hok:HOk X.prog X.w H s.heap
 len:σ.length=X.N.length
section
variable {X : Cx} {pins : List (Addr × Obj)} {σ : List (Option V)} {H H' : Hp} {s : Shared} {h' : Heap}
theorem Cx.Ok.nofr (ok:X.Ok) {o:Obj} (e:X.base.get? b=some o):b ∉ X.fs:=fun hb=>by
 have:=(ok.funs.mem hb).1
 rw [e] at this;cases this
theorem Inv.bs (I:Inv X pins σ H s) : ∀ b o,X.base.get? b=some o->s.heap.get? b=some o/\H b=none:=fun b o e =>
 ⟨I.base.keep b o (I.ok.bs b o e).1 (I.ok.bs b o e).2 (I.ok.nofr e) (I.ok.noex b o e),I.base.free b o (I.ok.bs b o e).1 (I.ok.bs b o e).2 (I.ok.noex b o e)⟩
theorem Inv.bk (I:Inv X pins σ H s) : ∀ b o,X.base.get? b=some o->s.heap.get? b=some o:=fun b o e=>(I.bs b o e).1
theorem Inv.mod (I:Inv X pins σ H s):Mod X.K X.mg X.base:=I.ok.mod
theorem Inv.kIn (I:Inv X pins σ H s):X.K.In s.heap:=I.ok.mod.kin.keeps I.bk
theorem Inv.nolimit (I:Inv X pins σ H s):s.heap.NoLimit:=I.ok.mod.nolimit.keeps I.bk
theorem Inv.fr (I:Inv X pins σ H s) : ∃ m,Fr X.base X.env.locals s.heap m:=
 let ⟨m,hn,_⟩:=I.loc
 ⟨m,hn,I.bk,le_trans I.ok.bsz I.ok.above⟩
theorem Inv.lt (I:Inv X pins σ H s):X.env.locals < s.heap.objs.size:=let ⟨_,hn,_⟩:=I.loc;hn.lt
theorem Inv.sz (I:Inv X pins σ H s):X.s₀.heap.objs.size<=s.heap.objs.size:=le_trans I.ok.above (Nat.le_of_lt I.lt)
theorem Inv.nofs (I:Inv X pins σ H s) (h:s.heap.objs.size<=a):a ∉ X.fs:=fun hb=>by
 obtain ⟨_,o,ho,_⟩:=I.ok.funs.mem hb
 exact absurd (lt_of_lt_of_le (Heap.lt_size ho) (le_trans I.sz h)) (lt_irrefl _)
theorem Inv.cne (I:Inv X pins σ H s) : ∀ x c,X.env.cells.lookup x=some c->c≠X.env.locals:=fun x c e z=>by
 obtain ⟨v,o,ho,hd⟩:=I.cell x c e
 obtain ⟨m,⟨o',es,ep,ho',hd',_⟩,_⟩:=I.loc
 rw [z,ho'] at ho;cases ho;rw [hd'] at hd;cases hd
theorem Inv.funs (I:Inv X pins σ H s):s.heap.FunFrames X.base X.outer:=by
 have all : ∀ (l:List Env),(∀ b ∈ frs l,b ∈ X.fs)->X.s₀.heap.FunFrames X.base l->s.heap.FunFrames X.base l:=by
  intro l
  induction l with
  | nil=>intro _ _;trivial
  | cons env r ih =>
   intro hs hl
   obtain ⟨hk,⟨L,o,hf,hn,ho,hd⟩,hr⟩:=hl
   have hL:L ∈ X.fs:=hs L (by unfold frs;rw [List.filterMap_cons,hf];exact List.mem_cons_self)
   obtain ⟨sl,e⟩:=I.base.slot L o ho (I.ok.frf L hL) hL fun z=>I.ok.exfs L z hL
   exact ⟨hk,⟨L,_,hf,hn,e,hd⟩,ih (fun b hb=>hs b (by unfold frs;rw [List.filterMap_cons,hf];exact mem_cons_of_mem _ hb)) hr⟩
 exact all X.outer (fun _ hb=>hb) I.ok.funs
theorem Inv.stack (I:Inv X pins σ H s):s.heap.FunFrames X.base X.stack:=by
 rcases I.ok.stk with e | ⟨e,hf⟩
 ·rw [e];exact I.funs
 ·rw [e]
  obtain ⟨m,hn,_⟩:=I.loc
  refine .cons (by rw [I.ok.kind];decide) hf hn ?_ I.funs
  exact Heap.get?_none_of_le (le_trans I.ok.bsz I.ok.above)
theorem Inv.stkSub (I:Inv X pins σ H s) : ∀ b ∈ frs X.stack,b ∈ X.env.locals::X.fs:=fun b hb=>by
 rcases I.ok.stk with e | ⟨e,hf⟩
 ·rw [e] at hb;exact mem_cons_of_mem _ hb
 ·rw [e] at hb
  unfold frs at hb
  rw [List.filterMap_cons,hf] at hb
  exact hb
theorem Inv.stkFree (I:Inv X pins σ H s) : ∀ b ∈ frs X.stack,H b=none:=fun b hb=>by
 rcases List.mem_cons.mp (I.stkSub b hb) with e | hb
 ·rw [e];exact I.free
 ·obtain ⟨_,o,ho,_⟩:=I.ok.funs.mem hb
  exact I.base.free b o ho (I.ok.frf b hb) fun z=>I.ok.exfs b z hb
variable {t':Nat} {ch:List Addr}
theorem Inv.step {g':Array GenState} {d':Drawn} (I:Inv X pins σ H s)
  (hch : ∀ b ∈ ch,(b ∈ X.ex\/X.s₀.heap.objs.size<=b)/\b≠X.env.locals/\(∀ x c,X.env.cells.lookup x=some c->c≠b) /\ ∀ p ∈ X.pn++pins,p.1≠b)
  (keep : ∀ b o,b≠X.env.locals->b ∉ X.fs->b ∉ ch->s.heap.get? b=some o->H b=none->h'.get? b=some o)
  (slot : ∀ b o,b≠X.env.locals->b ∈ X.fs->b ∉ ch->s.heap.get? b=some o->H b=none -> ∃ sl,h'.get? b=some { o with slots:=sl }) (free : ∀ b o,b ∉ ch->s.heap.get? b=some o->H b=none->H' b=none)
  (there : ∀ b o,b ∉ ch->s.heap.get? b=some o -> ∃ o',h'.get? b=some o')
  (tups : ∀ b xs,H b=some (.tup xs)->H' b=some (.tup xs)) (frzs : ∀ b o u,H b=some (.frz o u)->H' b=some (.frz o u)) (tbls : ∀ b ps,H b=some (.tbl ps) -> ∃ more,H' b=some (.tbl (ps++more)))
  (ns : ∀ m,s.heap.Ns X.env.locals m->h'.Ns X.env.locals m) (hok:HOk X.prog X.w H' h') (hg:AllBare g') :
  Inv X pins σ H' { s with heap:=h',gens:=g',drawn:=d',toks:=t' }:=by
 have neL : ∀ b o,X.s₀.heap.get? b=some o->b≠X.env.locals:=fun b o e=>ne_of_lt (lt_of_lt_of_le (Heap.lt_size e) I.ok.above)
 have neC : ∀ b o,X.s₀.heap.get? b=some o->b ∉ X.ex->b ∉ ch:=fun b o e hx hb=>by
  rcases (hch b hb).1 with z | z
  ·exact hx z
  ·exact absurd (lt_of_lt_of_le (Heap.lt_size e) z) (lt_irrefl _)
 have cellK : ∀ x c,X.env.cells.lookup x=some c -> ∀ v,s.heap.IsCell c v->h'.IsCell c v:=fun x c e v ⟨o,ho,hd⟩=>by
  have nch:c ∉ ch:=fun z=>(hch c z).2.2.1 x c e rfl
  by_cases hc:c ∈ X.fs
  ·obtain ⟨sl,q⟩:=slot c o (I.cne x c e) hc nch ho (I.freeC x c e)
   exact ⟨_,q,hd⟩
  ·exact ⟨o,keep c o (I.cne x c e) hc nch ho (I.freeC x c e),hd⟩
 refine ⟨I.ok,I.os,hg,⟨fun b o e n hb hx=>?_,fun b o e n hb hx=>?_,fun b o e n hx=>?_,fun b o e hx=>?_,fun b xs e=>tups b xs (I.base.tups b xs e),fun b o xs e=>frzs b o xs (I.base.frzs b o xs e),fun b ps e=>?_⟩,?_,fun x c e=>?_,?_,fun x c e=>?_,fun p hp=>?_,hok,I.len⟩
 ·exact keep b o (neL b o e) hb (neC b o e hx) (I.base.keep b o e n hb hx) (I.base.free b o e n hx)
 ·obtain ⟨sl,e1⟩:=I.base.slot b o e n hb hx
  obtain ⟨sl',e2⟩:=slot b _ (neL b o e) hb (neC b o e hx) e1 (I.base.free b o e n hx)
  exact ⟨sl',e2⟩
 ·obtain ⟨o',e1⟩:=I.base.there b o e hx
  exact free b o' (neC b o e hx) e1 (I.base.free b o e n hx)
 ·obtain ⟨o',e1⟩:=I.base.there b o e hx
  exact there b o' (neC b o e hx) e1
 ·obtain ⟨m1,e1⟩:=I.base.tbls b ps e
  obtain ⟨m2,e2⟩:=tbls b _ e1
  exact ⟨m1++m2,by rw [e2,Array.append_assoc]⟩
 ·obtain ⟨m,hn,hl⟩:=I.loc
  refine ⟨m,ns m hn,fun i x v e1 e2 e3=>?_⟩
  obtain ⟨u,r,l⟩:=hl i x v e1 e2 e3
  refine ⟨u,r,?_⟩
  rcases l with l | ⟨k,c,e,z⟩
  ·exact .inl l
  ·exact .inr ⟨k,c,e,cellK x c e _ z⟩
 ·obtain ⟨v,z⟩:=I.cell x c e
  exact ⟨v,cellK x c e v z⟩
 ·obtain ⟨m,⟨o,_,_,ho,_⟩,_⟩:=I.loc
  exact free _ o (fun z=>(hch _ z).2.1 rfl) ho I.free
 ·obtain ⟨v,o,ho,hd⟩:=I.cell x c e
  exact free c o (fun z=>(hch c z).2.2.1 x c e rfl) ho (I.freeC x c e)
 ·obtain ⟨e,n,ne,nf,d⟩:=I.pin p hp
  have nch:p.1 ∉ ch:=fun z=>(hch p.1 z).2.2.2 p hp rfl
  exact ⟨keep p.1 p.2 ne nf nch e n,free p.1 p.2 nch e n,ne,nf,d⟩
theorem Inv.un (I:Inv X pins σ H s) (u:Un X.fs [] H H' s.heap h') (hok:HOk X.prog X.w H' h'):Inv X pins σ H' { s with heap:=h',toks:=t' }:=by
 obtain ⟨m,⟨o,es,ep,ho,r⟩,_⟩:=id I.loc
 obtain ⟨sl,hL⟩:=u.any ho I.free (by simp)
 exact I.step (g':=s.gens) (d':=s.drawn) (ch:=[]) (fun _ z=>nomatch z) (fun b o _ hb _ e n=>u.keep b o e n hb (by simp)) (fun b o _ hb _ e n=>u.slot b o e n hb (by simp)) (fun b o _ e n=>u.free b o e n (by simp)) (fun b o _ e=>u.there b o e (by simp)) u.tups u.frzs u.tbls (fun m' hm=>by
  obtain ⟨o',es',ep',ho',r'⟩:=hm
  rw [ho] at ho';cases ho'
  exact ⟨_,es',ep',hL,r'⟩) hok I.bare
theorem Inv.call {g':Array GenState} {d':Drawn} (I:Inv X pins σ H s) (u:Un (frs X.stack) ch H H' s.heap h') (hok:HOk X.prog X.w H' h') (hg:AllBare g')
  (hch : ∀ b ∈ ch,(b ∈ X.ex\/X.s₀.heap.objs.size<=b)/\b≠X.env.locals/\(∀ x c,X.env.cells.lookup x=some c->c≠b) /\ ∀ p ∈ X.pn++pins,p.1≠b) :
  Inv X pins σ H' { s with heap:=h',gens:=g',drawn:=d',toks:=t' }:=by
 obtain ⟨m,⟨o,es,ep,ho,r⟩,_⟩:=id I.loc
 obtain ⟨sl,hL⟩:=u.any ho I.free fun z=>(hch _ z).2.1 rfl
 exact I.step (ch:=ch) hch (fun b o hL hb hc e n=>u.keep b o e n (fun z=>(List.mem_cons.mp (I.stkSub b z)).elim hL hb) hc) (fun b o _ _ hc e n=>u.any e n hc) (fun b o hc e n=>u.free b o e n hc) (fun b o hc e=>u.there b o e hc) u.tups u.frzs u.tbls (fun m' hm=>by
  obtain ⟨o',es',ep',ho',r'⟩:=hm
  rw [ho] at ho';cases ho'
  exact ⟨_,es',ep',hL,r'⟩) hok hg
theorem Inv.turned {it:Addr} (I:Inv X pins σ H s) (k : ∀ b o,b≠it->s.heap.get? b=some o->h'.get? b=some o) (hn:H it=none) (hL:it≠X.env.locals)
  (h1:it ∈ X.ex\/X.s₀.heap.objs.size<=it) (h2 : ∀ x c,X.env.cells.lookup x=some c->c≠it) (h3 : ∀ p ∈ X.pn++pins,p.1≠it):Inv X pins σ H { s with heap:=h',toks:=t' }:=by
 have nit : ∀ b u,H b=some u->b≠it:=fun b u e z=>by rw [z,hn] at e;cases e
 refine I.step (g':=s.gens) (d':=s.drawn) (ch:=[it]) (fun b hb=>?_) (fun b o _ _ hc e _=>k b o (fun z=>hc (by simp [z])) e) (fun b o _ _ hc e _=>⟨o.slots,k b o (fun z=>hc (by simp [z])) e⟩) (fun _ _ _ _ n=>n)
  (fun b o hc e=>⟨o,k b o (fun z=>hc (by simp [z])) e⟩) (fun _ _ e=>e) (fun _ _ _ e=>e) (fun b ps e=>⟨#[],by rw [e];simp⟩) (fun m hm=>?_) (fun b u e=>?_) I.bare
 ·have e:b=it:=by simpa using hb
  subst e
  exact ⟨h1,hL,h2,h3⟩
 ·obtain ⟨o,es,ep,ho,r⟩:=hm
  exact ⟨o,es,ep,k _ o (Ne.symm hL) ho,r⟩
 ·refine (I.hok b u e).stay (fun c v hc q=>k c v ?_ q) (fun _ q=>q) fun _ _ q=>q
  rcases hc with z | z
  ·rw [z];exact nit b u e
  ·exact nit c _ z
theorem Inv.tok (I:Inv X pins σ H s) (t:Nat):Inv X pins σ H { s with toks:=t }:=I.un (h':=s.heap) (t':=t) Un.refl I.hok
theorem Inv.kept (I:Inv X pins σ H s) (k : ∀ b u,s.heap.get? b=some u->h'.get? b=some u):Inv X pins σ H { s with heap:=h',toks:=t' }:=I.un (Un.kept k) (I.hok.kept k)
theorem Inv.laid (I:Inv X pins σ H s) (k : ∀ b u,s.heap.get? b=some u->h'.get? b=some u) (hp:s.heap.objs.size<=a) (new:zD7 X.prog X.w (upd H a o) h' a o) :
  Inv X pins σ (upd H a o) { s with heap:=h',toks:=t' }:=I.un (Un.laid k hp (I.hok.fresh hp)) (I.hok.laid k hp new)
theorem Inv.write {x e:Addr} (I:Inv X pins σ H s) (mu:Mut (H x)) (he:e=x\/H e=some (.own x)) (k : ∀ b u,b≠e->s.heap.get? b=some u->h'.get? b=some u) (heo : ∃ u,h'.get? e=some u)
  (new:zD7 X.prog X.w (upd H x o) h' x o):Inv X pins σ (upd H x o) { s with heap:=h',toks:=t' }:=I.un (Un.write mu he k heo) (I.hok.write mu he k heo new)
theorem Inv.weak {σ':List (Option V)} (I:Inv X pins σ H s) (hl:σ'.length=σ.length) (w : ∀ (i:Nat) v,σ'[i]? = some (some v)->σ[i]? = some (some v)):Inv X pins σ' H s:=
 ⟨I.ok,I.os,I.bare,I.base,let ⟨m,hn,hl'⟩:=I.loc;⟨m,hn,fun i x v e1 e2 e3=>hl' i x v e1 (w i v e2) e3⟩,I.cell,I.free,I.freeC,I.pin,I.hok,hl.trans I.len⟩
theorem Inv.pins_of {pins':List (Addr × Obj)} (I:Inv X pins σ H s) (h : ∀ p ∈ pins',s.heap.get? p.1=some p.2/\H p.1=none/\p.1≠X.env.locals/\p.1 ∉ X.fs /\ ∀ v,p.2.data ≠ .cell v):Inv X pins' σ H s:=
 ⟨I.ok,I.os,I.bare,I.base,I.loc,I.cell,I.free,I.freeC,fun p hp=>(List.mem_append.mp hp).elim (fun z=>I.pin p (List.mem_append_left _ z)) (h p),I.hok,I.len⟩
variable {i:Nat} {x:Str}
theorem zOT {N:List Str} (hN:N.Nodup) {j:Nat} (a:N[i]? = some x) (b:N[j]? = some x):i=j:=by
 obtain ⟨h1,e1⟩:=List.getElem?_eq_some_iff.mp a
 obtain ⟨h2,e2⟩:=List.getElem?_eq_some_iff.mp b
 exact (List.getElem_inj hN).mp (e1.trans e2.symm)
theorem zMN {M:Model} {A:Around} {E:Value->Shared->Prop} {v:V} {u:Value} {Q:Unit->Shared->Prop} (I:Inv X pins σ H s) (hN:X.N.Nodup) (hi:X.N[i]? = some x) (hx:Loc X.env.scope x) (r:RelV v u)
  (h : ∀ s',Inv X pins (σ.set i (some v)) H s'->(∃ a,Heap.SameBut a s.heap s'.heap/\(a=X.env.locals\/X.env.cells.lookup x=some a))->Q () s') (hf:X.fn x=true\/X.env.scope.names.lookup x=some .local:=by first | exact .inl rfl | exact .inr rfl | assumption):wpAny M A (storeName X.env x u) Q E s:=by
 obtain ⟨m,hn,hl⟩:=id I.loc
 have hcls:(X.env.scope.kind == .class || (X.env.scope.kind == .module && X.env.locals != X.env.globals))=false:=by rw [I.ok.kind];rfl
 have hiσ:i < σ.length:=by rw [I.len];exact (List.getElem?_eq_some_iff.mp hi).1
 have cne:=I.cne
 have tracked : ∀ {a:Addr} {h':Heap},(∃ o,s.heap.get? a=some o/\H a=none)->Heap.SameBut a s.heap h'->HOk X.prog X.w H h':=fun {a h'} ha hs b ob e=>by
  obtain ⟨_,_,hfree⟩:=ha
  refine (I.hok b ob e).stay (fun c w' hc q=>(hs.2 c ?_).trans q) (fun _ q=>q) fun _ _ q=>q
  rintro rfl
  rcases hc with rfl | hc
  ·rw [hfree] at e;cases e
  ·rw [hfree] at hc;cases hc
 rcases hx with hk | hk
 ·refine wpAny_storeName_local hk hn (fun h' hn' hs=>?_) hcls
  obtain ⟨oL,_,_,hoL,_⟩:=id hn
  refine h _ ⟨I.ok,I.os,I.bare,⟨fun b o e n hb hx=>?_,fun b o e n hb hx=>?_,I.base.free,fun b o e hx=>?_,I.base.tups,I.base.frzs,I.base.tbls⟩,⟨_,hn',fun j y v' e1 e2 e3=>?_⟩,fun y c e=>?_,I.free,I.freeC,fun p hp=>?_,tracked ⟨oL,hoL,I.free⟩ hs,by simpa using I.len⟩ ⟨_,hs,.inl rfl⟩
  ·exact (hs.2 b (ne_of_lt (lt_of_lt_of_le (Heap.lt_size e) I.ok.above))).trans (I.base.keep b o e n hb hx)
  ·obtain ⟨sl,e1⟩:=I.base.slot b o e n hb hx
   exact ⟨sl,(hs.2 b (ne_of_lt (lt_of_lt_of_le (Heap.lt_size e) I.ok.above))).trans e1⟩
  ·obtain ⟨o',e1⟩:=I.base.there b o e hx
   exact ⟨o',(hs.2 b (ne_of_lt (lt_of_lt_of_le (Heap.lt_size e) I.ok.above))).trans e1⟩
  ·by_cases hj:j=i
   ·subst hj
    rw [hi] at e1;cases e1
    rw [List.getElem?_set_self hiσ] at e2
    cases e2
    exact ⟨u,r,.inl ⟨hk,by simp⟩⟩
   ·rw [List.getElem?_set_ne (Ne.symm hj)] at e2
    obtain ⟨u',r',q⟩:=hl j y v' e1 e2 e3
    refine ⟨u',r',?_⟩
    rcases q with ⟨k,e⟩ | ⟨k,c,e,z⟩
    ·refine .inl ⟨k,?_⟩
     have:y≠x:=fun e=>hj (zOT hN e1 (e ▸ hi))
     simp [this,e]
    ·exact .inr ⟨k,c,e,z.sameBut hs (cne y c e)⟩
  ·obtain ⟨w',z⟩:=I.cell y c e
   exact ⟨w',z.sameBut hs (cne y c e)⟩
  ·obtain ⟨e,n,ne,nf,d⟩:=I.pin p hp
   exact ⟨(hs.2 p.1 ne).trans e,n,ne,nf,d⟩
 ·have hfn:X.fn x=true:=by
   rcases hf with z | z
   ·exact z
   ·rw [z] at hk;cases hk
  obtain ⟨c,hc⟩:=I.ok.has x (.inl hk)
  obtain ⟨w',z⟩:=I.cell x c hc
  refine wpAny_storeName_cell I.ok.kind hk hc z (fun h' hc' hs=>?_)
  obtain ⟨oc,hoc,hocd⟩:=id z
  refine h { s with heap:=h' } ⟨I.ok,I.os,I.bare,⟨fun b o e n hb hx=>?_,fun b o e n hb hx=>?_,I.base.free,fun b o e hx=>?_,I.base.tups,I.base.frzs,I.base.tbls⟩,⟨m,hn.sameBut hs (Ne.symm (cne x c hc)),fun j y v' e1 e2 e3=>?_⟩,fun y c' e=>?_,I.free,I.freeC,fun p hp=>?_,tracked ⟨oc,hoc,I.freeC x c hc⟩ hs,by simpa using I.len⟩ ⟨c,hs,.inr hc⟩
  ·exact (hs.2 b (ne_of_lt (lt_of_lt_of_le (Heap.lt_size e) (I.ok.cab x c hfn hc)))).trans (I.base.keep b o e n hb hx)
  ·obtain ⟨sl,e1⟩:=I.base.slot b o e n hb hx
   exact ⟨sl,(hs.2 b (ne_of_lt (lt_of_lt_of_le (Heap.lt_size e) (I.ok.cab x c hfn hc)))).trans e1⟩
  ·obtain ⟨o',e1⟩:=I.base.there b o e hx
   exact ⟨o',(hs.2 b (ne_of_lt (lt_of_lt_of_le (Heap.lt_size e) (I.ok.cab x c hfn hc)))).trans e1⟩
  ·by_cases hj:j=i
   ·subst hj
    rw [hi] at e1;cases e1
    rw [List.getElem?_set_self hiσ] at e2
    cases e2
    exact ⟨u,r,.inr ⟨.inl hk,c,hc,hc'⟩⟩
   ·rw [List.getElem?_set_ne (Ne.symm hj)] at e2
    obtain ⟨u',r',q⟩:=hl j y v' e1 e2 e3
    refine ⟨u',r',?_⟩
    rcases q with q | ⟨k,c',e,z'⟩
    ·exact .inl q
    ·refine .inr ⟨k,c',e,z'.sameBut hs ?_⟩
     rintro rfl
     exact hj (zOT hN e1 (I.ok.inj _ _ _ e hc ▸ hi))
  ·by_cases hcc:c'=c
   ·subst hcc;exact ⟨_,hc'⟩
   ·obtain ⟨w2,z2⟩:=I.cell y c' e
    exact ⟨w2,z2.sameBut hs hcc⟩
  ·obtain ⟨e,n,ne,nf,d⟩:=I.pin p hp
   refine ⟨(hs.2 p.1 ?_).trans e,n,ne,nf,d⟩
   intro q
   rw [q,hoc] at e
   have q':oc=p.2:=Option.some.inj e
   exact d w' (by rw [<- q'];exact hocd)
theorem zNv {M:Model} {A:Around} {E:Value->Shared->Prop} {v:V} {u:Value} {Q:Unit->Shared->Prop} (I:Inv X pins σ H s) (hN:X.N.Nodup) (hi:X.N[i]? = some x) (hx:Loc X.env.scope x) (r:RelV v u)
  (h : ∀ s',Inv X pins (σ.set i (some v)) H s'->Q () s') (hf:X.fn x=true\/X.env.scope.names.lookup x=some .local:=by first | exact .inl rfl | exact .inr rfl | assumption):wpAny M A (storeName X.env x u) Q E s:=
 zMN I hN hi hx r (fun s' I' _=>h s' I') hf
theorem Inv.call' {s':Shared} (I:Inv X pins σ H s) (ho:s'.os=s.os) (u:Un (frs X.stack) ch H H' s.heap s'.heap) (hok:HOk X.prog X.w H' s'.heap) (hg:AllBare s'.gens)
  (hch : ∀ b ∈ ch,(b ∈ X.ex\/X.s₀.heap.objs.size<=b)/\b≠X.env.locals/\(∀ x c,X.env.cells.lookup x=some c->c≠b) /\ ∀ p ∈ X.pn++pins,p.1≠b):Inv X pins σ H' s':=by
 obtain ⟨h',g',d',t',o'⟩:=s'
 have e:o'=s.os:=ho
 subst e
 exact I.call (g':=g') (t':=t') (d':=d') u hok hg hch
end
abbrev XK:=Value->Option Addr->Hp->Prop
abbrev St:=List (Option V)
abbrev VK:=V->Hp->Prop
abbrev TE:=St->Hp->VK->Prop
abbrev TT:=St->Hp->(Bool->Hp->Prop)->Prop
abbrev TA:=St->Hp->(List V->Hp->Prop)->Prop
structure Ends where
 nx:St->Hp->Prop
 rt:VK
 bk:St->Hp->Prop:=fun _ _=>False
 ct:St->Hp->Prop:=fun _ _=>False
abbrev TS:=Ends->St->Hp->Prop
def EP (X:Cx) (pins:List (Addr × Obj)) (σ:St) (Q:VK) (u:Value) (s':Shared):Prop:=∃ v H',Inv X pins σ H' s'/\RelV v u/\Q v H'
def TP (X:Cx) (pins:List (Addr × Obj)) (σ:St) (Q:Bool->Hp->Prop) (b:Bool) (s':Shared):Prop:=∃ H',Inv X pins σ H' s'/\Q b H'
def AP (X:Cx) (pins:List (Addr × Obj)) (σ:St) (Q:List V->Hp->Prop) (us:List Value) (s':Shared):Prop:=∃ vs H',Inv X pins σ H' s'/\Vals vs us/\Q vs H'
def SP (X:Cx) (pins:List (Addr × Obj)) (D:Ends) (f:Flow) (s':Shared):Prop:=
 match f with
 | .next=>∃ σ' H',Inv X pins σ' H' s'/\D.nx σ' H'
 | .brk=>∃ σ' H',Inv X pins σ' H' s'/\D.bk σ' H'
 | .cont=>∃ σ' H',Inv X pins σ' H' s'/\D.ct σ' H'
 | .ret u=>∃ v σ' H',Inv X pins σ' H' s'/\RelV v u/\D.rt v H'
def PE (X:Cx) (e:Expr) (t:TE):Prop:=
 ∀ (pins:List (Addr × Obj)) (s:Shared) (σ:St) (H:Hp) (Q:VK),Inv X pins σ H s->t σ H Q->wpAny (model X.prog X.w) X.A (eval e X.env) (EP X pins σ Q) X.xe s
def PT (X:Cx) (e:Expr) (t:TT):Prop:=
 ∀ (pins:List (Addr × Obj)) (s:Shared) (σ:St) (H:Hp) (Q:Bool->Hp->Prop),Inv X pins σ H s->t σ H Q->wpAny (model X.prog X.w) X.A (isTrue e X.env (eval e X.env)) (TP X pins σ Q) X.xe s
def PW (X:Cx) (e:Expr) (t:TT):Prop:=
 ∀ (whole:Sem Value) (pins:List (Addr × Obj)) (s:Shared) (σ:St) (H:Hp) (Q:Bool->Hp->Prop),Inv X pins σ H s->t σ H Q->wpAny (model X.prog X.w) X.A (isTrue e X.env whole) (TP X pins σ Q) X.xe s
variable {X:Cx} {e:Expr}
theorem PW.pt {t:TT} (h:PW X e t):PT X e t:=h _
def PA (X:Cx) (es:List Expr) (t:TA):Prop:=
 ∀ (pos:Pos) (pins:List (Addr × Obj)) (s:Shared) (σ:St) (H:Hp) (Q:List V->Hp->Prop),Inv X pins σ H s->t σ H Q->wpAny (model X.prog X.w) X.A (spliced (backTo pos (starEach es X.env))) (AP X pins σ Q) X.xe s
def PS (X:Cx) (st:Stmt) (t:TS):Prop:=
 ∀ (pins:List (Addr × Obj)) (s:Shared) (σ:St) (H:Hp) (D:Ends),Inv X pins σ H s->t D σ H->wpAny (model X.prog X.w) X.A (exec st X.env) (SP X pins D) X.xe s
def PSs (X:Cx) (st:List Stmt) (t:TS):Prop:=
 ∀ (pins:List (Addr × Obj)) (s:Shared) (σ:St) (H:Hp) (D:Ends),Inv X pins σ H s->t D σ H->wpAny (model X.prog X.w) X.A (execs st X.env) (SP X pins D) X.xe s
variable {A:Around} {E:Value->Shared->Prop} {s:Shared}
theorem thn {α:Type} {t:Sem α} {Q Q':α->Shared->Prop} {M:Model} (h:wpAny M A t Q E s) (hQ : ∀ a s,Q a s->Q' a s):wpAny M A t Q' E s:=wpAny_mono h hQ fun _ _ x=>x
section
variable {X : Cx}
variable {pins:List (Addr × Obj)} {σ:St}
theorem bin {a b:Expr} {ta tb:TE} (ha:PE X a ta) (hb:PE X b tb) {R:V->V->Hp->Prop} (I:Inv X pins σ H s) (h:ta σ H fun x H1=>tb σ H1 fun y H2=>R x y H2)
  {α:Type} {Q:α->Shared->Prop} {f:Value->Value->Sem α}
  (hf : ∀ v u s2 x y H2,Inv X pins σ H2 s2->RelV x v->RelV y u->R x y H2->wpAny (model X.prog X.w) X.A (f v u) Q X.xe s2) :
  wpAny (model X.prog X.w) X.A (eval a X.env) (fun v s₁=>wpAny (model X.prog X.w) X.A (eval b X.env) (fun u s₂=>wpAny (model X.prog X.w) X.A (f v u) Q X.xe s₂) X.xe s₁) X.xe s:=by
 refine thn (ha pins s σ H _ I h) fun v s1 ⟨x,H1,I1,r1,q1⟩=>?_
 refine thn (hb pins s1 σ H1 _ I1 q1) fun u s2 ⟨y,H2,I2,r2,q2⟩=>?_
 exact hf v u s2 x y H2 I2 r1 r2 q2
def tVar (i:Nat):TE:=fun σ H Q=>∃ v,σ[i]? = some (some v)/\Q v H
def tC (v:V):TE:=fun _ H Q=>Q v H
variable {x:Str} {pos:Pos}
theorem zVy {i:Nat} (hN:X.N[i]? = some x) (hv:Vis X.env.scope x) (hd:(x == ("__debug__" : Str))=false:=by decide) (hcd:(x == ("__classdict__" : Str))=false:=by decide):PE X (.Name x pos) (tVar i):=by
 intro pins s σ H Q I h
 obtain ⟨v,e,h⟩:=h
 obtain ⟨m,hn,hl⟩:=I.loc
 obtain ⟨u,r,l⟩:=hl i x v hN e hv
 have fin:EP X pins σ Q u s:=⟨v,H,I,r,h⟩
 rcases l with ⟨hk,hm⟩ | ⟨hk,c,hc,hcell⟩
 ·exact wpAny_Name (wpAny_loadName_local I.ok.kind hk hn hm fin) hd
 ·rcases hk with hk | hk
  ·exact wpAny_Name (wpAny_loadName_cell I.ok.kind hk hc hcell fin) hd
  ·exact wpAny_Name (wpAny_loadName_free I.ok.kind hk hc hcell fin hcd) hd
theorem zAG {i j pos}:PE X (.Constant (.int i) j pos) (tC (.int i)):=fun _ _ _ H _ I h=>wpAny_Constant_int ⟨.int i,H,I.tok _,⟨_,rfl⟩,h⟩
theorem zEz {b j pos}:PE X (.Constant (.bool b) j pos) (tC (.bl b)):=fun _ _ _ H _ I h=>Constant_bool ⟨.bl b,H,I,rfl,h⟩
theorem zN5 {j pos}:PE X (.Constant .none j pos) (tC .non):=fun _ _ _ H _ I h=>Constant_none ⟨.non,H,I,rfl,h⟩
theorem zA2 {x j pos}:PE X (.Constant (.str x) j pos) (tC (.str x)):=fun _ _ _ H _ I h=>Calls.Constant_str ⟨.str x,H,I.tok _,⟨_,rfl⟩,h⟩
def Gl (X:Cx) (x:Str):Prop:=X.env.kindOf x=some .globalImplicit
theorem zDH {u:Value} {Q:Value->Shared->Prop} (I:Inv X pins σ H s) (hg:Gl X x) (hm:X.mg x=some u) (h:Q u s)
  (hd:(x == ("__debug__" : Str))=false:=by decide):wpAny (model X.prog X.w) X.A (eval (.Name x pos) X.env) Q E s:=
 Calls.Name_function_global I.ok.kind hg (Calls.loadGlobal_global (by rw [I.ok.glob];exact I.mod.glob.keeps I.bk) hm h) hd
theorem zKv {u:Value} {Q:Value->Shared->Prop} (I:Inv X pins σ H s) (hg:Gl X x) (hm:X.mg x=none) (hv:bootBuiltins x=some u) (h:Q u s)
  (hn:x ≠ "__name__" := by decide) (hd:(x == ("__debug__" : Str))=false:=by decide):wpAny (model X.prog X.w) X.A (eval (.Name x pos) X.env) Q E s:=by
 obtain ⟨mb,h1,h2⟩:=I.mod.blt
 exact Calls.Name_function_global I.ok.kind hg (Calls.loadGlobal_builtin (by rw [I.ok.glob];exact I.mod.glob.keeps I.bk) hm (by rw [I.ok.blt];exact h1.keeps I.bk) ((h2 x hn).trans hv) h) hd
theorem zDb {v:V} {u:Value} (hg:Gl X x) (hm:X.mg x=some u) (r:RelV v u) (hd:(x == ("__debug__" : Str))=false:=by decide):PE X (.Name x pos) (tC v):=
 fun _ _ _ H _ I h=>zDH I hg hm ⟨v,H,I,r,h⟩ hd
theorem zE0 {v:V} {u:Value} (hg:Gl X x) (hm:X.mg x=none) (hv:bootBuiltins x=some u) (r:RelV v u) (hn:x ≠ "__name__" := by decide) (hd:(x == ("__debug__" : Str))=false:=by decide):PE X (.Name x pos) (tC v):=
 fun _ _ _ H _ I h=>zKv I hg hm hv ⟨v,H,I,r,h⟩ hn hd
variable {a b : Expr} {ta tb : TE} {pos : Pos}
def PC (X:Cx) (op:CmpOp) (a b:Expr) (t:TE):Prop:=
 ∀ (pins:List (Addr × Obj)) (s:Shared) (σ:St) (H:Hp) (Q:VK),Inv X pins σ H s->t σ H Q ->
  wpAny (model X.prog X.w) X.A (eval a X.env) (fun v s₁=>wpAny (model X.prog X.w) X.A (eval b X.env) (fun u s₂=>wpAny (model X.prog X.w) X.A (compareOp op v u) (EP X pins σ Q) X.xe s₂) X.xe s₁) X.xe s
theorem zRS (b:Expr) {op:CmpOp} (h:op ≠ .In) (h2:op ≠ .NotIn):behindInMarks op b=false:=by
 have e1:(op == CmpOp.In)=false:=by cases op <;> first | rfl | exact absurd rfl h
 have e2:(op == CmpOp.NotIn)=false:=by cases op <;> first | rfl | exact absurd rfl h2
 cases b <;> simp [behindInMarks,e1,e2]
def tB (t:TE):TT:=fun σ H Q=>t σ H fun x H1=>∃ c,x = .bl c/\Q c H1
variable {t:TE}
theorem zYC {op:CmpOp} (h:PC X op a b t) (h1:behindInMarks op b=false:=by first | exact zRS _ (by decide) (by decide) | rfl):PT X (.Compare a [op] [b] pos) (tB t):=by
 intro pins s σ H Q I hw
 refine wpAny_isTrue_Compare1 (thn (h pins s σ H _ I hw) fun v s1 h1=>thn h1 fun u s2 h2=>thn h2 fun c s3 ⟨x,H1,I1,r1,q1⟩=>?_) h1
 obtain ⟨d,rfl,q⟩:=q1
 cases r1
 exact wpAny_truthy_bool ⟨H1,I1,q⟩
theorem zBt (h:PE X e t) (he : ∀ whole,isTrue e X.env whole=(do let v <- whole;standAt e.pos;holding [v] (truthy v)):=by intro _;rfl):PT X e (tB t):=by
 intro pins s σ H Q I hw
 refine isTrue_plain (thn (h pins s σ H _ I hw) fun v s1 ⟨x,H1,I1,r1,q1⟩=>?_) (he _)
 obtain ⟨d,rfl,q⟩:=q1
 cases r1
 exact wpAny_truthy_bool ⟨H1,I1,q⟩
variable {tA tB' : TT} {rest : List Expr}
def tAnd (t u:TT):TT:=fun σ H Q=>t σ H fun c H1=>if c=true then u σ H1 Q else Q false H1
def tOr (t u:TT):TT:=fun σ H Q=>t σ H fun c H1=>if c=true then Q true H1 else u σ H1 Q
def tNot (t:TT):TT:=fun σ H Q=>t σ H fun c H1=>Q (!c) H1
theorem zLJ (ha:PT X a tA):PW X (.BoolOp .And [a] pos) tA:=by
 intro wh pins s σ H Q I h
 refine isTrue_and (thn (ha pins s σ H Q I h) fun c s1 e=>?_)
 cases c with
 | true=>exact isTrue_and_nil e
 | false=>exact e
theorem zGA (ha:PT X a tA):PW X (.BoolOp .Or [a] pos) tA:=by
 intro wh pins s σ H Q I h
 refine isTrue_or (thn (ha pins s σ H Q I h) fun c s1 e=>?_)
 cases c with
 | false=>exact isTrue_or_nil e
 | true=>exact e
theorem zOO (ha:PT X a tA) (hb:PW X (.BoolOp .And (b::rest) pos) tB'):PW X (.BoolOp .And (a::b::rest) pos) (tAnd tA tB'):=by
 intro wh pins s σ H Q I h
 refine isTrue_and (thn (ha pins s σ H _ I h) fun c s1 ⟨H1,I1,q1⟩=>?_)
 cases c with
 | true=>exact hb wh pins s1 σ H1 Q I1 q1
 | false=>exact ⟨H1,I1,q1⟩
theorem zI8 (ha:PT X a tA) (hb:PW X (.BoolOp .Or (b::rest) pos) tB'):PW X (.BoolOp .Or (a::b::rest) pos) (tOr tA tB'):=by
 intro wh pins s σ H Q I h
 refine isTrue_or (thn (ha pins s σ H _ I h) fun c s1 ⟨H1,I1,q1⟩=>?_)
 cases c with
 | true=>exact ⟨H1,I1,q1⟩
 | false=>exact hb wh pins s1 σ H1 Q I1 q1
theorem zCT (ha:PT X a tA):PT X (.UnaryOp .Not a pos) (tNot tA):=by
 intro pins s σ H Q I h
 exact isTrue_not (ha pins s σ H (fun c H1=>Q (!c) H1) I h)
def zV2 (ta tb:TE):TE:=fun σ H Q=>ta σ H fun x H1=>∃ c,x = .bl c/\if c=true then tb σ H1 Q else Q (.bl false) H1
def tOrV (ta tb:TE):TE:=fun σ H Q=>ta σ H fun x H1=>∃ c,x = .bl c/\if c=true then Q (.bl true) H1 else tb σ H1 Q
def zVe (ta:TE):TE:=fun σ H Q=>ta σ H fun x H1=>∃ c,x = .bl c/\Q (.bl (!c)) H1
theorem zHs {op} (h:PE X a t):PE X (.BoolOp op [a] pos) t:=fun pins s σ H Q I hw=>BoolOp_one (h pins s σ H Q I hw)
theorem zGT (ha:PE X a ta) (hb:PE X (.BoolOp .And (b::rest) pos) tb):PE X (.BoolOp .And (a::b::rest) pos) (zV2 ta tb):=by
 intro pins s σ H Q I h
 refine BoolOp_and (thn (ha pins s σ H _ I h) fun v s1 ⟨x,H1,I1,r1,q1⟩=>?_)
 obtain ⟨c,rfl,q1⟩:=q1
 cases r1
 refine wpAny_truthy_bool ?_
 cases c with
 | true=>exact hb pins s1 σ H1 Q I1 q1
 | false=>exact ⟨.bl false,H1,I1,rfl,q1⟩
theorem zX0 (ha:PE X a ta) (hb:PE X (.BoolOp .Or (b::rest) pos) tb):PE X (.BoolOp .Or (a::b::rest) pos) (tOrV ta tb):=by
 intro pins s σ H Q I h
 refine BoolOp_or (thn (ha pins s σ H _ I h) fun v s1 ⟨x,H1,I1,r1,q1⟩=>?_)
 obtain ⟨c,rfl,q1⟩:=q1
 cases r1
 refine wpAny_truthy_bool ?_
 cases c with
 | false=>exact hb pins s1 σ H1 Q I1 q1
 | true=>exact ⟨.bl true,H1,I1,rfl,q1⟩
theorem zTJ (ha:PE X a ta):PE X (.UnaryOp .Not a pos) (zVe ta):=by
 intro pins s σ H Q I h
 refine UnaryOp_ (thn (ha pins s σ H _ I h) fun v s1 ⟨x,H1,I1,r1,q1⟩=>?_)
 obtain ⟨c,rfl,q1⟩:=q1
 cases r1
 exact not_of (wpAny_truthy_bool ⟨.bl (!c),H1,I1,rfl,q1⟩)
def tIf (t:TT) (ta tb:TE):TE:=fun σ H Q=>t σ H fun c H1=>if c=true then ta σ H1 Q else tb σ H1 Q
theorem zLC {c:Expr} (hc:PT X c tA) (ha:PE X a ta) (hb:PE X b tb):PE X (.IfExp c a b pos) (tIf tA ta tb):=by
 intro pins s σ H Q I h
 refine wpAny_IfExp (thn (hc pins s σ H _ I h) fun d s1 ⟨H1,I1,q1⟩=>?_)
 cases d with
 | true=>exact ha pins s1 σ H1 Q I1 q1
 | false=>exact hb pins s1 σ H1 Q I1 q1
end
def SqL (K:W.Frag) (H:Hp) (a:Addr) (xs:List V):Prop:=
 Rd H a (.lst xs) \/
  ∃ (o:Obj) (its:Array Value) (n:Nat),K.lookup a=some o/\o.cls = .type "list" /\ o.dict=none/\o.data = .seq its n/\its.size<=sizeLine/\Vals xs its.toList
def SqT (K:W.Frag) (H:Hp) (a:Addr) (xs:List V):Prop:=
 Rd H a (.tup xs) \/
  ∃ (o:Obj) (its:Array Value) (n:Nat),K.lookup a=some o/\o.cls = .type "tuple" /\ o.data = .seq its n/\its.size<=sizeLine/\Vals xs its.toList
def absV:Value->Option V
 | .none=>some .non
 | .bool b=>some (.bl b)
 | .int i _=>some (.int i)
 | .str x _=>some (.str x)
 | .bytes b _=>some (.byt b)
 | .float b _=>some (.flt b)
 | .ref a=>some (.ref a)
 | .type n=>some (.ty n)
 | _=>none
variable {x:V}
theorem RelV.abs {u:Value} (r:RelV x u):absV u=some x:=by
 cases x with
 | non=>cases r;rfl
 | bl _=>cases r;rfl
 | int _=>obtain ⟨t,rfl⟩:=r;rfl
 | str _=>obtain ⟨t,rfl⟩:=r;rfl
 | byt _=>obtain ⟨t,rfl⟩:=r;rfl
 | flt _=>obtain ⟨t,rfl⟩:=r;rfl
 | ref _=>cases r;rfl
 | ty _=>cases r;rfl
variable {y:V}
theorem RelV.inj {u:Value} (r:RelV x u) (q:RelV y u):x=y:=Option.some.inj (r.abs.symm.trans q.abs)
theorem Vals.inj : ∀ {xs ys:List V} {us:List Value},Vals xs us->Vals ys us->xs=ys
 | _,_,_,.nil,.nil=>rfl
 | _,_,_,.cons r t,.cons r' t'=>by rw [r.inj r',Vals.inj t t']
section
variable {X : Cx} {pins : List (Addr × Obj)} {σ : St} {H : Hp} {s : Shared} {a : Addr} {xs ys : List V}
theorem SqL.of {K:W.Frag} (h:H a=some (.lst xs)):SqL K H a xs:=.inl (.inl h)
theorem SqT.of {K:W.Frag} (h:H a=some (.tup xs)):SqT K H a xs:=.inl (.inl h)
theorem Inv.list (I:Inv X pins σ H s) (h:SqL X.K H a xs) : ∃ its:List Value,Vals xs its/\PlainL s.heap a its.toArray/\xs.length<=sizeLine:=by
 rcases h with h | ⟨o,its,n,hk,hc,hd,hs,hz,r⟩
 ·obtain ⟨z,its,n,r,e⟩:=h.ok I.hok
  exact ⟨its,r,⟨_,n,e,rfl,rfl,rfl⟩,z⟩
 ·refine ⟨its.toList,r,⟨o,n,I.kIn a o hk,hc,hd,by simpa using hs⟩,?_⟩
  have e:=r.length
  simp only [Array.length_toList] at e
  omega
theorem Inv.tuple (I:Inv X pins σ H s) (h:SqT X.K H a xs) : ∃ its:List Value,Vals xs its/\IsTup s.heap a its.toArray/\xs.length<=sizeLine:=by
 rcases h with h | ⟨o,its,n,hk,hc,hs,hz,r⟩
 ·obtain ⟨z,its,r,p⟩:=h.ok I.hok
  exact ⟨its,r,p,z⟩
 ·refine ⟨its.toList,r,⟨o,I.kIn a o hk,hc,n,by simpa using hs⟩,?_⟩
  have e:=r.length
  simp only [Array.length_toList] at e
  omega
theorem Inv.list_inj (I:Inv X pins σ H s) (h:SqL X.K H a xs) (h':SqL X.K H a ys):xs=ys:=by
 obtain ⟨its,r,⟨o,n,e,_,_,d⟩,_⟩:=I.list h
 obtain ⟨its',r',⟨o',n',e',_,_,d'⟩,_⟩:=I.list h'
 rw [e] at e';cases e'
 rw [d] at d'
 injection d' with d1 _
 have:its=its':=by simpa using congrArg Array.toList d1
 subst this
 exact r.inj r'
theorem Inv.tuple_inj (I:Inv X pins σ H s) (h:SqT X.K H a xs) (h':SqT X.K H a ys):xs=ys:=by
 obtain ⟨its,r,⟨o,e,_,n,d⟩,_⟩:=I.tuple h
 obtain ⟨its',r',⟨o',e',_,n',d'⟩,_⟩:=I.tuple h'
 rw [e] at e';cases e'
 rw [d] at d'
 injection d' with d1 _
 have:its=its':=by simpa using congrArg Array.toList d1
 subst this
 exact r.inj r'
end
abbrev Cx.wish (X:Cx) (E:Value->Shared->Prop):Cx:={ X with xe:=E }
abbrev Cx.nox (X:Cx):Cx:=X.wish fun _ _=>False
theorem Cx.Ok.wish (ok:X.Ok) (E:Value->Shared->Prop):(X.wish E).Ok:=
 ⟨ok.mod,ok.kind,ok.glob,ok.blt,ok.above,ok.inj,ok.has,ok.cab,ok.hd,ok.frames,ok.stk,ok.exf,ok.bs,ok.bsz,ok.noex,ok.exfs,ok.funs,ok.frf⟩
theorem Cx.Ok.unwish (ok:(X.wish E).Ok):X.Ok:=
 ⟨ok.mod,ok.kind,ok.glob,ok.blt,ok.above,ok.inj,ok.has,ok.cab,ok.hd,ok.frames,ok.stk,ok.exf,ok.bs,ok.bsz,ok.noex,ok.exfs,ok.funs,ok.frf⟩
section
variable {X : Cx} {pins : List (Addr × Obj)} {σ : St} {H : Hp} {s : Shared} {E : Value -> Shared -> Prop}
theorem Inv.wish (I:Inv X pins σ H s) (E:Value->Shared->Prop):Inv (X.wish E) pins σ H s:=⟨I.ok.wish E,I.os,I.bare,I.base,I.loc,I.cell,I.free,I.freeC,I.pin,I.hok,I.len⟩
theorem Inv.unwish (I:Inv (X.wish E) pins σ H s):Inv X pins σ H s:=⟨I.ok.unwish,I.os,I.bare,I.base,I.loc,I.cell,I.free,I.freeC,I.pin,I.hok,I.len⟩
theorem SP.unwish {D:Ends} {f:Flow} {s':Shared} (h:SP (X.wish E) pins D f s'):SP X pins D f s':=by
 cases f with
 | next=>obtain ⟨σ',H',I,q⟩:=h;exact ⟨σ',H',I.unwish,q⟩
 | brk=>obtain ⟨σ',H',I,q⟩:=h;exact ⟨σ',H',I.unwish,q⟩
 | cont=>obtain ⟨σ',H',I,q⟩:=h;exact ⟨σ',H',I.unwish,q⟩
 | ret u=>obtain ⟨v,σ',H',I,r,q⟩:=h;exact ⟨v,σ',H',I.unwish,r,q⟩
theorem PE.nox {t:TE} (h:PE X.nox e t):PE X e t:=fun pins s σ H Q I hw =>
 wpAny_mono (h pins s σ H Q (I.wish _) hw) (fun _ _ ⟨v,H',I',r,q⟩=>⟨v,H',I'.unwish,r,q⟩) fun _ _ z=>False.elim z
theorem PT.nox {t:TT} (h:PT X.nox e t):PT X e t:=fun pins s σ H Q I hw =>
 wpAny_mono (h pins s σ H Q (I.wish _) hw) (fun _ _ ⟨H',I',q⟩=>⟨H',I'.unwish,q⟩) fun _ _ z=>False.elim z
theorem PSs.nox {st:List Stmt} {t:TS} (h:PSs X.nox st t):PSs X st t:=fun pins s σ H D I hw =>
 wpAny_mono (h pins s σ H D (I.wish _) hw) (fun _ _ q=>q.unwish) fun _ _ z=>False.elim z
end
section
variable {X : Cx} {st : Stmt} {rest : List Stmt} {t u : TS} {e : Expr} {te : TE} {pos : Pos}
def zXK:TS:=fun D σ H=>D.nx σ H
def tSeq (t u:TS):TS:=fun D σ H=>t { D with nx:=u D } σ H
theorem zAY:PSs X [] zXK:=fun _ _ σ H _ I h=>wpAny_execs_nil ⟨σ,H,I,h⟩
theorem zAF (h1:PS X st t) (h2:PSs X rest u):PSs X (st::rest) (tSeq t u):=by
 intro pins s σ H D I h
 refine wpAny_execs_cons (thn (h1 pins s σ H { D with nx:=u D } I h) fun f s1 q=>?_)
 cases f with
 | next =>
  obtain ⟨σ',H',I',q⟩:=q
  exact h2 pins s1 σ' H' D I' q
 | ret v=>exact q
 | brk=>exact q
 | cont=>exact q
theorem zAJ (h1:PS X st t):PSs X [st] t:=by
 intro pins s σ H D I h
 refine wpAny_execs_cons (thn (h1 pins s σ H D I h) fun f s1 q=>?_)
 cases f with
 | next=>exact wpAny_execs_nil q
 | ret v=>exact q
 | brk=>exact q
 | cont=>exact q
theorem Inv.quiet {pins:List (Addr × Obj)} {σ:St} (I:Inv X pins σ H s):interactive X.env=false:=by simp [interactive,I.ok.kind]
def zWw (te:TE):TS:=fun D σ H=>te σ H fun _ H1=>D.nx σ H1
theorem zCy (he:PE X e te) (hs:swapsWith e none pos.line X.env=pure false:=by rfl):PS X (.Expr e pos) (zWw te):=by
 intro pins s σ H D I h
 exact wpAny_Expr_any (thn (he pins s σ H _ I h) fun v s1 ⟨x,H1,I1,r1,q1⟩=>⟨σ,H1,I1,q1⟩) I.quiet hs
def tRet (te:TE):TS:=fun D σ H=>te σ H D.rt
theorem zAO (he:PE X e te):PS X (.Return (some e) pos) (tRet te):=by
 intro pins s σ H D I h
 exact wpAny_Return_some (thn (he pins s σ H _ I h) fun v s1 ⟨x,H1,I1,r1,q1⟩=>⟨x,σ,H1,I1,r1,q1⟩)
def tIfS (c:TT) (t u:TS):TS:=fun D σ H=>c σ H fun b H1=>if b=true then t D σ H1 else u D σ H1
theorem zBN {c:Expr} {a b:List Stmt} {tc:TT} (hc:PT X c tc) (ha:PSs X a t) (hb:PSs X b u):PS X (.If c a b pos) (tIfS tc t u):=by
 intro pins s σ H D I h
 refine wpAny_If (thn (hc pins s σ H _ I h) fun d s1 ⟨H1,I1,q1⟩=>?_)
 cases d with
 | true=>exact ha pins s1 σ H1 D I1 q1
 | false=>exact hb pins s1 σ H1 D I1 q1
def zWn:TS:=fun _ _ _=>False
theorem zFt:PS X st zWn:=fun _ _ _ _ _ _ h=>h.elim
end
abbrev TG:=V->St->Hp->(St->Hp->Prop)->Prop
abbrev TGs:=List V->St->Hp->(St->Hp->Prop)->Prop
def PG (X:Cx) (target:Expr) (t:TG):Prop:=
 ∀ (pins:List (Addr × Obj)) (s:Shared) (σ:St) (H:Hp) (v:V) (u:Value) (Q:St->Hp->Prop),Inv X pins σ H s->RelV v u->t v σ H Q ->
  wpAny (model X.prog X.w) X.A (assign target X.env u) (fun _ s'=>∃ σ' H',Inv X pins σ' H' s'/\Q σ' H') X.xe s
def PGs (X:Cx) (ts:List Expr) (t:TGs):Prop:=
 ∀ (pins:List (Addr × Obj)) (s:Shared) (σ:St) (H:Hp) (vs:List V) (us:List Value) (Q:St->Hp->Prop),Inv X pins σ H s->Vals vs us->t vs σ H Q ->
  wpAny (model X.prog X.w) X.A (assignInOrder ((assignEach ts X.env).map (·.2)) us) (fun _ s'=>∃ σ' H',Inv X pins σ' H' s'/\Q σ' H') X.xe s
section
variable {X : Cx} {pos : Pos}
def zSH (i:Nat):TG:=fun v σ H Q=>Q (σ.set i (some v)) H
theorem zAz {i:Nat} {x:Str} (hN:X.N.Nodup) (hi:X.N[i]? = some x) (hx:Loc X.env.scope x) (hf:X.fn x=true\/X.env.scope.names.lookup x=some .local:=by first | exact .inl rfl | exact .inr rfl | assumption):PG X (.Name x pos) (zSH i):=by
 intro pins s σ H v u Q I r h
 exact wpAny_assign_Name (zNv I hN hi hx r (fun s' I'=>⟨_,H,I',h⟩) hf)
def gNil:TGs:=fun vs σ H Q=>vs=[]/\Q σ H
def zXG (t:TG) (u:TGs):TGs:=fun vs σ H Q=>∃ v r,vs=v::r/\t v σ H fun σ' H'=>u r σ' H' Q
theorem zLN:PGs X [] gNil:=by
 intro pins s σ H vs us Q I r h
 obtain ⟨e,h⟩:=h
 subst e
 cases r
 exact assignInOrder_nil ⟨σ,H,I,h⟩
theorem zBI {es:List Expr} {t:TG} {u:TGs} (h1:PG X e t) (h2:PGs X es u)
  (hs:(assignEach (e::es) X.env).map (·.2)=assign e X.env::(assignEach es X.env).map (·.2):=by rfl):PGs X (e::es) (zXG t u):=by
 intro pins s σ H vs us Q I r h
 obtain ⟨v,vr,e1,h⟩:=h
 subst e1
 cases r with
 | cons r rr =>
  rw [hs]
  refine assignInOrder_cons (thn (h1 pins s σ H _ _ _ I r h) fun _ s1 ⟨σ1,H1,I1,q1⟩=>?_)
  exact h2 pins s1 σ1 H1 _ _ Q I1 rr q1
def gTup (K:W.Frag) (n:Nat) (t:TGs):TG:=fun v σ H Q=>∃ a xs,v = .ref a/\SqT K H a xs/\xs.length=n/\t xs σ H Q
theorem zOD {es:List Expr} {k:Nat} {t:TGs} {n:Nat} (hc:X.calm=true) (h:PGs X es t)
  (hn:(assignEach es X.env).length=n:=by rfl) (hst:(assignEach es X.env).findIdx? (·.1)=none:=by rfl):PG X (.Tuple es k pos) (gTup X.K n t):=by
 intro pins s σ H v u Q I r hw
 obtain ⟨a,xs,e1,hq,hl,hw⟩:=hw
 subst e1
 cases r
 obtain ⟨its,rv,ht,hz⟩:=I.tuple hq
 refine assign_Tuple_tuple (I.ok.hd hc) ht (by simp [hn,<- hl,rv.length]) hst fun h' hx=>?_
 have I1:Inv X pins σ H { s with heap:=h' }:=I.kept (t':=s.toks) fun b o e=>hx b o (ne_of_lt (Heap.lt_size e)) e
 exact h pins _ σ H xs _ Q I1 (by simpa using rv) hw
def tAsg (te:TE) (g:TG):TS:=fun D σ H=>te σ H fun x H1=>g x σ H1 D.nx
theorem zN8 {tg:Expr} {te:TE} {g:TG} (he:PE X e te) (hg:PG X tg g) (hs:swapsWithSole [tg] e pos.line X.env=pure false:=by rfl) (hw:swappedStores [tg] e X.env=pure none:=by rfl)
  (h1:(assignEach [tg] X.env).map (·.2)=[assign tg X.env]:=by rfl):PS X (.Assign [tg] e pos) (tAsg te g):=by
 intro pins s σ H D I h
 refine wpAny_Assign_stores (thn (he pins s σ H _ I h) fun v s1 ⟨x,H1,I1,r1,q1⟩=>?_) hs hw
 rw [h1]
 exact thn (hg pins s1 σ H1 x v _ I1 r1 q1) fun _ s2 q=>q
theorem zAN {i:Nat} {x:Str} {te:TE} {pos':Pos} (hN:X.N.Nodup) (hi:X.N[i]? = some x) (hx:Loc X.env.scope x) (he:PE X e te) (hs:swapsWith e (some (.Name x pos')) pos.line X.env=pure false:=by rfl) (hf:X.fn x=true\/X.env.scope.names.lookup x=some .local:=by first | exact .inl rfl | exact .inr rfl | assumption) :
  PS X (.Assign [.Name x pos'] e pos) (tAsg te (zSH i)):=by
 intro pins s σ H D I h
 refine wpAny_Assign_Name (thn (he pins s σ H _ I h) fun v s1 ⟨y,H1,I1,r1,q1⟩=>?_) hs
 exact zNv I1 hN hi hx r1 (fun s2 I2=>⟨_,H1,I2,q1⟩) hf
end
section
variable {X : Cx} {pos : Pos}
def zTN (c:TT) (tb:TS):TS:=fun D σ H=>∃ W:Nat->St->Hp->Prop,(∃ m,W m σ H) /\ ∀ m σ H,W m σ H ->
 c σ H fun b H1=>if b=true then ∃ N:St->Hp->Prop,(∀ σ' H',N σ' H' -> ∃ m',m' < m/\W m' σ' H')/\tb { D with nx:=N,ct:=N,bk:=D.nx } σ H1 else D.nx σ H1
theorem zJN {c:Expr} {body:List Stmt} {tc:TT} {tb:TS} (hp:PassesOwn (model X.prog X.w) X.A X.env X.xe) (hc:PT X c tc) (hb:PSs X body tb):PS X (.While c body [] pos) (zTN tc tb):=by
 intro pins s σ H D I h
 obtain ⟨W,⟨m0,w0⟩,turn⟩:=h
 refine wpAny_While (codeAny_whileLoop (fun n s'=>∃ σ' H',Inv X pins σ' H' s'/\W n σ' H') ?_ m0 ⟨σ,H,I,w0⟩)
 rintro n s1 ⟨σ1,H1,I1,w1⟩
 refine wpAny_passesOwn hp (thn (hc pins s1 σ1 H1 _ I1 (turn n σ1 H1 w1)) fun b s2 ⟨H2,I2,q2⟩=>?_)
 cases b with
 | true =>
  obtain ⟨N,hN,q2⟩:=q2
  rw [if_pos rfl]
  refine wpAny_passesOwn hp (thn (hb pins s2 σ1 H2 _ I2 q2) fun f s3 q3=>?_)
  cases f with
  | next =>
   obtain ⟨σ3,H3,I3,n3⟩:=q3
   obtain ⟨m',hm,w3⟩:=hN σ3 H3 n3
   exact ⟨m',hm,σ3,H3,I3,w3⟩
  | cont =>
   obtain ⟨σ3,H3,I3,n3⟩:=q3
   obtain ⟨m',hm,w3⟩:=hN σ3 H3 n3
   exact ⟨m',hm,σ3,H3,I3,w3⟩
  | brk=>exact q3
  | ret v=>exact q3
 | false =>
  rw [if_neg Bool.false_ne_true]
  exact wpAny_execs_nil ⟨σ1,H2,I2,q2⟩
end
structure It where
 go:Nat->Hp->Prop
 yld:Nat->Hp->V->Hp->Prop
 stop:Nat->Hp->Prop
def FpOk (X:Cx) (pins:List (Addr × Obj)) (H:Hp) (b:Addr):Prop:=
 H b=none/\b≠X.env.locals/\b ∉ X.fs/\(b ∈ X.ex\/X.s₀.heap.objs.size<=b)/\(∀ x c,X.env.cells.lookup x=some c->c≠b) /\ ∀ p ∈ X.pn++pins,p.1≠b
variable {pins:List (Addr × Obj)} {σ:St}
theorem Inv.fpOk {H':Hp} (I:Inv X pins σ H s) (hb:s.heap.objs.size<=b) (hn:H' b=none):FpOk X pins H' b:=by
 refine ⟨hn,Nat.ne_of_gt (lt_of_lt_of_le I.lt hb),I.nofs hb,.inr (le_trans I.sz hb),fun x c e z=>?_,fun p hp z=>?_⟩
 ·obtain ⟨v,q⟩:=I.cell x c e
  exact absurd (lt_of_lt_of_le q.lt (by rw [z];exact hb)) (lt_irrefl _)
 ·exact absurd (lt_of_lt_of_le (Heap.lt_size (I.pin p hp).1) (by rw [z];exact hb)) (lt_irrefl _)
structure Turn (P:Program) (w:World) (K:W.Frag) (tg:Expr) (J:It) (fp:List Addr) (it:Addr) (tn:Nat->Heap->Prop):Prop where
 mem:it ∈ fp
 obj : ∀ i h,tn i h -> ∀ b ∈ fp,∃ o,h.get? b=some o /\ ∀ v,o.data ≠ .cell v
 keep : ∀ i h h',tn i h->(∀ b ∈ fp,∀ o,h.get? b=some o->h'.get? b=some o)->tn i h'
 item : ∀ (X:Cx),X.prog=P->X.w=w->X.K=K->X.calm=true -> ∀ (i:Nat) (pins:List (Addr × Obj)) (s:Shared) (σ:St) (H:Hp) (E:Value->Shared->Prop),Inv X pins σ H s->(∀ b ∈ fp,FpOk X pins H b)->tn i s.heap->J.go i H ->
  wpAny (model P w) X.A (pyNext (.ref it)) (fun r s1=>∃ u,r=some u /\
   wpAny (model P w) X.A (letOwnedTupleGo tg (.ref it) u) (fun _ s2=>∃ x H',Inv X pins σ H' s2/\RelV x u/\J.yld i H x H'/\tn (i+1) s2.heap /\ ∀ b ∈ fp,H' b=none) E s1) E s
 done : ∀ (X:Cx),X.prog=P->X.w=w->X.K=K->X.calm=true -> ∀ (i:Nat) (pins:List (Addr × Obj)) (s:Shared) (σ:St) (H:Hp) (E:Value->Shared->Prop),Inv X pins σ H s->(∀ b ∈ fp,FpOk X pins H b)->tn i s.heap->J.stop i H ->
  wpAny (model P w) X.A (pyNext (.ref it)) (fun r s1=>r=none/\Inv X pins σ H s1) E s
 self : ∀ (A:Around) (i:Nat) (s:Shared) (Q:Value->Shared->Prop) (E:Value->Shared->Prop),tn i s.heap->Q (.ref it) s->wpAny (model P w) A (pyIter (.ref it)) Q E s
abbrev TI:=St->Hp->(It->Hp->Prop)->Prop
def PIE (X:Cx) (pins:List (Addr × Obj)) (σ:St) (tg:Expr) (R:It->Hp->Prop) (itv:Value) (s2:Shared):Prop:=
 ∃ (it:Addr) (fp:List Addr) (tn:Nat->Heap->Prop) (J:It) (H':Hp),itv = .ref it/\Inv X pins σ H' s2/\Turn X.prog X.w X.K tg J fp it tn/\tn 0 s2.heap/\(∀ b ∈ fp,FpOk X pins H' b)/\R J H'
def PI (X:Cx) (tg iter:Expr) (wi:TI):Prop:=
 ∀ (pins:List (Addr × Obj)) (s:Shared) (σ:St) (H:Hp) (R:It->Hp->Prop),Inv X pins σ H s->wi σ H R ->
  wpAny (model X.prog X.w) X.A (eval iter X.env) (fun v s1=>wpAny (model X.prog X.w) X.A (pyIter v) (PIE X pins σ tg R) X.xe s1) X.xe s
variable {tg:Expr} {Q:Unit -> Shared -> Prop}
theorem zP6 {M : Model} {it : Addr} {u : Value} {o : Obj} {n : String} {vs : Array Value} (ho : s.heap.get? it = some o) (hc : o.cls = .type n) (hd : o.data = .fields vs)
    (hn : ["enumerate", "zip", "dict_itemiterator", "dict_reverseitemiterator", "odict_iterator", "itertools.zip_longest", "itertools.pairwise"].contains n = false) (hQ : Q () s) : wpAny M A (letOwnedTupleGo tg (.ref it) u) Q E s := by
  unfold letOwnedTupleGo
  cases tg <;> first
    | exact wpAny_pure hQ
    | (cases u <;> first
        | exact wpAny_pure hQ
        | (refine wpAny_bind (wpAny_load ho ?_)
           rw [hc, hd]
           show wpAny M A (if (["enumerate", "zip", "dict_itemiterator", "dict_reverseitemiterator", "odict_iterator", "itertools.zip_longest", "itertools.pairwise"].contains n && vs[0]? == some (rawInt _)) = true then _ else _) Q E s
           rw [if_neg (by intro h; rw [hn, Bool.false_and] at h; cases h)]
           exact wpAny_pure hQ))
def Itl (K:W.Frag) (a:Addr):It:=
 ⟨fun i H=>∃ xs x,SqL K H a xs/\xs[i]? = some x,fun i H x H'=>H'=H /\ ∀ xs,SqL K H a xs->xs[i]? = some x,fun i H=>∃ xs,SqL K H a xs/\xs.length<=i⟩
def Itt (K:W.Frag) (a:Addr):It:=
 ⟨fun i H=>∃ xs x,SqT K H a xs/\xs[i]? = some x,fun i H x H'=>H'=H /\ ∀ xs,SqT K H a xs->xs[i]? = some x,fun i H=>∃ xs,SqT K H a xs/\xs.length<=i⟩
def Itr (lo:Int) (n:Nat):It:=⟨fun i _=>i < n,fun i H x H'=>H'=H/\x = .int (lo+i),fun i _=>n<=i⟩
variable {K:W.Frag}
theorem zQC (a it:Addr):Turn P w K tg (Itl K a) [it] it (fun i h=>h.IsListIter it a i) where
 mem:=by simp
 obj:=fun i h st b hb=>by
  have e:b=it:=by simpa using hb
  subst e
  obtain ⟨o,e,c,d⟩:=st
  exact ⟨o,e,fun v z=>by rw [d] at z;cases z⟩
 keep:=fun i h h' st k=>st.at fun o e=>k it (by simp) o e
 item:=by
  intro X hP hw hK hc i pins s σ H E I hf st hg
  subst hP hw hK
  obtain ⟨xs,x,hq,hx⟩:=hg
  obtain ⟨its,rv,p,hz⟩:=I.list hq
  obtain ⟨u,hu,ru⟩:=rv.get hx
  obtain ⟨f0,f1,f2,f3,f4,f5⟩:=hf it (by simp)
  refine wpAny_pyNext_list_item st p.isList (x:=u) (by simpa using hu) fun h' st' sb=>?_
  have I1:Inv X pins σ H { s with heap:=h' }:=I.turned (t':=s.toks) (fun b o hb e=>(sb.2 b hb).trans e) f0 f1 f3 f4 f5
  obtain ⟨o,e,c,d⟩:=id st'
  exact ⟨u,rfl,zP6 (s:={ s with heap:=h' }) e c d (by decide) ⟨x,H,I1,ru,⟨rfl,fun ys hy=>by rw [I.list_inj hy hq];exact hx⟩,st',fun b hb=>(hf b hb).1⟩⟩
 done:=by
  intro X hP hw hK hc i pins s σ H E I hf st hg
  subst hP hw hK
  obtain ⟨xs,hq,hx⟩:=hg
  obtain ⟨its,rv,p,hz⟩:=I.list hq
  obtain ⟨f0,f1,f2,f3,f4,f5⟩:=hf it (by simp)
  have hl:=rv.length
  exact wpAny_pyNext_list_end (I.ok.hd hc) st p.isList (by simp;omega) fun h' eb=>⟨rfl,I.turned (t':=s.toks) (fun b o hb e=>eb b o hb e) f0 f1 f3 f4 f5⟩
 self:=fun _ _ _ _ _ st h=>wpAny_pyIter_listiter st h
theorem zOw (a it:Addr):Turn P w K tg (Itt K a) [it] it (fun i h=>h.IsTupleIter it a i) where
 mem:=by simp
 obj:=fun i h st b hb=>by
  have e:b=it:=by simpa using hb
  subst e
  obtain ⟨o,e,c,d⟩:=st
  exact ⟨o,e,fun v z=>by rw [d] at z;cases z⟩
 keep:=fun i h h' st k=>st.at fun o e=>k it (by simp) o e
 item:=by
  intro X hP hw hK hc i pins s σ H E I hf st hg
  subst hP hw hK
  obtain ⟨xs,x,hq,hx⟩:=hg
  obtain ⟨its,rv,p,hz⟩:=I.tuple hq
  obtain ⟨u,hu,ru⟩:=rv.get hx
  obtain ⟨f0,f1,f2,f3,f4,f5⟩:=hf it (by simp)
  refine wpAny_pyNext_tuple_item st (show s.heap.IsTuple a its.toArray from p) (x:=u) (by simpa using hu) fun h' st' sb=>?_
  have I1:Inv X pins σ H { s with heap:=h' }:=I.turned (t':=s.toks) (fun b o hb e=>(sb.2 b hb).trans e) f0 f1 f3 f4 f5
  obtain ⟨o,e,c,d⟩:=id st'
  exact ⟨u,rfl,zP6 (s:={ s with heap:=h' }) e c d (by decide) ⟨x,H,I1,ru,⟨rfl,fun ys hy=>by rw [I.tuple_inj hy hq];exact hx⟩,st',fun b hb=>(hf b hb).1⟩⟩
 done:=by
  intro X hP hw hK hc i pins s σ H E I hf st hg
  subst hP hw hK
  obtain ⟨xs,hq,hx⟩:=hg
  obtain ⟨its,rv,p,hz⟩:=I.tuple hq
  obtain ⟨f0,f1,f2,f3,f4,f5⟩:=hf it (by simp)
  have hl:=rv.length
  exact wpAny_pyNext_tuple_end (I.ok.hd hc) st (show s.heap.IsTuple a its.toArray from p) (by simp;omega) fun h' eb=>⟨rfl,I.turned (t':=s.toks) (fun b o hb e=>eb b o hb e) f0 f1 f3 f4 f5⟩
 self:=fun _ _ _ _ _ st h=>wpAny_pyIter_tupleiter st h
theorem zO1 {K:PySem.W.Frag} (it:Addr) (lo:Int) (n:Nat):Turn P w K tg (Itr lo n) [it] it (fun i h=>IsRangeIter h it (lo+(i:Nat)*1) ((n:Int) - (i:Nat)) 1) where
 mem:=by simp
 obj:=fun i h st b hb=>by
  have e:b=it:=by simpa using hb
  subst e
  exact ⟨_,st,fun v z=>by
   have z':Data.fields _=Data.cell v:=z
   cases z'⟩
 keep:=fun i h h' st k=>k it (by simp) _ st
 item:=by
  intro X hP hw hK hc i pins s σ H E I hf st hg
  subst hP hw hK
  obtain ⟨f0,f1,f2,f3,f4,f5⟩:=hf it (by simp)
  have W:=Walks.range (prog:=X.prog) (w:=X.w) (I.ok.hd hc) it lo 1 n
  refine W.item i s _ _ hg st fun v h' tk hv st' kk=>?_
  obtain ⟨t,rfl⟩:=hv
  have I1:Inv X pins σ H { s with heap:=h',toks:=tk }:=I.turned (fun b o hb e=>kk b o (by simpa using hb) e) f0 f1 f3 f4 f5
  refine ⟨_,rfl,zP6 (s:={ s with heap:=h',toks:=tk }) (n:="range_iterator") st' rfl rfl (by decide) ⟨.int (lo+i),H,I1,⟨t,?_⟩,⟨rfl,rfl⟩,st',fun b hb=>(hf b hb).1⟩⟩
  rw [Int.mul_one]
 done:=by
  intro X hP hw hK hc i pins s σ H E I hf st hg
  subst hP hw hK
  obtain ⟨f0,f1,f2,f3,f4,f5⟩:=hf it (by simp)
  exact wpAny_pyNext_range_end (I.ok.hd hc) st (by have:n<=i:=hg;omega) fun h' eb=>⟨rfl,I.turned (t':=s.toks) (fun b o hb e=>eb b o hb e) f0 f1 f3 f4 f5⟩
 self:=fun _ _ _ _ _ st h=>wpAny_pyIter_rangeiter st h
section
variable {X : Cx} {tg : Expr}
def zUb (K:W.Frag) (tl:TE):TI:=fun σ H R=>tl σ H fun x H1=>∃ a,x = .ref a/\(∃ xs,SqL K H1 a xs)/\R (Itl K a) H1
def iTup (K:W.Frag) (tl:TE):TI:=fun σ H R=>tl σ H fun x H1=>∃ a,x = .ref a/\(∃ xs,SqT K H1 a xs)/\R (Itt K a) H1
theorem zCg {l:Expr} {tl:TE} (hl:PE X l tl):PI X tg l (zUb X.K tl):=by
 intro pins s σ H R I h
 refine thn (hl pins s σ H _ I h) fun v s1 ⟨x,H1,I1,r1,q1⟩=>?_
 obtain ⟨a,e,⟨xs,hq⟩,q⟩:=q1
 subst e
 cases r1
 obtain ⟨its,rv,p,hz⟩:=I1.list hq
 refine wpAny_pyIter_list p.isList ?_
 refine ⟨s1.heap.objs.size,[s1.heap.objs.size],_,_,H1,rfl,I1.kept (t':=s1.toks) fun b o e=>Heap.get?_push_of_some _ e,zQC a _,⟨_,Heap.get?_push_size _ rfl,rfl,rfl⟩,fun b hb=>?_,q⟩
 have e:b=s1.heap.objs.size:=by simpa using hb
 subst e
 exact I1.fpOk (le_refl _) (I1.hok.fresh (le_refl _))
theorem zXO {l:Expr} {tl:TE} (hl:PE X l tl):PI X tg l (iTup X.K tl):=by
 intro pins s σ H R I h
 refine thn (hl pins s σ H _ I h) fun v s1 ⟨x,H1,I1,r1,q1⟩=>?_
 obtain ⟨a,e,⟨xs,hq⟩,q⟩:=q1
 subst e
 cases r1
 obtain ⟨its,rv,p,hz⟩:=I1.tuple hq
 refine wpAny_pyIter_tuple (show s1.heap.IsTuple a its.toArray from p) ?_
 refine ⟨s1.heap.objs.size,[s1.heap.objs.size],_,_,H1,rfl,I1.kept (t':=s1.toks) fun b o e=>Heap.get?_push_of_some _ e,zOw a _,⟨_,Heap.get?_push_size _ rfl,rfl,rfl⟩,fun b hb=>?_,q⟩
 have e:b=s1.heap.objs.size:=by simpa using hb
 subst e
 exact I1.fpOk (le_refl _) (I1.hok.fresh (le_refl _))
theorem zOQ {R:It->Hp->Prop} {lo hi:Int} {t u v:Tok} {tk:Nat} (I:Inv X pins σ H s) (h1 : -(2 ^ 62)<=lo) (h2:lo < 2 ^ 62) (h3 : -(2 ^ 62)<=hi) (h4:hi < 2 ^ 62)
  (q:R (Itr lo (hi - lo).toNat) H):wpAny (model X.prog X.w) X.A (pyIter (.ref s.heap.objs.size)) (PIE X pins σ tg R) E { s with heap:=s.heap.push { cls:=.type "range", data:=.fields #[.int lo t,.int hi u,.int 1 v] },toks:=tk }:=by
 refine wpAny_pyIter_range (IsRange.new ..) (small_one h1 h2 h3 h4) ?_
 have I1:Inv X pins σ H { s with heap:=s.heap.push { cls:=.type "range", data:=.fields #[.int lo t,.int hi u,.int 1 v] },toks:=tk }:=I.kept fun b o e=>Heap.get?_push_of_some _ e
 refine ⟨(s.heap.push { cls:=.type "range", data:=.fields #[.int lo t,.int hi u,.int 1 v] }).objs.size,[(s.heap.push { cls:=.type "range", data:=.fields #[.int lo t,.int hi u,.int 1 v] }).objs.size],_,_,H,rfl,
  I1.kept (t':=tk) fun b o e=>Heap.get?_push_of_some _ e,zO1 _ lo (hi - lo).toNat,?_,fun b hb=>?_,q⟩
 ·have e1:lo+((0:Nat):Int)*1=lo:=by simp
  have e2:(((hi - lo).toNat:Nat):Int) - ((0:Nat):Int)=Builtin.Range.rangeSize lo hi 1:=by rw [rangeSize_one];split <;> omega
  show IsRangeIter _ _ (lo+((0:Nat):Int)*1) ((((hi - lo).toNat:Nat):Int) - ((0:Nat):Int)) 1
  rw [e1,e2]
  exact Heap.get?_push_size _ rfl
 ·have e:b=(s.heap.push { cls:=.type "range", data:=.fields #[.int lo t,.int hi u,.int 1 v] }).objs.size:=by simpa using hb
  subst e
  exact I1.fpOk (le_refl _) (I1.hok.fresh (le_refl _))
def zUh (ta:TA):TI:=fun σ H R=>ta σ H fun vs H1=>∃ j:Int,vs=[.int j] /\ -(2 ^ 62)<=j/\j < 2 ^ 62/\R (Itr 0 j.toNat) H1
def zU5 (ta:TA):TI:=fun σ H R=>ta σ H fun vs H1=>∃ i j:Int,vs=[.int i,.int j]/\(-(2 ^ 62)<=i/\i < 2 ^ 62 /\ -(2 ^ 62)<=j/\j < 2 ^ 62)/\R (Itr i (j - i).toNat) H1
variable {pos:Pos}
theorem zDm {a:Expr} {ta:TA} {p:Pos} (hg:Gl X "range") (hm:X.mg "range" = none) (ha:PA X [a] ta) (hs:starEach [a] X.env=[(false,eval a X.env)]:=by rfl):PI X tg (.Call (.Name "range" p) [a] [] pos) (zUh ta):=by
 intro pins s σ H R I h
 refine Call_ (zKv I hg hm boot_range (PyProof.Rows.callWith_type1 (thn (ha pos pins s σ H _ I h) fun us s1 ⟨vs,H1,I1,r1,q1⟩=>?_) hs rfl))
 obtain ⟨j,e,q1,q2,q⟩:=q1
 subst e
 cases r1 with
 | cons r rr =>
  cases rr
  obtain ⟨t,rfl⟩:=r
  exact call_range_1 (zOQ I1 (by omega) (by omega) q1 q2 (by simpa using q))
theorem zJn {a b:Expr} {ta:TA} {p:Pos} (hg:Gl X "range") (hm:X.mg "range" = none) (ha:PA X [a,b] ta) (hs:starEach [a,b] X.env=[(false,eval a X.env),(false,eval b X.env)]:=by rfl) (hs2:starEach [b] X.env=[(false,eval b X.env)]:=by rfl) :
  PI X tg (.Call (.Name "range" p) [a,b] [] pos) (zU5 ta):=by
 intro pins s σ H R I h
 refine Call_ (zKv I hg hm boot_range (PyProof.Rows.callWith_type1 (thn (ha pos pins s σ H _ I h) fun us s1 ⟨vs,H1,I1,r1,q1⟩=>?_) (by rw [hs,hs2]) (by rw [hs2];rfl)))
 obtain ⟨i,j,e,⟨q1,q2,q3,q4⟩,q⟩:=q1
 subst e
 cases r1 with
 | cons r rr =>
  cases rr with
  | cons r' rr =>
   cases rr
   obtain ⟨t,rfl⟩:=r
   obtain ⟨t',rfl⟩:=r'
   exact call_range_2 (zOQ I1 q1 q2 q3 q4 q)
def tFor (wi:TI) (g:TG) (tb:TS):TS:=fun D σ H=>wi σ H fun J H1=>∃ W:Nat->Nat->St->Hp->Prop,(∃ m,W 0 m σ H1) /\ ∀ i m σ H,W i m σ H ->
 (J.stop i H/\D.nx σ H)\/(J.go i H /\ ∃ N:St->Hp->Prop,(∀ σ' H',N σ' H' -> ∃ m',m' < m/\W (i+1) m' σ' H') /\ ∀ x H',J.yld i H x H'->g x σ H' fun σ2 H2=>tb { D with nx:=N,ct:=N,bk:=D.nx } σ2 H2)
def zLs (fp:List Addr) (h:Heap):List (Addr × Obj):=fp.filterMap fun b=>(h.get? b).map fun o=>(b,o)
variable {fp:List Addr}
theorem zG6 {o:Obj} (hb:b ∈ fp) (e:h.get? b=some o):(b,o) ∈ zLs fp h:=List.mem_filterMap.mpr ⟨b,hb,by rw [e];rfl⟩
theorem zQZ {p:Addr × Obj} (hp:p ∈ zLs fp h):p.1 ∈ fp/\h.get? p.1=some p.2:=by
 obtain ⟨b,hb,e⟩:=List.mem_filterMap.mp hp
 cases q:h.get? b with
 | none=>rw [q] at e;cases e
 | some o =>
  rw [q] at e
  have e':(b,o)=p:=Option.some.inj e
  subst e'
  exact ⟨hb,q⟩
theorem Inv.pinned (I:Inv X pins σ H s) (hf : ∀ b ∈ fp,FpOk X pins H b) (ho : ∀ b ∈ fp,∃ o,s.heap.get? b=some o /\ ∀ v,o.data ≠ .cell v):Inv X (pins++zLs fp s.heap) σ H s:=
 I.pins_of fun p hp=>(List.mem_append.mp hp).elim (fun z=>I.pin p (mem_append_right _ z)) fun z=>by
  obtain ⟨hb,e⟩:=zQZ z
  obtain ⟨f0,f1,f2,_⟩:=hf p.1 hb
  obtain ⟨o,e',d⟩:=ho p.1 hb
  rw [e] at e';cases e'
  exact ⟨e,f0,f1,f2,d⟩
theorem Inv.unpinned {pl:List (Addr × Obj)} (I:Inv X (pins++pl) σ H s):Inv X pins σ H s:=I.pins_of fun p hp=>I.pin p (mem_append_right _ (List.mem_append_left _ hp))
theorem zGC {iter:Expr} {body:List Stmt} {wi:TI} {g:TG} {tb:TS} (hp:PassesOwn (model X.prog X.w) X.A X.env X.xe) (hc:X.calm=true) (hi:PI X tg iter wi) (hg:PG X tg g) (hb:PSs X body tb)
  (hs : ∀ x,foldedSetIterable iter X.env x=pure x:=by intro _;rfl):PS X (.For tg iter body [] pos) (tFor wi g tb):=by
 intro pins s σ H D I h
 refine wpAny_For (thn (hi pins s σ H _ I h) fun v s1 h1=>thn h1 fun itv s2 h2=>?_) hs
 obtain ⟨it,fp,tn,J,H2,e,I2,T,st2,f2,W,⟨m0,w0⟩,turn⟩:=h2
 subst e
 have stat : ∀ {H':Hp},(∀ b ∈ fp,H' b=none) -> ∀ b ∈ fp,FpOk X pins H' b:=fun hn b hb=>⟨hn b hb,(f2 b hb).2⟩
 refine codeAny_forLoop_any (fun n s'=>∃ i σ' H',Inv X pins σ' H' s'/\tn i s'.heap/\(∀ b ∈ fp,H' b=none)/\W i n σ' H') ?_ m0 ⟨0,σ,H2,I2,st2,fun b hb=>(f2 b hb).1,w0⟩
 rintro n s3 ⟨i,σ3,H3,I3,st3,fr3,w3⟩
 rcases turn i n σ3 H3 w3 with ⟨stop,qn⟩ | ⟨go,N,hN,step⟩
 ·refine wpAny_passesOwn hp (thn (T.done X rfl rfl rfl hc i pins s3 σ3 H3 X.xe I3 (stat fr3) st3 stop) fun r s4 ⟨hr,I4⟩=>?_)
  subst hr
  exact wpAny_execs_nil ⟨σ3,H3,I4,qn⟩
 ·refine wpAny_passesOwn hp (thn (T.item X rfl rfl rfl hc i pins s3 σ3 H3 X.xe I3 (stat fr3) st3 go) fun r s4 ⟨u,hr,h4⟩=>?_)
  subst hr
  refine wpAny_passesOwn hp (thn h4 fun _ s5 ⟨x,H5,I5,r5,y5,st5,fr5⟩=>?_)
  have I5':=I5.pinned (stat fr5) (T.obj _ _ st5)
  refine wpAny_passesOwn hp (thn (hg _ s5 σ3 H5 x u _ I5' r5 (step x H5 y5)) fun _ s6 ⟨σ6,H6,I6,q6⟩=>?_)
  refine wpAny_passesOwn hp (thn (hb _ s6 σ6 H6 _ I6 q6) fun f s7 q7=>?_)
  have again : ∀ {σ7:St} {H7:Hp},Inv X (pins++zLs fp s5.heap) σ7 H7 s7->N σ7 H7 -> ∃ m,m < n /\ ∃ i σ' H',Inv X pins σ' H' s7/\tn i s7.heap/\(∀ b ∈ fp,H' b=none)/\W i m σ' H':=fun {σ7 H7} I7 n7=>by
   obtain ⟨m',hm,w7⟩:=hN σ7 H7 n7
   refine ⟨m',hm,i+1,σ7,H7,I7.unpinned,T.keep _ _ _ st5 fun b hb o e=>(I7.pin (b,o) (mem_append_right _ (mem_append_right _ (zG6 hb e)))).1,fun b hb=>?_,w7⟩
   obtain ⟨o,e,d⟩:=T.obj _ _ st5 b hb
   exact (I7.pin (b,o) (mem_append_right _ (mem_append_right _ (zG6 hb e)))).2.1
  cases f with
  | next=>obtain ⟨σ7,H7,I7,n7⟩:=q7;exact again I7 n7
  | cont=>obtain ⟨σ7,H7,I7,n7⟩:=q7;exact again I7 n7
  | brk=>obtain ⟨σ7,H7,I7,q7⟩:=q7;exact ⟨σ7,H7,I7.unpinned,q7⟩
  | ret v=>obtain ⟨x7,σ7,H7,I7,r7,q7⟩:=q7;exact ⟨x7,σ7,H7,I7.unpinned,r7,q7⟩
end
variable {g:TG} {tb:TS} {D:Ends}
theorem zSh {K:PySem.W.Frag} (Pv:Nat->St->Hp->Prop) (h0:Pv 0 σ H) (hl : ∀ i σ H,i<=xs.length->Pv i σ H->SqL K H a xs)
  (hs : ∀ i x σ H,xs[i]? = some x->Pv i σ H->g x σ H fun σ2 H2=>tb { D with nx:=Pv (i+1),ct:=Pv (i+1),bk:=D.nx } σ2 H2) (hd : ∀ σ H,Pv xs.length σ H->D.nx σ H) :
  ∃ W:Nat->Nat->St->Hp->Prop,(∃ m,W 0 m σ H) /\ ∀ i m σ H,W i m σ H ->
   ((Itl K a).stop i H/\D.nx σ H)\/((Itl K a).go i H /\ ∃ N:St->Hp->Prop,(∀ σ' H',N σ' H' -> ∃ m',m' < m/\W (i+1) m' σ' H') /\ ∀ x H',(Itl K a).yld i H x H'->g x σ H' fun σ2 H2=>tb { D with nx:=N,ct:=N,bk:=D.nx } σ2 H2):=by
 refine ⟨fun i m σ H=>m=xs.length - i/\i<=xs.length/\Pv i σ H,⟨xs.length,by simp,zero_le _,h0⟩,?_⟩
 rintro i m σ H ⟨rfl,hi,p⟩
 have q:=hl i σ H hi p
 by_cases hlt:i < xs.length
 ·refine .inr ⟨⟨xs,xs[i],q,by simp [hlt]⟩,Pv (i+1),fun σ' H' p'=>⟨xs.length - (i+1),by omega,rfl,hlt,p'⟩,fun x H' y=>?_⟩
  obtain ⟨e,y⟩:=y
  subst e
  exact hs i x σ _ (y xs q) p
 ·have e:i=xs.length:=by omega
  subst e
  exact .inl ⟨⟨xs,q,le_refl _⟩,hd σ H p⟩
theorem zVV {K:PySem.W.Frag} (Pv:Nat->St->Hp->Prop) (h0:Pv 0 σ H) (hl : ∀ i σ H,i<=xs.length->Pv i σ H->SqT K H a xs)
  (hs : ∀ i x σ H,xs[i]? = some x->Pv i σ H->g x σ H fun σ2 H2=>tb { D with nx:=Pv (i+1),ct:=Pv (i+1),bk:=D.nx } σ2 H2) (hd : ∀ σ H,Pv xs.length σ H->D.nx σ H) :
  ∃ W:Nat->Nat->St->Hp->Prop,(∃ m,W 0 m σ H) /\ ∀ i m σ H,W i m σ H ->
   ((Itt K a).stop i H/\D.nx σ H)\/((Itt K a).go i H /\ ∃ N:St->Hp->Prop,(∀ σ' H',N σ' H' -> ∃ m',m' < m/\W (i+1) m' σ' H') /\ ∀ x H',(Itt K a).yld i H x H'->g x σ H' fun σ2 H2=>tb { D with nx:=N,ct:=N,bk:=D.nx } σ2 H2):=by
 refine ⟨fun i m σ H=>m=xs.length - i/\i<=xs.length/\Pv i σ H,⟨xs.length,by simp,zero_le _,h0⟩,?_⟩
 rintro i m σ H ⟨rfl,hi,p⟩
 have q:=hl i σ H hi p
 by_cases hlt:i < xs.length
 ·refine .inr ⟨⟨xs,xs[i],q,by simp [hlt]⟩,Pv (i+1),fun σ' H' p'=>⟨xs.length - (i+1),by omega,rfl,hlt,p'⟩,fun x H' y=>?_⟩
  obtain ⟨e,y⟩:=y
  subst e
  exact hs i x σ _ (y xs q) p
 ·have e:i=xs.length:=by omega
  subst e
  exact .inl ⟨⟨xs,q,le_refl _⟩,hd σ H p⟩
theorem zL8 {lo:Int} {n:Nat} (Pv:Nat->St->Hp->Prop) (h0:Pv 0 σ H)
  (hs : ∀ i σ H,i < n->Pv i σ H->g (.int (lo+i)) σ H fun σ2 H2=>tb { D with nx:=Pv (i+1),ct:=Pv (i+1),bk:=D.nx } σ2 H2) (hd : ∀ σ H,Pv n σ H->D.nx σ H) :
  ∃ W:Nat->Nat->St->Hp->Prop,(∃ m,W 0 m σ H) /\ ∀ i m σ H,W i m σ H ->
   ((Itr lo n).stop i H/\D.nx σ H)\/((Itr lo n).go i H /\ ∃ N:St->Hp->Prop,(∀ σ' H',N σ' H' -> ∃ m',m' < m/\W (i+1) m' σ' H') /\ ∀ x H',(Itr lo n).yld i H x H'->g x σ H' fun σ2 H2=>tb { D with nx:=N,ct:=N,bk:=D.nx } σ2 H2):=by
 refine ⟨fun i m σ H=>m=n - i/\i<=n/\Pv i σ H,⟨n,by simp,zero_le _,h0⟩,?_⟩
 rintro i m σ H ⟨rfl,hi,p⟩
 by_cases hlt:i < n
 ·refine .inr ⟨hlt,Pv (i+1),fun σ' H' p'=>⟨n - (i+1),by omega,rfl,hlt,p'⟩,fun x H' y=>?_⟩
  obtain ⟨e,y⟩:=y
  subst e y
  exact hs i σ _ hlt p
 ·have e:i=n:=by omega
  subst e
  exact .inl ⟨le_refl _,hd σ H p⟩
abbrev R2:=V->V->Hp->VK->Prop
def OpR (X:Cx) (f:Value->Value->Sem Value) (r:R2):Prop:=
 ∀ (pins:List (Addr × Obj)) (s:Shared) (σ:St) (H:Hp) (x y:V) (v u:Value) (Q:VK),Inv X pins σ H s->RelV x v->RelV y u->r x y H Q ->
  wpAny (model X.prog X.w) X.A (f v u) (EP X pins σ Q) X.xe s
def UnR (X:Cx) (f:Value->Sem Value) (r:V->Hp->VK->Prop):Prop:=
 ∀ (pins:List (Addr × Obj)) (s:Shared) (σ:St) (H:Hp) (x:V) (v:Value) (Q:VK),Inv X pins σ H s->RelV x v->r x H Q ->
  wpAny (model X.prog X.w) X.A (f v) (EP X pins σ Q) X.xe s
def zFV (X:Cx) (f:Value) (r:List V->Hp->VK->Prop):Prop:=
 ∀ (pins:List (Addr × Obj)) (s:Shared) (σ:St) (H:Hp) (xs:List V) (us:List Value) (Q:VK),Inv X pins σ H s->Vals xs us->r xs H Q ->
  wpAny (model X.prog X.w) X.A (call f us) (EP X pins σ Q) X.xe s
def tOp (r:R2) (ta tb:TE):TE:=fun σ H Q=>ta σ H fun x H1=>tb σ H1 fun y H2=>r x y H2 Q
def tUn (r:V->Hp->VK->Prop) (ta:TE):TE:=fun σ H Q=>ta σ H fun x H1=>r x H1 Q
def rI (C:Int->Int->Prop) (g:Int->Int->V):R2:=fun x y H Q=>∃ i j,x = .int i/\y = .int j/\C i j/\Q (g i j) H
def rI0 (g:Int->Int->V):R2:=fun x y H Q=>∃ i j,x = .int i/\y = .int j/\Q (g i j) H
def rU (g:Int->V):V->Hp->VK->Prop:=fun x H Q=>∃ i,x = .int i/\Q (g i) H
section
variable {X : Cx} {a b c : Expr} {ta tb tc : TE} {pos : Pos}
variable {f:Value->Value->Sem Value}
theorem binT (ha:PE X a ta) (hb:PE X b tb) {R:V->V->Hp->Prop} (I:Inv X pins σ H s)
  (h:ta σ H fun x H1=>tb σ H1 fun y H2=>R x y H2) {Q:Value->Shared->Prop}
  (hf : ∀ v u s2 x y H2,Inv X pins σ H2 s2->RelV x v->RelV y u->R x y H2->wpAny (model X.prog X.w) X.A (f v u) Q X.xe s2) :
  wpAny (model X.prog X.w) X.A (eval a X.env) (fun v s₁=>wpAny (model X.prog X.w) X.A (eval b X.env) (fun u s₂=>wpAny (model X.prog X.w) X.A (f v u) Q X.xe s₂) X.xe s₁) X.xe s:=by
 refine thn (ha pins s σ H _ I h) fun v s1 ⟨x,H1,I1,r1,q1⟩=>?_
 refine thn (hb pins s1 σ H1 _ I1 q1) fun u s2 ⟨y,H2,I2,r2,q2⟩=>?_
 exact hf v u s2 x y H2 I2 r1 r2 q2
theorem zAR {op:Operator} {r:R2} (ho:OpR X (binaryOp op) r) (ha:PE X a ta) (hb:PE X b tb):PE X (.BinOp a op b pos) (tOp r ta tb):=by
 intro pins s σ H Q I h
 exact wpAny_BinOp (binT ha hb I h fun v u s2 x y H2 I2 rx ry q=>ho pins s2 σ H2 x y v u Q I2 rx ry q)
theorem zPV {op:UnaryOp} {r:V->Hp->VK->Prop} (ho:UnR X (unaryOp op) r) (ha:PE X a ta):PE X (.UnaryOp op a pos) (tUn r ta):=by
 intro pins s σ H Q I h
 exact UnaryOp_ (thn (ha pins s σ H _ I h) fun v s1 ⟨x,H1,I1,r1,q1⟩=>ho pins s1 σ H1 x v Q I1 r1 q1)
theorem opI {C:Int->Int->Prop} {g:Int->Int->Int}
  (rule : ∀ (i j:Int) (t u:Tok) (s:Shared) (Q:Value->Shared->Prop) (E:Value->Shared->Prop),C i j->Q (.int (g i j) s.toks) { s with toks:=s.toks+1 }->wpAny (model X.prog X.w) X.A (f (.int i t) (.int j u)) Q E s) :
  OpR X f (rI C fun i j=>.int (g i j)):=by
 intro pins s σ H x y v u Q I rx ry h
 obtain ⟨i,j,rfl,rfl,hc,q⟩:=h
 obtain ⟨t,rfl⟩:=rx
 obtain ⟨t',rfl⟩:=ry
 exact rule i j t t' s _ _ hc ⟨.int (g i j),H,I.tok _,⟨_,rfl⟩,q⟩
theorem opI0 {g:Int->Int->Int}
  (rule : ∀ (i j:Int) (t u:Tok) (s:Shared) (Q:Value->Shared->Prop) (E:Value->Shared->Prop),Q (.int (g i j) s.toks) { s with toks:=s.toks+1 }->wpAny (model X.prog X.w) X.A (f (.int i t) (.int j u)) Q E s) :
  OpR X f (rI0 fun i j=>.int (g i j)):=by
 intro pins s σ H x y v u Q I rx ry h
 obtain ⟨i,j,rfl,rfl,q⟩:=h
 obtain ⟨t,rfl⟩:=rx
 obtain ⟨t',rfl⟩:=ry
 exact rule i j t t' s _ _ ⟨.int (g i j),H,I.tok _,⟨_,rfl⟩,q⟩
theorem opB0 {g:Int->Int->Bool}
  (rule : ∀ (i j:Int) (t u:Tok) (s:Shared) (Q:Value->Shared->Prop) (E:Value->Shared->Prop),Q (.bool (g i j)) s->wpAny (model X.prog X.w) X.A (f (.int i t) (.int j u)) Q E s) :
  OpR X f (rI0 fun i j=>.bl (g i j)):=by
 intro pins s σ H x y v u Q I rx ry h
 obtain ⟨i,j,rfl,rfl,q⟩:=h
 obtain ⟨t,rfl⟩:=rx
 obtain ⟨t',rfl⟩:=ry
 exact rule i j t t' s _ _ ⟨.bl (g i j),H,I,rfl,q⟩
def CPow (i j:Int):Prop:=0<=j/\j<=1000000/\i.natAbs < 2 ^ 64
def CMul (i j:Int):Prop:=(-(2 ^ 64) < i/\i < 2 ^ 64)\/(-(2 ^ 64) < j/\j < 2 ^ 64)
theorem CMul.ok {i j:Int} (h:CMul i j):IntMulOk i j:=by
 rcases h with ⟨h1,h2⟩ | ⟨h1,h2⟩
 ·exact .of_left (intBits_le_64 h1 h2)
 ·exact .of_right (intBits_le_64 h1 h2)
theorem two_pow_nn (k:Nat):(0:Int)<=2 ^ k:=by
 rw [two_pow_cast]
 exact Int.natCast_nonneg _
theorem zBA:OpR X (binaryOp .Add) (rI0 fun i j=>.int (i+j)):=opI0 fun _ _ _ _ _ _ _ q=>add_int q
theorem zCm:OpR X (binaryOp .Sub) (rI0 fun i j=>.int (i - j)):=opI0 fun _ _ _ _ _ _ _ q=>sub_int q
theorem zWl:OpR X (binaryOp .Mod) (rI (fun _ j=>0 < j) fun i j=>.int (i % j)):=opI fun i j _ _ _ _ _ hc q=>by
 have h1:(0:Int) < j:=hc
 exact mod_int' (by omega) (by rw [Int.fmod_eq_emod_of_nonneg i (by omega)];exact q)
theorem zVm:OpR X (binaryOp .Pow) (rI CPow fun i j=>.int (i ^ j.toNat)):=opI fun _ _ _ _ _ _ _ hc q=>pow_int_small hc.1 hc.2.1 hc.2.2 q
theorem zXT:OpR X (binaryOp .RShift) (rI (fun _ j=>0<=j) fun i j=>.int (i / 2 ^ j.toNat)):=opI fun i j _ _ _ _ _ hc q =>
 rshift_int hc (by rw [Int.fdiv_eq_ediv_of_nonneg i (two_pow_nn _)];exact q)
theorem unI {f:Value->Sem Value} {g:Int->Int}
  (rule : ∀ (i:Int) (t:Tok) (s:Shared) (Q:Value->Shared->Prop) (E:Value->Shared->Prop),Q (.int (g i) s.toks) { s with toks:=s.toks+1 }->wpAny (model X.prog X.w) X.A (f (.int i t)) Q E s) :
  UnR X f (rU fun i=>.int (g i)):=by
 intro pins s σ H x v Q I rx h
 obtain ⟨i,rfl,q⟩:=h
 obtain ⟨t,rfl⟩:=rx
 exact rule i t s _ _ ⟨.int (g i),H,I.tok _,⟨_,rfl⟩,q⟩
theorem zKy:UnR X (unaryOp .USub) (rU fun i=>.int (-i)):=unI fun _ _ _ _ _ q=>neg_int q
end
def scal:V->V->Bool
 | .non,.non=>true | .non,.int _=>true | .int _,.non=>true | .non,.bl _=>true | .bl _,.non=>true | .non,.str _=>true | .str _,.non=>true
 | .int _,.int _=>true | .bl _,.bl _=>true | .str _,.str _=>true | .byt _,.byt _=>true
 | .int _,.str _=>true | .str _,.int _=>true | .bl _,.str _=>true | .str _,.bl _=>true
 | _,_=>false
def rEq:R2:=fun x y H Q=>scal x y=true/\Q (.bl (decide (x=y))) H
def rNe:R2:=fun x y H Q=>scal x y=true/\Q (.bl (!decide (x=y))) H
theorem zRI {i j:Int}:decide (V.int i=V.int j)=(i == j):=by
 rw [Bool.eq_iff_iff]
 simp
theorem zTK {i j:Bool}:decide (V.bl i=V.bl j)=(i == j):=by
 rw [Bool.eq_iff_iff]
 simp
theorem zPz {i j:Str}:decide (V.str i=V.str j)=(i == j):=by
 rw [Bool.eq_iff_iff]
 simp
theorem zQI {i j:Array UInt8}:decide (V.byt i=V.byt j)=(i.toList == j.toList):=by
 rw [Bool.eq_iff_iff]
 cases i
 cases j
 simp
section
variable {X : Cx} {a b c : Expr} {ta tb tc : TE} {pos : Pos}
theorem zBk {Q:VK} {k k':Bool} (I:Inv X pins σ H s) (q:Q (.bl k) H) (e:k=k'):EP X pins σ Q (.bool k') s:=by
 subst e
 exact ⟨.bl k,H,I,rfl,q⟩
theorem zCl:OpR X (compareOp .Eq) rEq:=by
 intro pins s σ H x y v u Q I rx ry h
 obtain ⟨hs,q⟩:=h
 cases x with
 | non =>
  cases rx
  cases y with
  | non=>cases ry;exact PySem.EqNone.eq_none_none (zBk I q (by simp))
  | bl j=>cases ry;exact PySem.EqNone.eq_none_bool (zBk I q (by simp))
  | int j=>obtain ⟨t',rfl⟩:=ry;exact PySem.EqNone.eq_none_int (zBk I q (by simp))
  | str j=>obtain ⟨t',rfl⟩:=ry;exact PySem.EqNone.eq_none_str (zBk I q (by simp))
  | _=>exact absurd (show false=true from hs) Bool.false_ne_true
 | bl i =>
  cases rx
  cases y with
  | non=>cases ry;exact PySem.EqNone.eq_bool_none (zBk I q (by simp))
  | bl j=>cases ry;exact eq_bool (zBk I q zTK)
  | str j=>obtain ⟨t',rfl⟩:=ry;exact PySem.EqMixed.eq_bool_str (zBk I q (by simp))
  | _=>exact absurd (show false=true from hs) Bool.false_ne_true
 | int i =>
  obtain ⟨t,rfl⟩:=rx
  cases y with
  | non=>cases ry;exact PySem.EqNone.eq_int_none (zBk I q (by simp))
  | int j=>obtain ⟨t',rfl⟩:=ry;exact eq_int (zBk I q zRI)
  | str j=>obtain ⟨t',rfl⟩:=ry;exact PySem.EqMixed.eq_int_str (zBk I q (by simp))
  | _=>exact absurd (show false=true from hs) Bool.false_ne_true
 | str i =>
  obtain ⟨t,rfl⟩:=rx
  cases y with
  | non=>cases ry;exact PySem.EqNone.eq_str_none (zBk I q (by simp))
  | bl j=>cases ry;exact PySem.EqMixed.eq_str_bool (zBk I q (by simp))
  | int j=>obtain ⟨t',rfl⟩:=ry;exact PySem.EqMixed.eq_str_int (zBk I q (by simp))
  | str j=>obtain ⟨t',rfl⟩:=ry;exact eq_str (zBk I q zPz)
  | _=>exact absurd (show false=true from hs) Bool.false_ne_true
 | byt i =>
  obtain ⟨t,rfl⟩:=rx
  cases y with
  | byt j=>obtain ⟨t',rfl⟩:=ry;exact W.eq_bytes (zBk I q zQI)
  | _=>exact absurd (show false=true from hs) Bool.false_ne_true
 | _=>cases y <;> exact absurd (show false=true from hs) Bool.false_ne_true
theorem zIq:OpR X (compareOp .NotEq) rNe:=by
 intro pins s σ H x y v u Q I rx ry h
 obtain ⟨hs,q⟩:=h
 cases x with
 | non =>
  cases rx
  cases y with
  | non=>cases ry;exact PySem.EqNone.ne_none_none (zBk I q (by simp))
  | bl j=>cases ry;exact PySem.EqNone.ne_none_bool (zBk I q (by simp))
  | int j=>obtain ⟨t',rfl⟩:=ry;exact PySem.EqNone.ne_none_int (zBk I q (by simp))
  | str j=>obtain ⟨t',rfl⟩:=ry;exact PySem.EqNone.ne_none_str (zBk I q (by simp))
  | _=>exact absurd (show false=true from hs) Bool.false_ne_true
 | bl i =>
  cases rx
  cases y with
  | non=>cases ry;exact PySem.EqNone.ne_bool_none (zBk I q (by simp))
  | bl j=>cases ry;exact ne_bool (zBk I q (congrArg not zTK))
  | str j=>obtain ⟨t',rfl⟩:=ry;exact PySem.EqMixed.ne_bool_str (zBk I q (by simp))
  | _=>exact absurd (show false=true from hs) Bool.false_ne_true
 | int i =>
  obtain ⟨t,rfl⟩:=rx
  cases y with
  | non=>cases ry;exact PySem.EqNone.ne_int_none (zBk I q (by simp))
  | int j=>obtain ⟨t',rfl⟩:=ry;exact ne_int (zBk I q (congrArg not zRI))
  | str j=>obtain ⟨t',rfl⟩:=ry;exact PySem.EqMixed.ne_int_str (zBk I q (by simp))
  | _=>exact absurd (show false=true from hs) Bool.false_ne_true
 | str i =>
  obtain ⟨t,rfl⟩:=rx
  cases y with
  | non=>cases ry;exact PySem.EqNone.ne_str_none (zBk I q (by simp))
  | bl j=>cases ry;exact PySem.EqMixed.ne_str_bool (zBk I q (by simp))
  | int j=>obtain ⟨t',rfl⟩:=ry;exact PySem.EqMixed.ne_str_int (zBk I q (by simp))
  | str j=>obtain ⟨t',rfl⟩:=ry;exact ne_str (zBk I q (congrArg not zPz))
  | _=>exact absurd (show false=true from hs) Bool.false_ne_true
 | byt i =>
  obtain ⟨t,rfl⟩:=rx
  cases y with
  | byt j=>obtain ⟨t',rfl⟩:=ry;exact W.ne_bytes (zBk I q (congrArg not zQI))
  | _=>exact absurd (show false=true from hs) Bool.false_ne_true
 | _=>cases y <;> exact absurd (show false=true from hs) Bool.false_ne_true
theorem zPH:OpR X (compareOp .Lt) (rI0 fun i j=>.bl (decide (i < j))):=opB0 fun _ _ _ _ _ _ _ q=>lt_int q
theorem zOd:OpR X (compareOp .LtE) (rI0 fun i j=>.bl (decide (i<=j))):=opB0 fun _ _ _ _ _ _ _ q=>le_int q
theorem zIf:OpR X (compareOp .Gt) (rI0 fun i j=>.bl (decide (j < i))):=opB0 fun _ _ _ _ _ _ _ q=>gt_int q
theorem zTn:OpR X (compareOp .GtE) (rI0 fun i j=>.bl (decide (j<=i))):=opB0 fun _ _ _ _ _ _ _ q=>ge_int q
theorem zQV:OpR X (compareOp .In) (fun x y H Q=>∃ i j,x = .str i/\y = .str j/\Q (.bl (!(Builtin.Str.occurrences j i 0 j.length 1).isEmpty)) H):=by
 intro pins s σ H x y v u Q I rx ry h
 obtain ⟨i,j,rfl,rfl,q⟩:=h
 obtain ⟨t,rfl⟩:=rx
 obtain ⟨t',rfl⟩:=ry
 exact in_str (zBk I q rfl)
theorem zUc:OpR X (compareOp .IsNot) (fun x y H Q=>y = .non/\Q (.bl (!decide (x = .non))) H):=by
 intro pins s σ H x y v u Q I rx ry h
 obtain ⟨rfl,q⟩:=h
 cases ry
 refine isnot_none_gen (zBk I q ?_)
 cases x <;> first
  | (cases rx;rfl)
  | (obtain ⟨t,rfl⟩:=rx;rfl)
variable {op:CmpOp}
theorem zAZ (b:Expr) (h:op ≠ .In:=by decide) (h2:op ≠ .NotIn:=by decide):behindInMarks op b=false:=by
 have e1:(op == CmpOp.In)=false:=by cases op <;> first | rfl | exact absurd rfl h
 have e2:(op == CmpOp.NotIn)=false:=by cases op <;> first | rfl | exact absurd rfl h2
 cases b <;> simp [behindInMarks,e1,e2]
variable {r:R2}
theorem zBu (ho:OpR X (compareOp op) r) (ha:PE X a ta) (hb:PE X b tb) (hm:behindInMarks op b=false):PE X (.Compare a [op] [b] pos) (tOp r ta tb):=by
 intro pins s σ H Q I h
 exact wpAny_Compare1 (binT ha hb I h fun v u s2 x y H2 I2 rx ry q=>ho pins s2 σ H2 x y v u Q I2 rx ry q) hm
def zUx (t:TE):TT:=fun σ H Q=>t σ H fun x H'=>∃ k,x = .bl k/\Q k H'
theorem zAW (ho:OpR X (compareOp op) r) (ha:PE X a ta) (hb:PE X b tb) (hm:behindInMarks op b=false):PT X (.Compare a [op] [b] pos) (zUx (tOp r ta tb)):=by
 intro pins s σ H Q I h
 refine wpAny_isTrue_Compare1 (thn (ha pins s σ H _ I h) fun v s1 ⟨x,H1,I1,r1,q1⟩=>thn (hb pins s1 σ H1 _ I1 q1) fun u s2 ⟨y,H2,I2,r2,q2⟩ =>
  thn (ho pins s2 σ H2 x y v u _ I2 r1 r2 q2) fun c s3 ⟨z,H3,I3,r3,k,e,q3⟩=>?_) hm
 subst e
 cases r3
 exact wpAny_truthy_bool ⟨H3,I3,q3⟩
def zSv (r r':R2) (ta tb tc:TE):TE:=fun σ H Q=>ta σ H fun x H1=>tb σ H1 fun y H2=>r x y H2 fun z H3=>∃ k,z = .bl k /\
 (if k=true then tc σ H3 fun w' H4=>r' y w' H4 Q else Q (.bl false) H3)
theorem zLP {op':CmpOp} {r':R2} (ho:OpR X (compareOp op) r) (ho':OpR X (compareOp op') r') (ha:PE X a ta) (hb:PE X b tb) (hc:PE X c tc)
  (hm:lastMarks [op,op'] [b,c]=false:=by with_unfolding_all rfl):PT X (.Compare a [op,op'] [b,c] pos) (zUx (zSv r r' ta tb tc)):=by
 intro pins s σ H Q I h
 refine isTrue_chain (thn (ha pins s σ H _ I h) fun v s1 ⟨x,H1,I1,r1,q1⟩=>test_link (thn (hb pins s1 σ H1 _ I1 q1) fun u s2 ⟨y,H2,I2,r2,q2⟩ =>
  thn (ho pins s2 σ H2 x y v u _ I2 r1 r2 q2) fun d s3 ⟨z,H3,I3,r3,k,e,q3⟩=>?_)) hm
 subst e
 cases r3
 refine wpAny_truthy_bool ?_
 cases k with
 | false =>
  obtain ⟨k',e',q'⟩:=q3
  cases e'
  exact ite_ff ⟨H3,I3,q'⟩
 | true =>
  refine ite_tt (test_last (thn (hc pins s3 σ H3 _ I3 q3) fun w' s4 ⟨z',H4,I4,r4,q4⟩=>thn (ho' pins s4 σ H4 y z' u w' _ I4 r2 r4 q4) fun d' s5 ⟨z2,H5,I5,r5,k2,e2,q5⟩=>?_))
  subst e2
  cases r5
  exact wpAny_truthy_bool ⟨H5,I5,q5⟩
theorem zMJ:(sizeLine:Nat) < 2 ^ 63:=by rw [sizeLine_eq];decide
theorem zO5:OpR X (binaryOp .Add) (fun x y H Q=>∃ i j,x = .str i/\y = .str j/\i.length+j.length<=sizeLine/\Q (.str (i++j)) H):=by
 intro pins s σ H x y v u Q I rx ry h
 obtain ⟨i,j,rfl,rfl,hz,q⟩:=h
 obtain ⟨t,rfl⟩:=rx
 obtain ⟨t',rfl⟩:=ry
 exact add_str (fun t' tk=>⟨.str (i++j),H,I.tok _,⟨_,rfl⟩,q⟩) hz
theorem zNP (r:Vals [x] us) : ∃ u,us=[u]/\RelV x u:=by
 cases r with
 | cons r1 r2=>cases r2;exact ⟨_,rfl,r1⟩
theorem zSe (r:Vals [x,y] us) : ∃ u w',us=[u,w']/\RelV x u/\RelV y w':=by
 cases r with
 | cons r1 r2 =>
  cases r2 with
  | cons r3 r4=>cases r4;exact ⟨_,_,rfl,r1,r3⟩
theorem zRi:zFV X (.builtin "abs") (fun xs H Q=>∃ i,xs=[.int i]/\Q (.int (if i < 0 then -i else i)) H):=by
 intro pins s σ H xs us Q I r h
 obtain ⟨i,rfl,q⟩:=h
 obtain ⟨u,rfl,t,rfl⟩:=zNP r
 exact call_abs_int fun u tk=>⟨.int (if i < 0 then -i else i),H,I.tok _,⟨_,rfl⟩,q⟩
theorem zPp (hc:X.calm=true):zFV X (.builtin "max") (fun xs H Q=>∃ i j,xs=[.int i,.int j]/\Q (.int (if j > i then j else i)) H):=by
 intro pins s σ H xs us Q I r h
 obtain ⟨i,j,rfl,q⟩:=h
 obtain ⟨u,w',rfl,⟨t,rfl⟩,⟨t',rfl⟩⟩:=zSe r
 refine max_two_ints (I.ok.hd hc) fun h' tk k=>⟨_,H,I.kept k,?_,q⟩
 by_cases hj:j > i
 ·rw [if_pos hj,if_pos hj];exact ⟨_,rfl⟩
 ·rw [if_neg hj,if_neg hj];exact ⟨_,rfl⟩
theorem zQW (hc:X.calm=true):zFV X (.builtin "min") (fun xs H Q=>∃ i j,xs=[.int i,.int j]/\Q (.int (if j < i then j else i)) H):=by
 intro pins s σ H xs us Q I r h
 obtain ⟨i,j,rfl,q⟩:=h
 obtain ⟨u,w',rfl,⟨t,rfl⟩,⟨t',rfl⟩⟩:=zSe r
 refine min_two_ints (I.ok.hd hc) fun h' tk k=>⟨_,H,I.kept k,?_,q⟩
 by_cases hj:j < i
 ·rw [if_pos hj,if_pos hj];exact ⟨_,rfl⟩
 ·rw [if_neg hj,if_neg hj];exact ⟨_,rfl⟩
end
structure ObjM (h:Heap) (x dx C:Addr) (mA:Str->Option Value):Prop where
 obj:h.get? x=some (W.instObj C dx)
 ns:h.Ns1 dx mA
 ne:dx≠x
theorem zP5 {dx:Addr} {mA:Str->Option Value} (n:h.Ns1 dx mA) : ∃ od,h.get? dx=some od /\ ∀ name,W.lookIn name od=some (mA name):=by
 obtain ⟨o,es,ep,ho,hd,hk,_,hm⟩:=n
 refine ⟨o,ho,fun name=>?_⟩
 have e:=hm name
 unfold nsFind findBy at e
 rw [<- Array.find?_toList] at e
 unfold W.lookIn
 rw [hd]
 dsimp only
 split
 ·rename_i y q
  rw [q] at e
  exact congrArg some e
 ·rename_i q
  rw [q] at e
  have a:es.toList.any (·.refKey)=false:=by
   rw [List.any_eq_false]
   intro y hy
   obtain ⟨z,t,hkey⟩:=hk y (Array.mem_toList_iff.mp hy)
   simp [DictEntry.refKey,hkey]
  have a' : ¬ es.toList.any (·.refKey)=true:=by rw [a];exact Bool.false_ne_true
  rw [if_neg a']
  exact congrArg some e
variable {C:Addr}
theorem ObjM.look {x dx:Addr} {mA:Str->Option Value} (I:ObjM h x dx C mA) : ∃ od,W.InstAt h x (W.instObj C dx) C (some od) /\ ∀ name,W.lookIn name od=some (mA name):=
 let ⟨od,ho,hl⟩:=zP5 I.ns
 ⟨od,⟨I.obj,rfl,rfl,ho⟩,hl⟩
section
variable {prog : Program} {w : World} {A : Around} {E : Value -> Shared -> Prop} {s : Shared} {K : W.Frag} {x dx C f : Addr} {mA : Str -> Option Value} {name : Str} {v : Value}
theorem zU9 {expr:Bool} {Q:Value->Shared->Prop} (X:K.In s.heap) (I:ObjM s.heap x dx C mA) (hg:W.plainGet K C name=true) (hh:W.hasDictIn K C=true)
  (ha:W.findIn K (.ref C) name=some none) (hv:mA name=some v) (hv':W.handedIn v=true) (h:Q v { s with toks:=s.toks+1 }) :
  wpAny (model prog w) A (getAttr (.ref x) name expr) Q E s:=by
 obtain ⟨od,J,hl⟩:=I.look
 exact W.get_value X J (W.plainGet_of hg).1 (W.findObj_own hh ha rfl (by rw [hl,hv])) hv' h
theorem zSW {pl:Sem Bool} {Q:Value × List Value->Shared->Prop} (X:K.In s.heap) (I:ObjM s.heap x dx C mA) (hg:W.plainGet K C name=true)
  (hf:W.findIn K (.ref C) name=some (some (.ref f))) (ht:W.isFn K (.ref f)=true) (hv:mA name=none) (h:Q (.ref f,[.ref x]) s) :
  wpAny (model prog w) A (getMethod (.ref x) name pl) Q E s:=by
 obtain ⟨od,J,hl⟩:=I.look
 exact W.method_fn X J (W.plainGet_of hg).1 (W.plainGet_of hg).2 hf (beq_iff_eq.mp ht) (by show (W.lookIn name od).map (·.isSome)=some false;rw [hl,hv];rfl) h
theorem zUC {ns:List Str} (X:K.In s.heap) (I:ObjM s.heap x dx C mA)
  (hs:W.findIn K (.ref C) "__setattr__" = some (some (.builtin "object.__setattr__"))) (hp:W.plainOver K C=true) (ht:W.takerIn K C name=some none) (hh:W.hasDictIn K C=true)
  (hw:PySem.Within mA ns) (hsz:ns.length<=sizeLine)
  (h : ∀ h',ObjM h' x dx C (fun y=>if y=name then some v else mA y)->Heap.SameBut dx s.heap h'->Q () { s with heap:=h',toks:=s.toks+2 }) :
  wpAny (model prog w) A (setAttr (.ref x) name v) Q E s:=by
 obtain ⟨od,J,hl⟩:=I.look
 refine W.set_plain X J hs (W.osa_open (s:={ s with toks:=s.toks+1 }) (r:=none) X J hp ht fun b=>?_)
 obtain ⟨cd,hc,hd'⟩:=W.any_some hh
 have hx:s.heap.get? x=some ⟨.ref C,some dx,.plain,#[]⟩:=I.obj
 refine wpAny_bind (wpAny_pure (wpAny_bind (wpAny_bind (wpAny_loadPart hx (wpAny_bind (W.Looks.here (s:={ s with toks:=s.toks+1 }) (W.looks_clsIn X hc) ?_))))))
 rw [hd']
 refine wpAny_pure (a:=some dx) (wpAny_bind (wpAny_pure (wpAny_bind ?_)))
 refine wpAny_nsSet1 (s:={ s with toks:=s.toks+1 }) I.ns fun h' hn2 hs2=>?_
 obtain ⟨oD,esD,epD,hoD,hdD,hcD⟩:=hn2.count (PySem.Within.cons name v hw)
 refine wpAny_bind (wpAny_lookBehind hoD (by rw [hdD];exact pastItsLine_dict (le_trans hcD (by rw [length_cons];omega))) ?_)
 exact wpAny_pure (h _ ⟨(hs2.2 _ (Ne.symm I.ne)).trans I.obj,hn2,I.ne⟩ hs2)
theorem zSU {R:Result->Shared->Prop} {vs:List Value} {kw:List (Str × Value)} (X:K.In s.heap) (hm:W.makesIn K C=true)
  (hi:W.findIn K (.ref C) "__init__" = some (some (.ref f))) (hf:W.typeIn K (.ref f)=some (.type "function"))
  (h:codeAny (model prog w) (A.under (.builtin "type.__call__" ⟨.ref C::vs,kw⟩)) (.call (.ref f) ⟨.ref (s.heap.objs.size+1)::vs,kw⟩) (W.InitBack (s.heap.objs.size+1) R)
   { s with heap:=(s.heap.push W.emptyDict).push (W.instObj C s.heap.objs.size) }) :
  codeAny (model prog w) A (.call (.ref C) ⟨vs,kw⟩) R s:=by
 obtain ⟨hh,g,d,t,os⟩:=s
 exact W.make_core (W.makes_of X hm) (W.looks_findIn X hi) (fun self=>W.bind_fn X self hf) (.inl rfl) h
end
def putF (f:Str) (v:V):List (Str × V)->List (Str × V)
 | []=>[(f,v)]
 | (g,x)::r=>if g=f then (g,v)::r else (g,x)::putF f v r
theorem zKA (f g:Str) (v:V) : ∀ fs:List (Str × V),(putF f v fs).lookup g=if g=f then some v else fs.lookup g
 | []=>by
  show List.lookup g [(f,v)]=_
  by_cases h:g=f
  ·have hb:(g == f)=true:=beq_iff_eq.mpr h
   simp only [List.lookup,hb,if_pos h]
  ·have hb:(g == f)=false:=beq_eq_false_iff_ne.mpr h
   simp only [List.lookup,hb,if_neg h]
 | (k,x)::r=>by
  have ih:=zKA f g v r
  rw [show putF f v ((k,x)::r)=(if k=f then (k,v)::r else (k,x)::putF f v r) from rfl]
  by_cases hk:k=f
  ·rw [if_pos hk]
   by_cases h:g=k
   ·have hb:(g == k)=true:=beq_iff_eq.mpr h
    simp only [List.lookup,hb,if_pos (h.trans hk)]
   ·have hb:(g == k)=false:=beq_eq_false_iff_ne.mpr h
    simp only [List.lookup,hb,if_neg (fun e:g=f=>h (e.trans hk.symm))]
  ·rw [if_neg hk]
   by_cases h:g=k
   ·have hb:(g == k)=true:=beq_iff_eq.mpr h
    simp only [List.lookup,hb,if_neg (fun e:g=f=>hk (h.symm.trans e))]
   ·have hb:(g == k)=false:=beq_eq_false_iff_ne.mpr h
    simp only [List.lookup,hb]
    exact ih
theorem zJ9 (f:Str) (v:V) : ∀ fs:List (Str × V),f ∈ (putF f v fs).map (·.1) /\ ∀ g,g ∈ fs.map (·.1)->g ∈ (putF f v fs).map (·.1)
 | []=>⟨by simp [putF],fun g h=>by simp at h⟩
 | (k,x)::r=>by
  obtain ⟨i1,i2⟩:=zJ9 f v r
  rw [show putF f v ((k,x)::r)=(if k=f then (k,v)::r else (k,x)::putF f v r) from rfl]
  by_cases hk:k=f
  ·rw [if_pos hk]
   subst hk
   exact ⟨by simp,fun g h=>by simpa using h⟩
  ·rw [if_neg hk]
   refine ⟨?_,fun g h=>?_⟩
   ·rw [List.map_cons]
    exact mem_cons_of_mem _ i1
   ·rw [List.map_cons] at h ⊢
    rcases List.mem_cons.mp h with e | e
    ·exact List.mem_cons.mpr (.inl e)
    ·exact mem_cons_of_mem _ (i2 g e)
theorem zJp (f:Str) (v:V) : ∀ fs:List (Str × V),(putF f v fs).length<=fs.length+1
 | []=>by simp [putF]
 | (k,x)::r=>by
  have ih:=zJp f v r
  rw [show putF f v ((k,x)::r)=(if k=f then (k,v)::r else (k,x)::putF f v r) from rfl]
  by_cases hk:k=f
  ·rw [if_pos hk,length_cons,length_cons];omega
  ·rw [if_neg hk,length_cons,length_cons];omega
theorem RelO.some_of {v:V} {o:Option Value} (r:RelO (some v) o) : ∃ u,o=some u/\RelV v u:=by
 cases o with
 | none=>exact (show False from r).elim
 | some u=>exact ⟨u,rfl,r⟩
theorem RelO.none_of {o:Option Value} (r:RelO none o):o=none:=by
 cases o with
 | none=>rfl
 | some u=>exact (show False from r).elim
theorem zQJ {v:V} {u:Value} (r:RelV v u):W.handedIn u=true:=by
 cases v with
 | non=>cases (show u=Value.none from r);rfl
 | bl b=>cases (show u=Value.bool b from r);rfl
 | int i=>obtain ⟨t,e⟩:=(show ∃ t,u=Value.int i t from r);cases e;rfl
 | str x=>obtain ⟨t,e⟩:=(show ∃ t,u=Value.str x t from r);cases e;rfl
 | byt b=>obtain ⟨t,e⟩:=(show ∃ t,u=Value.bytes b t from r);cases e;rfl
 | flt b=>obtain ⟨t,e⟩:=(show ∃ t,u=Value.float b t from r);cases e;rfl
 | ref a=>cases (show u=Value.ref a from r);rfl
 | ty n=>cases (show u=Value.type n from r);rfl
section
variable {P : Program} {w : World} {H H' : Hp} {h h' : Heap} {a C dx : Addr} {fs fs' : List (Str × V)}
theorem zLE (hok:HOk P w H h) (e:H a=some (.ins C dx fs)) : ∃ mA,ObjM h a dx C mA/\(∀ f,RelO (fs.lookup f) (mA f))/\PySem.Within mA (fs.map (·.1))/\fs.length<=1000/\H dx=some (.own a):=by
 obtain ⟨d,z,ne,ob,mA,n,r,q⟩:=(show zD7 P w H h a (.ins C dx fs) from hok a _ e)
 exact ⟨mA,⟨ob,n,ne⟩,r,q,z,d⟩
end
structure Cls (K:W.Frag) (C:Addr):Prop where
 pg:W.plainGet K C Str.empty=true
 hd:W.hasDictIn K C=true
 po:W.plainOver K C=true
 sa:W.findIn K (.ref C) "__setattr__" = some (some (.builtin "object.__setattr__"))
theorem Cls.get (c:Cls K C) (f:Str):W.plainGet K C f=true:=c.pg
def zF9 (K:W.Frag) (C:Addr) (f:Str):Prop:=W.findIn K (.ref C) f=some none
theorem zF9.taker {f:Str} (n:zF9 K C f):W.takerIn K C f=some none:=by
 unfold W.takerIn
 rw [show W.findIn K (.ref C) f=some none from n]
 rfl
structure Con (K:W.Frag) (C:Addr) (f:Str) (v:V) (u:Value):Prop where
 at_:W.findIn K (.ref C) f=some (some u)
 rel:RelV v u
 get:W.specialIn K u "__get__" = some none
 cp:W.copiedNames.contains f=false
structure Meth (K:W.Frag) (C:Addr) (m:Str) (f:Addr):Prop where
 at_:W.findIn K (.ref C) m=some (some (.ref f))
 fn:W.isFn K (.ref f)=true
 kp:W.keepIn K (.ref f)=true
section
variable {X : Cx} {pins : List (Addr × Obj)} {σ : St} {H : Hp} {s : Shared} {a C dx : Addr} {fs : List (Str × V)} {f : Str} {v : V} {A : Around} {E : Value -> Shared -> Prop}
theorem zOt {b:Bool} {Q:Value->Shared->Prop} (I:Inv X pins σ H s) (e:H a=some (.ins C dx fs)) (c:Cls X.K C) (n:zF9 X.K C f) (l:fs.lookup f=some v)
  (h : ∀ u s',Inv X pins σ H s'->RelV v u->Q u s'):wpAny (model X.prog X.w) A (getAttr (.ref a) f b) Q E s:=by
 obtain ⟨mA,O,r,_,_,_⟩:=zLE I.hok e
 obtain ⟨u,hu,ru⟩:=RelO.some_of (v:=v) (o:=mA f) (by rw [<- l];exact r f)
 exact zU9 I.kIn O (c.get f) c.hd n hu (zQJ ru) (h u _ (I.tok _) ru)
theorem zKp {m:Str} {g:Addr} {pl:Sem Bool} {Q:Value × List Value->Shared->Prop} (I:Inv X pins σ H s) (e:H a=some (.ins C dx fs)) (c:Cls X.K C) (k:Meth X.K C m g) (l:fs.lookup m=none)
  (h:Q (.ref g,[.ref a]) s):wpAny (model X.prog X.w) A (getMethod (.ref a) m pl) Q E s:=by
 obtain ⟨mA,O,r,_,_,_⟩:=zLE I.hok e
 have hn:mA m=none:=RelO.none_of (by rw [<- l];exact r m)
 exact zSW I.kIn O (c.get m) k.at_ k.fn hn h
theorem zOv {u:Value} (I:Inv X pins σ H s) (e:H a=some (.ins C dx fs)) (c:Cls X.K C) (n:zF9 X.K C f) (hl:fs.length < 1000) (ry:RelV y u)
  (h : ∀ s',Inv X pins σ (upd H a (.ins C dx (putF f y fs))) s'->Q () s'):wpAny (model X.prog X.w) A (setAttr (.ref a) f u) Q E s:=by
 obtain ⟨mA,O,r,wi,_,ho⟩:=zLE I.hok e
 have hz:(fs.map (·.1)).length<=sizeLine:=by rw [List.length_map,sizeLine_eq];omega
 refine zUC I.kIn O c.sa c.po n.taker c.hd wi hz fun h' O' sb=>h _ ?_
 have hd : ∃ o,h'.get? dx=some o:=let ⟨o,_,_,e',_⟩:=O'.ns;⟨o,e'⟩
 refine I.write (x:=a) (e:=dx) (by rw [e];exact True.intro) (.inr ho) (fun b q hb z=>(sb.2 b hb).trans z) hd ?_
 refine ⟨by rw [zBY O.ne];exact ho,?_,O.ne,O'.obj,_,O'.ns,fun g=>?_,fun g hg=>?_⟩
 ·have:=zJp f y fs;omega
 ·show RelO ((putF f y fs).lookup g) (if g=f then some u else mA g)
  rw [zKA]
  by_cases q:g=f
  ·rw [if_pos q,if_pos q];exact ry
  ·rw [if_neg q,if_neg q];exact r g
 ·by_cases q:g=f
  ·rw [q];exact (zJ9 f y fs).1
  ·refine (zJ9 f y fs).2 g (wi g fun z=>hg ?_)
   show (if g=f then some u else mA g)=none
   rw [if_neg q];exact z
theorem Inv.made (I:Inv X pins σ H s):Inv X pins σ (upd (upd H s.heap.objs.size (.own (s.heap.objs.size+1))) (s.heap.objs.size+1) (.ins C s.heap.objs.size []))
  { s with heap:=(s.heap.push W.emptyDict).push (W.instObj C s.heap.objs.size) }:=by
 have e1:(s.heap.push W.emptyDict).get? s.heap.objs.size=some W.emptyDict:=Heap.get?_push_size s.heap rfl
 have e2:((s.heap.push W.emptyDict).push (W.instObj C s.heap.objs.size)).get? (s.heap.objs.size+1)=some (W.instObj C s.heap.objs.size):=by
  have:=Heap.get?_push_size (s.heap.push W.emptyDict) (o:=W.instObj C s.heap.objs.size) rfl
  rwa [Heap.size_push] at this
 have e3:(s.heap.push W.emptyDict).Ns s.heap.objs.size (fun _=>none):=⟨W.emptyDict,#[],_,e1,rfl,(fun e he=>absurd he (by simp)),fun _=>rfl⟩
 have I1:=I.laid (a:=s.heap.objs.size) (o:=.own (s.heap.objs.size+1)) (h':=s.heap.push W.emptyDict) (t':=s.toks) (fun b u q=>Heap.get?_push_of_some _ q) (le_refl _) ⟨_,e1⟩
 refine I1.laid (a:=s.heap.objs.size+1) (o:=.ins C s.heap.objs.size []) (t':=s.toks) (fun b u q=>Heap.get?_push_of_some _ q) (Nat.le_of_eq (Heap.size_push _ _)) ?_
 have ne:s.heap.objs.size≠s.heap.objs.size+1:=ne_of_lt (Nat.lt_succ_self _)
 refine ⟨by rw [zBY ne,zAU],zero_le _,ne,e2,fun _=>none,(Heap.Ns1.of_empty e3).at fun o q=>Heap.get?_push_of_some _ q,fun _=>True.intro,fun y hy=>absurd rfl hy⟩
theorem zTs {prog:Program} {env:Env} {pos:Pos} {Q:Value->Shared->Prop} (hb:attributeBase e f env (eval e env)=eval e env)
  (h:wpAny (model prog w) A (eval e env) (fun o s₁=>wpAny (model prog w) A (getAttr o f true) Q E s₁) E s):wpAny (model prog w) A (eval (.Attribute e f pos) env) Q E s:=
 Attribute_any_ h (by rw [arm_eval_Attribute,hb])
end
def tFld (K:W.Frag) (ta:TE) (f:Str):TE:=fun σ H Q=>ta σ H fun x H1=>∃ a C dx fs v,x = .ref a/\H1 a=some (.ins C dx fs)/\Cls K C/\zF9 K C f/\fs.lookup f=some v/\Q v H1
def sFld (K:W.Frag) (ta tv:TE) (f:Str):TS:=fun D σ H=>tv σ H fun y H1=>ta σ H1 fun x H2=>∃ a C dx fs,x = .ref a/\H2 a=some (.ins C dx fs)/\Cls K C/\zF9 K C f/\fs.length < 1000 /\
 D.nx σ (upd H2 a (.ins C dx (putF f y fs)))
section
variable {X : Cx} {o e value : Expr} {f : Str} {pos pos' tpos : Pos} {ta tv : TE}
theorem zAg (he:PE X e ta) (hb:attributeBase e f X.env (eval e X.env)=eval e X.env):PE X (.Attribute e f pos) (tFld X.K ta f):=by
 intro pins s σ H Q I h
 refine zTs hb (thn (he pins s σ H _ I h) fun u s1 ⟨x,H1,I1,rx,a,C,dx,fs,v,ex,ea,c,n,l,q⟩=>?_)
 subst ex
 obtain rfl:u=Value.ref a:=rx
 exact zOt I1 ea c n l fun u' s2 I2 ru=>⟨v,H1,I2,ru,q⟩
theorem zDz (ha:PE X o ta) (hv:PE X value tv) (hs:swapsWith value (some (.Attribute o f pos')) pos.line X.env=pure false):PS X (.Assign [.Attribute o f pos'] value pos) (sFld X.K ta tv f):=by
 intro pins s σ H D I h
 refine plainObj_wpAny_Assign_Attribute (thn (hv pins s σ H _ I h) fun u s1 ⟨y,H1,I1,ry,q⟩=>thn (ha pins s1 σ H1 _ I1 q) fun ov s2 ⟨x,H2,I2,rx,a,C,dx,fs,ex,ea,c,n,l,q2⟩=>?_) hs
 subst ex
 obtain rfl:ov=Value.ref a:=rx
 exact zOv I2 ea c n l ry fun s3 I3=>⟨σ,_,I3,q2⟩
theorem zVH {pl:Sem Bool} {m:Str} {apos:Pos} {args:List Expr} {Q:Value->Shared->Prop} {te:TE} (he:PE X e te) (I:Inv X pins σ H s)
  (h:te σ H fun x H1=>∃ a C dx fs g,x = .ref a/\H1 a=some (.ins C dx fs)/\Cls X.K C/\Meth X.K C m g/\fs.lookup m=none /\
   ∀ s1,Inv X pins σ H1 s1->wpAny (model X.prog X.w) X.A (callWith pos (.ref g) [.ref a] (backTo pos (starEach args X.env)) (backToKw pos (keywordEach [] X.env))) Q X.xe s1)
  (ht:eval (.Call (.Attribute e m apos) args [] pos) X.env=(do
   let ov <- eval e X.env
   standAt apos.atName
   let (f,first) <- holding [ov] (getMethod ov m pl)
   callWith pos f first (backTo pos (starEach args X.env)) (backToKw pos (keywordEach [] X.env)))) :
  wpAny (model X.prog X.w) X.A (eval (.Call (.Attribute e m apos) args [] pos) X.env) Q X.xe s:=by
 refine W.methodCall_KW (pl:=pl) (thn (he pins s σ H _ I h) fun u s1 ⟨x,H1,I1,rx,a,C,dx,fs,g,ex,ea,c,k,l,q⟩=>?_) ht
 subst ex
 obtain rfl:u=Value.ref a:=rx
 exact zKp I1 ea c k l (q s1 I1)
end
section
variable {X : Cx} {pins : List (Addr × Obj)} {σ : St} {H : Hp} {s : Shared} {A : Around} {E : Value -> Shared -> Prop} {Q : Value -> Shared -> Prop} {c : Value} {b : Bool}
inductive TyOf (K:W.Frag) (H:Hp):V->Value->Prop where
 | non:TyOf K H .non (.type "NoneType")
 | bl (x:Bool):TyOf K H (.bl x) (.type "bool")
 | int (i:Int):TyOf K H (.int i) (.type "int")
 | str (x:Str):TyOf K H (.str x) (.type "str")
 | flt (x:UInt64):TyOf K H (.flt x) (.type "float")
 | lst {a:Addr} {xs:List V} (e:H a=some (.lst xs)):TyOf K H (.ref a) (.type "list")
 | frz {a:Addr} {o:Obj} {xs:List V} (e:H a=some (.frz o (.lst xs))):TyOf K H (.ref a) (.type "list")
 | tup {a:Addr} {xs:List V} (e:H a=some (.tup xs)):TyOf K H (.ref a) (.type "tuple")
 | dK {a:Addr} {kvs:List (Key × V)} (e:H a=some (.dK kvs)):TyOf K H (.ref a) (.type "dict")
 | dT {a:Addr} {kvs:List (List Key × V)} (e:H a=some (.dT kvs)):TyOf K H (.ref a) (.type "dict")
 | ins {a C dx:Addr} {fs:List (Str × V)} (e:H a=some (.ins C dx fs)) (cl:Cls K C) (ha:W.findIn K (.ref C) "__class__" = some (some (.builtin "object.__class__")))
   (hn:W.specialIn K (.builtin "object.__class__") "__get__" = some (some (.builtin "getset_descriptor.__get__"))) (htk:W.takesIn K (.builtin "object.__class__")=some true)
   (hm:W.mroIn K C (.type "object")=some true):TyOf K H (.ref a) (.ref C)
theorem zQ4 {u t:Value} (I:Inv X pins σ H s) (rx:RelV x u) (ty:TyOf X.K H x t) (e:W.kitOne X.K t c=some b) (h : ∀ tk,Q (.bool b) { s with toks:=tk }) :
  wpAny (model X.prog X.w) A (call (.builtin "isinstance") [u,c]) Q E s:=by
 cases ty with
 | non=>cases (show u=Value.none from rx);exact W.kia_one W.kitx_none I.kIn True.intro e (fun z=>nomatch z) h
 | bl y=>cases (show u=Value.bool y from rx);exact W.kia_one W.kitx_bool I.kIn True.intro e (fun z=>nomatch z) h
 | int i=>obtain ⟨t,q⟩:=(show ∃ t,u=Value.int i t from rx);cases q;exact W.kia_one W.kitx_int I.kIn True.intro e (fun z=>nomatch z) h
 | str y=>obtain ⟨t,q⟩:=(show ∃ t,u=Value.str y t from rx);cases q;exact W.kia_one W.kitx_str I.kIn True.intro e (fun z=>nomatch z) h
 | flt y=>obtain ⟨t,q⟩:=(show ∃ t,u=Value.float y t from rx);cases q;exact W.kia_one W.kitx_float I.kIn True.intro e (fun z=>nomatch z) h
 | @lst a xs ea =>
  cases (show u=Value.ref a from rx)
  obtain ⟨_,_,n,_,h1⟩:=(show zD7 X.prog X.w H s.heap a (.lst xs) from I.hok a _ ea)
  exact W.kia_one W.kitx_list I.kIn ⟨_,h1,rfl⟩ e (fun z=>nomatch z) h
 | @frz a ob xs ea =>
  cases (show u=Value.ref a from rx)
  obtain ⟨_,_,_,n,_,h1⟩:=(show zD7 X.prog X.w H s.heap a (.frz ob (.lst xs)) from I.hok a _ ea)
  exact W.kia_one W.kitx_list I.kIn ⟨_,h1,rfl⟩ e (fun z=>nomatch z) h
 | @tup a xs ea =>
  cases (show u=Value.ref a from rx)
  obtain ⟨_,_,_,p⟩:=(show zD7 X.prog X.w H s.heap a (.tup xs) from I.hok a _ ea)
  obtain ⟨o,h1,h2,_⟩:=p
  exact W.kia_one W.kitx_tuple I.kIn ⟨o,h1,h2⟩ e (fun z=>nomatch z) h
 | @dK a kvs ea =>
  cases (show u=Value.ref a from rx)
  obtain ⟨_,_,vs,_,p⟩:=(show zD7 X.prog X.w H s.heap a (.dK kvs) from I.hok a _ ea)
  obtain ⟨o,es,ep,h1,h2,_⟩:=p
  exact W.kia_one W.kitx_dict I.kIn ⟨o,h1,h2.1⟩ e (fun z=>nomatch z) h
 | @dT a kvs ea =>
  cases (show u=Value.ref a from rx)
  obtain ⟨_,_,xs,_,o,es,ep,h1,h2,_⟩:=(show zD7 X.prog X.w H s.heap a (.dT kvs) from I.hok a _ ea)
  exact W.kia_one W.kitx_dict I.kIn ⟨o,h1,h2.1⟩ e (fun z=>nomatch z) h
 | @ins a C dx fs ea cl ha hn htk hm =>
  cases (show u=Value.ref a from rx)
  obtain ⟨mA,O,_⟩:=zLE I.hok ea
  obtain ⟨od,J,_⟩:=O.look
  exact W.kia_one (W.kitx_own (cl.get _) cl.hd ha hn htk hm) I.kIn J e (fun z=>nomatch z) h
end
structure Room (k:Nat) (A:Around):Prop where
 hd:A.handled=none
 dp:A.depth+3*k+5 < recursionLimit
 un:A.units+16*k+200 < cLine
variable {k:Nat}
theorem Room.mono {j:Nat} (r:Room k A) (h:j<=k):Room j A:=⟨r.hd,by have:=r.dp;omega,by have:=r.un;omega⟩
theorem Room.deeper (r:Room (k+1) A) (env:Env):Room k (A.deeper env):=
 ⟨r.hd,by have:=r.dp;show A.depth+1+3*k+5 < _;omega,by have:=r.un;show A.units+3+16*k+200 < _;omega⟩
theorem Room.in1 (r:Room (k+1) A):Room k A.in1:=
 ⟨r.hd,by have:=r.dp;show A.depth+3*k+5 < _;omega,by have:=r.un;show A.units+1+16*k+200 < _;omega⟩
theorem zOc {kw:List (Str × Value)}:(A.under (.builtin "type.__call__" ⟨.ref C::us,kw⟩)).depth=A.depth+1:=by
 first | rfl | simp [Around.under,Code.weight,Code.isCreation,Code.isGuard,Code.isCaller,Code.frames,Code.isFrame,guardIds]
theorem zPT {kw:List (Str × Value)}:(A.under (.builtin "type.__call__" ⟨.ref C::us,kw⟩)).units=A.units+1:=by
 first | rfl | simp [Around.under,Code.cUnits,Code.frames,Code.isFrame]
theorem Room.make (r:Room (k+1) A) (C:Addr) (us:List Value) (kw:List (Str × Value)):Room k (A.under (.builtin "type.__call__" ⟨.ref C::us,kw⟩)):=
 ⟨r.hd,by have:=r.dp;rw [zOc];omega,by have:=r.un;rw [zPT];omega⟩
theorem Room.depth (r:Room k A):A.depth < recursionLimit:=by have:=r.dp;omega
theorem Room.units (r:Room k A):A.units+64 < cLine:=by have:=r.un;omega
def tNil:TA:=fun _ H Q=>Q [] H
def zWa (ta:TE) (tr:TA):TA:=fun σ H Q=>ta σ H fun x H1=>tr σ H1 fun xs H2=>Q (x::xs) H2
section
variable {X : Cx} {e : Expr} {es : List Expr} {te : TE} {t : TA} {pos : Pos}
theorem zAE:PA X [] tNil:=fun _ _ _ _ H Q I h=>Calls.spliced_nil ⟨[],H,I,.nil,h⟩
theorem zAA (ha:PE X e te) (hr:PA X es t) (hs:starEach (e::es) X.env=(false,eval e X.env)::starEach es X.env:=by rfl):PA X (e::es) (zWa te t):=by
 intro pos pins s σ H Q I h
 rw [hs]
 show wpAny _ _ (spliced ((false,eval e X.env)::backTo pos (starEach es X.env))) _ _ s
 refine Calls.spliced_cons (thn (ha pins s σ H _ I h) fun u s1 ⟨x,H1,I1,r1,q1⟩=>?_)
 exact thn (hr pos pins s1 σ H1 _ I1 q1) fun us s2 ⟨xs,H2,I2,r2,q2⟩=>⟨x::xs,H2,I2,.cons r1 r2,q2⟩
def tTup (t:TA):TE:=fun σ H Q=>t σ H fun xs H1=>xs.length<=sizeLine /\ ∀ p,H1 p=none->Q (.ref p) (upd H1 p (.tup xs))
def tLst (t:TA):TE:=fun σ H Q=>t σ H fun xs H1=>xs.length<=sizeLine /\ ∀ p,H1 p=none->Q (.ref p) (upd H1 p (.lst xs))
theorem zFI {x1} (h:PA X es t):PE X (.Tuple es x1 pos) (tTup t):=by
 intro pins s σ H Q I hq
 refine wpAny_Tuple_spliced (thn (h pos pins s σ H _ I hq) fun us s1 ⟨xs,H1,I1,r,z,q⟩=>⟨by rw [<- r.length];exact z,?_⟩)
 have hf:H1 s1.heap.objs.size=none:=I1.hok.fresh (le_refl _)
 refine ⟨.ref s1.heap.objs.size,upd H1 s1.heap.objs.size (.tup xs),I1.laid (t':=s1.toks) (fun b u e=>Heap.get?_push_of_some _ e) (le_refl _) ?_,rfl,q _ hf⟩
 exact ⟨z,us,r,⟨_,Heap.get?_push_size _ rfl,rfl,_,rfl⟩⟩
theorem zA1 (h:PA X es t):PE X (.List es pos) (tLst t):=by
 intro pins s σ H Q I hq
 refine wpAny_List_spliced (thn (h pos pins s σ H _ I hq) fun us s1 ⟨xs,H1,I1,r,z,q⟩=>⟨by rw [<- r.length];exact z,?_⟩)
 have hf:H1 s1.heap.objs.size=none:=I1.hok.fresh (le_refl _)
 refine ⟨.ref s1.heap.objs.size,upd H1 s1.heap.objs.size (.lst xs),I1.laid (t':=s1.toks) (fun b u e=>Heap.get?_push_of_some _ e) (le_refl _) ?_,rfl,q _ hf⟩
 exact ⟨z,us,0,r,Heap.get?_push_size _ rfl⟩
end
abbrev Sp:=List V->Hp->VK->XK->Prop
abbrev CXT:=List Env->Hp->Shared->XK->Value->Shared->Prop
structure Env0 (P:Program) (w:World) (K:W.Frag) (mg:Str->Option Value) (base:Heap) (A:Around) (outer:List Env) (s:Shared) (H:Hp):Prop where
 frames:A.frames=some outer
 mod:Mod K mg base
 bs : ∀ b o,base.get? b=some o->s.heap.get? b=some o/\H b=none
 bsz:base.objs.size<=s.heap.objs.size
 funs:s.heap.FunFrames base outer
 frf : ∀ b ∈ frs outer,H b=none
 hok:HOk P w H s.heap
 bare:AllBare s.gens
def CE (outer:List Env) (P:Program) (w:World) (H:Hp) (s:Shared) (Q:VK) (u:Value) (s':Shared):Prop:=
 ∃ v H',s'.os=s.os/\AllBare s'.gens/\Un (frs outer) [] H H' s.heap s'.heap/\HOk P w H' s'.heap/\RelV v u/\Q v H'
def CR (CX:CXT) (outer:List Env) (P:Program) (w:World) (H:Hp) (s:Shared) (Q:VK) (E:XK) (r:Result) (s':Shared):Prop:=
 match r with
 | .ok (.ret u)=>CE outer P w H s Q u s'
 | .ok _=>False
 | .error e=>CX outer H s E e s'
structure FnOk (P:Program) (w:World) (K:W.Frag) (mg:Str->Option Value) (base:Heap) (CX:CXT) (k:Nat) (f:Addr) (fd:FuncData) (ps:List Str) (sp:Sp):Prop where
 len : ∀ vs H Q E,sp vs H Q E->vs.length=ps.length
 run : ∀ (A:Around) (outer:List Env) (s:Shared) (H:Hp) (args:Args) (us:List Value) (vs:List V) (Q:VK) (E:XK),Room k A->Env0 P w K mg base A outer s H->BindsTo s fd args (ps.zip us)->Vals vs us->sp vs H Q E ->
  codeAny (model P w) A (.call (.ref f) args) (CR CX outer P w H s Q E) s
variable {mg:Str->Option Value} {base:Heap} {CX:CXT} {f:Addr} {fd:FuncData} {ps:List Str} {sp:Sp}
theorem FnOk.mono {j:Nat} (F:FnOk P w K mg base CX j f fd ps sp) (h:j<=k) :
  FnOk P w K mg base CX k f fd ps sp:=⟨F.len,fun A outer s H args us vs Q E hr=>F.run A outer s H args us vs Q E (hr.mono h)⟩
theorem FnOk.imp {sp':Sp} (F:FnOk P w K mg base CX k f fd ps sp)
  (h : ∀ vs H Q E,sp' vs H Q E->sp vs H Q E):FnOk P w K mg base CX k f fd ps sp':=
 ⟨fun vs H Q E q=>F.len vs H Q E (h _ _ _ _ q),fun A outer s H args us vs Q E hr he hb hv hs=>F.run A outer s H args us vs Q E hr he hb hv (h _ _ _ _ hs)⟩
variable {outer:List Env}
theorem Env0.make (e:Env0 P w K mg base A outer s H) (C:Addr) (us:List Value) (kw:List (Str × Value)) :
  Env0 P w K mg base (A.under (.builtin "type.__call__" ⟨.ref C::us,kw⟩)) outer s H:=⟨by first | exact e.frames | (simpa [Around.under,Code.envs,Code.isFrame,pushEnvs] using e.frames),e.mod,e.bs,e.bsz,e.funs,e.frf,e.hok,e.bare⟩
theorem Env0.in1 (e:Env0 P w K mg base A outer s H) :
  Env0 P w K mg base A.in1 outer s H:=⟨e.frames,e.mod,e.bs,e.bsz,e.funs,e.frf,e.hok,e.bare⟩
section
variable {X : Cx} {pins : List (Addr × Obj)} {σ : St} {H : Hp} {s s' : Shared}
theorem Inv.env0 (I:Inv X pins σ H s):Env0 X.prog X.w X.K X.mg X.base X.A X.stack s H:=
 ⟨I.ok.frames,I.ok.mod,I.bs,le_trans I.ok.bsz I.sz,I.stack,I.stkFree,I.hok,I.bare⟩
theorem Inv.after {Q:VK} {u:Value} (I:Inv X pins σ H s) (h:CE X.stack X.prog X.w H s Q u s'):EP X pins σ Q u s':=by
 obtain ⟨v,H',os,bare,un,hok,r,q⟩:=h
 obtain ⟨hh,g,d,t,os'⟩:=s'
 obtain rfl:os'=s.os:=os
 exact ⟨v,H',I.call (h':=hh) (g':=g) (d':=d) (t':=t) (ch:=[]) un hok bare (fun b z=>absurd z (by simp)),r,q⟩
end
def zNK (sp:Sp) (dvs:List V) (E:XK) (t:TA):TE:=fun σ H Q=>t σ H fun vs H1=>sp (vs++dvs) H1 Q E
def zJB (C:Addr) (m:Str) (sp:Sp) (dvs:List V) (E:XK) (ta:TE) (t:TA):TE:=fun σ H Q=>ta σ H fun x H1=>∃ a dx fs,x = .ref a/\H1 a=some (.ins C dx fs)/\fs.lookup m=none /\
 t σ H1 fun vs H2=>sp (x::(vs++dvs)) H2 Q E
def zTd (C:Addr) (sp:Sp) (dvs:List V) (E:XK) (t:TA):TE:=fun σ H Q=>t σ H fun vs H1=>∀ x dx,H1 x=none->H1 dx=none->dx≠x ->
 sp (.ref x::(vs++dvs)) (upd (upd H1 dx (.own x)) x (.ins C dx [])) (fun v H2=>v = .non/\Q (.ref x) H2) E
def zCI (K:W.Frag) (fd:FuncData) (ps:List Str) (ds:List Value):Prop:=
 ∀ (s:Shared) (us:List Value),K.In s.heap->(us++ds).length=ps.length->BindsTo s fd ⟨us,[]⟩ (ps.zip (us++ds))
theorem zCI.all (h : ∀ us:List Value,us.length=ps.length->bindArgs fd ⟨us,[]⟩=pure (ps.zip us)):zCI K fd ps []:=fun s us _ hl=>by
 rw [List.append_nil] at hl ⊢
 exact .of_eq (h us hl)
def zF8 (CX:CXT) (X:Cx) (E:XK):Prop:=∀ (pins:List (Addr × Obj)) (σ:St) (H:Hp) (s:Shared) (e:Value) (s':Shared),Inv X pins σ H s->CX X.stack H s E e s'->X.xe e s'
section
variable {X : Cx} {CX : CXT} {k : Nat} {f C : Addr} {fd : FuncData} {ps : List Str} {sp : Sp} {dvs : List V} {ds : List Value} {E : XK} {x m : Str} {p pos apos : Pos} {e o : Expr} {es : List Expr} {ta : TE} {t : TA}
theorem zON {Q:VK} {vs:List V} (F:FnOk X.prog X.w X.K X.mg X.base CX k f fd ps sp) (hr:Room k X.A) (hb:zCI X.K fd ps ds) (hd:Vals dvs ds) (hx:zF8 CX X E)
  (I:Inv X pins σ H s) (r:Vals vs us) (h:sp (vs++dvs) H Q E):wpAny (model X.prog X.w) X.A (call (.ref f) us) (EP X pins σ Q) X.xe s:=by
 have r2:Vals (vs++dvs) (us++ds):=r.append hd
 have hl:(us++ds).length=ps.length:=by rw [<- r2.length];exact F.len _ _ _ _ h
 refine wpAny_call (codeAny_mono (F.run X.A X.stack s H ⟨us,[]⟩ (us++ds) (vs++dvs) Q E hr I.env0 (hb s us I.kIn hl) r2 h) fun r s' hq=>?_)
 cases r with
 | error e=>exact hx pins σ H s e s' I hq
 | ok fl =>
  cases fl with
  | ret u=>exact I.after hq
  | next=>exact False.elim hq
  | brk=>exact False.elim hq
  | cont=>exact False.elim hq
theorem zVA (F:FnOk X.prog X.w X.K X.mg X.base CX k f fd ps sp) (hr:Room k X.A) (hg:Gl X x) (hm:X.mg x=some (.ref f)) (hk:W.keepIn X.K (.ref f)=true) (hb:zCI X.K fd ps ds) (hd:Vals dvs ds) (hx:zF8 CX X E)
  (ha:PA X (e::es) t) (hdb:(x == ("__debug__" : Str))=false:=by decide) (he:starEach (e::es) X.env=(false,eval e X.env)::starEach es X.env:=by rfl) (hpl:(backTo pos (starEach es X.env)).any (·.1)=false:=by rfl) :
  PE X (.Call (.Name x p) (e::es) [] pos) (zNK sp dvs E t):=by
 intro pins s σ H Q I h
 refine wpAny_Call_Name_kw (zDH I hg hm ?_ hdb)
 refine W.callWith_K (h₀:=X.base) I.ok.mod.kin hk (thn (ha pos pins s σ H _ I h) fun us s1 ⟨vs,H1,I1,r,q⟩=>⟨I1.kIn,?_⟩) he hpl
 exact zON F hr hb hd hx I1 r q
theorem zR4 (F:FnOk X.prog X.w X.K X.mg X.base CX k f fd ps sp) (hr:Room k X.A) (hg:Gl X x) (hm:X.mg x=some (.ref f)) (hk:W.keepIn X.K (.ref f)=true) (hb:zCI X.K fd ps ds) (hd:Vals dvs ds) (hx:zF8 CX X E)
  (hdb:(x == ("__debug__" : Str))=false:=by decide):PE X (.Call (.Name x p) [] [] pos) (zNK sp dvs E tNil):=by
 intro pins s σ H Q I h
 refine wpAny_Call_Name_kw (zDH I hg hm ?_ hdb)
 exact W.callWith_K0 I.kIn hk (zON (us:=[]) F hr hb hd hx I .nil h)
theorem zTy {pl:Sem Bool} (he:PE X o ta) (c:Cls X.K C) (hm:Meth X.K C m f) (F:FnOk X.prog X.w X.K X.mg X.base CX k f fd ps sp) (hr:Room k X.A) (hb:zCI X.K fd ps ds) (hd:Vals dvs ds) (hx:zF8 CX X E) (ha:PA X (e::es) t)
  (hst:starEach (e::es) X.env=(false,eval e X.env)::starEach es X.env:=by rfl) (hpl:(backTo pos (starEach es X.env)).any (·.1)=false:=by rfl)
  (ht:eval (.Call (.Attribute o m apos) (e::es) [] pos) X.env=(do
   let ov <- eval o X.env
   standAt apos.atName
   let (f,first) <- holding [ov] (getMethod ov m pl)
   callWith pos f first (backTo pos (starEach (e::es) X.env)) (backToKw pos (keywordEach [] X.env))):=by rfl) :
  PE X (.Call (.Attribute o m apos) (e::es) [] pos) (zJB C m sp dvs E ta t):=by
 intro pins s σ H Q I h
 refine W.methodCall_KW (pl:=pl) (thn (he pins s σ H _ I h) fun u s1 ⟨x,H1,I1,rx,a,dx,fs,ex,ea,l,q⟩=>?_) ht
 subst ex
 obtain rfl:u=Value.ref a:=rx
 refine zKp I1 ea c hm l ?_
 refine W.callWith_K (first:=[.ref a]) (h₀:=X.base) I.ok.mod.kin hm.kp (thn (ha pos pins s1 σ H1 _ I1 q) fun us s2 ⟨vs,H2,I2,r,q2⟩=>⟨I2.kIn,?_⟩) hst hpl
 exact zON (us:=.ref a::us) (vs:=.ref a::vs) F hr hb hd hx I2 (.cons rfl r) q2
structure Mk (K:W.Frag) (C f:Addr):Prop where
 makes:W.makesIn K C=true
 init:W.findIn K (.ref C) "__init__" = some (some (.ref f))
 fn:W.isFn K (.ref f)=true
 kp:W.keepIn K (.ref C)=true
theorem zRx {Q:VK} {vs:List V} (M:Mk X.K C f) (F:FnOk X.prog X.w X.K X.mg X.base CX k f fd ps sp) (hr:Room (k+1) X.A) (hb:zCI X.K fd ps ds) (hd:Vals dvs ds)
  (hx:zF8 CX X E) (I:Inv X pins σ H s) (r:Vals vs us)
  (h : ∀ x dx,H x=none->H dx=none->dx≠x->sp (.ref x::(vs++dvs)) (upd (upd H dx (.own x)) x (.ins C dx [])) (fun v H2=>v = .non/\Q (.ref x) H2) E) :
  wpAny (model X.prog X.w) X.A (call (.ref C) us) (EP X pins σ Q) X.xe s:=by
 have hq:=h (s.heap.objs.size+1) s.heap.objs.size (I.hok.fresh (Nat.le_succ _)) (I.hok.fresh (le_refl _)) (ne_of_lt (Nat.lt_succ_self _))
 have I2:=Inv.made (C:=C) I
 have r2:Vals (V.ref (s.heap.objs.size+1)::(vs++dvs)) (Value.ref (s.heap.objs.size+1)::(us++ds)):=.cons rfl (r.append hd)
 have hl:(Value.ref (s.heap.objs.size+1)::us++ds).length=ps.length:=by
  have e:=r2.length
  rw [F.len _ _ _ _ hq] at e
  exact e.symm
 refine wpAny_call (zSU (f:=f) I.kIn M.makes M.init (beq_iff_eq.mp M.fn) (codeAny_mono (F.run _ X.stack _ _ ⟨Value.ref (s.heap.objs.size+1)::us,[]⟩ (Value.ref (s.heap.objs.size+1)::(us++ds)) _ _ E (hr.make C us [])
  (I2.env0.make C us []) (hb _ (Value.ref (s.heap.objs.size+1)::us) I2.kIn hl) r2 hq) fun r s' hq'=>?_))
 cases r with
 | error e=>exact hx pins σ _ _ e s' I2 hq'
 | ok fl =>
  cases fl with
  | ret u =>
   obtain ⟨v,H',I3,rv,ev,q3⟩:=I2.after hq'
   subst ev
   exact ⟨rv,⟨V.ref (s.heap.objs.size+1),H',I3,rfl,q3⟩⟩
  | next=>exact False.elim hq'
  | brk=>exact False.elim hq'
  | cont=>exact False.elim hq'
theorem zT4 (M:Mk X.K C f) (F:FnOk X.prog X.w X.K X.mg X.base CX k f fd ps sp) (hr:Room (k+1) X.A) (hg:Gl X x) (hm:X.mg x=some (.ref C)) (hb:zCI X.K fd ps ds) (hd:Vals dvs ds) (hx:zF8 CX X E)
  (ha:PA X (e::es) t) (hdb:(x == ("__debug__" : Str))=false:=by decide) (he:starEach (e::es) X.env=(false,eval e X.env)::starEach es X.env:=by rfl) (hpl:(backTo pos (starEach es X.env)).any (·.1)=false:=by rfl) :
  PE X (.Call (.Name x p) (e::es) [] pos) (zTd C sp dvs E t):=by
 intro pins s σ H Q I h
 refine wpAny_Call_Name_kw (zDH I hg hm ?_ hdb)
 refine W.callWith_K (h₀:=X.base) I.ok.mod.kin M.kp (thn (ha pos pins s σ H _ I h) fun us s1 ⟨vs,H1,I1,r,q⟩=>⟨I1.kIn,?_⟩) he hpl
 exact zRx M F hr hb hd hx I1 r q
end
section
variable {X : Cx} {CX : CXT} {k : Nat} {f C : Addr} {fd : FuncData} {ps ks : List Str} {sp : Sp} {E : XK} {x m : Str} {p pos apos kpos : Pos} {e o : Expr} {es : List Expr} {kws : List Keyword} {te ta : TE} {t tk : TA} {nm : Option Str}
structure zYD (K:W.Frag) (fd:FuncData) (ps ks:List Str) (g:List Value->List Value->List Value) (gV:List V->List V->List V):Prop where
 to : ∀ (s:Shared) (us ws:List Value),K.In s.heap->(g us ws).length=ps.length->BindsTo s fd ⟨us,ks.zip ws⟩ (ps.zip (g us ws))
 rel : ∀ {vs:List V} {us:List Value} {zs:List V} {ws:List Value},Vals vs us->Vals zs ws->Vals (gV vs zs) (g us ws)
variable {g : List Value -> List Value -> List Value} {gV : List V -> List V -> List V}
end
structure zAP (N P:List Str) (sc:Scope):Prop where
 kind:sc.kind = .function
 co:sc.isCoroutine=false
 gen:sc.isGenerator=false
 nd:N.Nodup
 pre:N.take P.length=P
 par : ∀ x ∈ P,sc.names.lookup x=some .local\/sc.names.lookup x=some .cell
 nofree : ∀ y ∈ sc.names,y.2 ≠ .free
theorem zLq {kindOf:Str->Option NameKind} {x:Str} : ∀ {binds:List (Str × Value)} {m:Str->Option Value},(∀ v,(x,v) ∉ binds)->bindL kindOf binds m x=m x
 | [],_,_=>rfl
 | (n,v)::r,m,h=>by
  unfold bindL
  rw [zLq fun w hw=>h w (mem_cons_of_mem _ hw)]
  split
  ·have:x≠n:=by rintro rfl;exact h v List.mem_cons_self
   simp [this]
  ·rfl
theorem zL3 {kindOf:Str->Option NameKind} {x:Str} : ∀ {binds:List (Str × Value)} {m:Str->Option Value},(∀ v,(x,v) ∉ binds)->bindC kindOf binds m x=m x
 | [],_,_=>rfl
 | (n,v)::r,m,h=>by
  unfold bindC
  rw [zL3 fun w hw=>h w (mem_cons_of_mem _ hw)]
  split
  ·rfl
  ·have:x≠n:=by rintro rfl;exact h v List.mem_cons_self
   simp [this]
theorem zMa {kindOf:Str->Option NameKind} {x:Str} {v:Value} : ∀ {P:List Str} {vs:List Value} {i:Nat} {m:Str->Option Value},P.Nodup->P[i]? = some x->vs[i]? = some v->kindOf x=some .local ->
  bindL kindOf (P.zip vs) m x=some v
 | [],_,_,_,_,h,_,_=>by simp at h
 | _::_,[],_,_,_,_,h,_=>by simp at h
 | p::P,w::vs,0,m,nd,h1,h2,hk=>by
  simp at h1 h2;subst h1;subst h2
  show bindL kindOf ((p,w)::P.zip vs) m p=_
  unfold bindL
  rw [zLq fun v hv=>(List.nodup_cons.mp nd).1 (List.of_mem_zip hv).1,if_pos hk]
  simp
 | p::P,w::vs,i+1,m,nd,h1,h2,hk=>by
  show bindL kindOf ((p,w)::P.zip vs) m x=_
  unfold bindL
  exact zMa (i:=i) (List.nodup_cons.mp nd).2 (by simpa using h1) (by simpa using h2) hk
theorem zMo {kindOf:Str->Option NameKind} {x:Str} {v:Value} : ∀ {P:List Str} {vs:List Value} {i:Nat} {m:Str->Option Value},P.Nodup->P[i]? = some x->vs[i]? = some v->kindOf x≠some .local ->
  bindC kindOf (P.zip vs) m x=some v
 | [],_,_,_,_,h,_,_=>by simp at h
 | _::_,[],_,_,_,_,h,_=>by simp at h
 | p::P,w::vs,0,m,nd,h1,h2,hk=>by
  simp at h1 h2;subst h1;subst h2
  show bindC kindOf ((p,w)::P.zip vs) m p=_
  unfold bindC
  rw [zL3 fun v hv=>(List.nodup_cons.mp nd).1 (List.of_mem_zip hv).1,if_neg hk]
  simp
 | p::P,w::vs,i+1,m,nd,h1,h2,hk=>by
  show bindC kindOf ((p,w)::P.zip vs) m x=_
  unfold bindC
  exact zMo (i:=i) (List.nodup_cons.mp nd).2 (by simpa using h1) (by simpa using h2) hk
def start (N:List Str) (vs:List V):St:=vs.map some++List.replicate (N.length - vs.length) none
def cxOf (CX:CXT) (P:Program) (w:World) (K:W.Frag) (mg:Str->Option Value) (base:Heap) (N:List Str) (qual:Str) (scope:Scope) (f:Addr) (cd:Value) (A:Around) (outer:List Env) (s:Shared) (H:Hp) (E:XK):Cx where
 prog:=P
 w:=w
 K:=K
 mg:=mg
 base:=base
 A:=A.deeper (envOfC qual scope s.heap.objs.size f cd)
 N:=N
 s₀:=s
 H₀:=H
 env:=envOfC qual scope s.heap.objs.size f cd
 outer:=outer
 stack:=envOfC qual scope s.heap.objs.size f cd::outer
 ex:=[]
 calm:=true
 fn:=fun _=>true
 pn:=[]
 xe:=fun e s'=>wpAny (model P w) (A.deeper (envOfC qual scope s.heap.objs.size f cd)) (leaving (envOfC qual scope s.heap.objs.size f cd) e) (fun _ s''=>CX outer H s E e s'') (fun e' s''=>CX outer H s E e' s'') s'
theorem zOF {sc:Scope} {n:Nat} {x:Str} (h:sc.names.lookup x=some .cell) : ∃ c,(cellsFrom n sc.names []).lookup x=some c:=by
 have q:=W.cellsFrom_some sc.names n [] (.inl h)
 exact Option.isSome_iff_exists.mp q
theorem zPj {N:List Str} {qual:Str} {scope:Scope} {cd:Value} {s1:Shared} {E:XK} {vs:List V}
  (S:zAP N ps scope) (hd:A.handled=none) (e0:Env0 P w K mg base A outer s H) (hl:vs.length=ps.length) (r:Vals vs us)
  (x:InCallC s s.heap.objs.size (bindL (envOfC qual scope s.heap.objs.size f cd).kindOf (ps.zip us) fun _=>none) (cellsFrom (s.heap.objs.size+1) scope.names []) (bindC (envOfC qual scope s.heap.objs.size f cd).kindOf (ps.zip us) fun _=>none) s1) :
  Inv (cxOf CX P w K mg base N qual scope f cd A outer s H E) [] (start N vs) H s1:=by
 have hpl:ps.length<=N.length:=by have:=congrArg List.length S.pre;rw [List.length_take] at this;omega
 obtain ⟨h1,tk,rfl,hk⟩:=x.done
 have noA : ∀ b:Addr,b ∉ (cxOf CX P w K mg base N qual scope f cd A outer s H E).ex:=fun b z=>absurd (show b ∈ ([]:List Addr) from z) (by simp)
 refine ⟨⟨e0.mod,S.kind,rfl,rfl,le_refl _,fun y z c h1 h2=>?_,fun y hy=>?_,fun y c _ h=>?_,fun _=>hd,Around.frames_deeper e0.frames,.inr ⟨rfl,rfl⟩,fun b z=>absurd z (noA b),e0.bs,e0.bsz,fun b _ _=>noA b,fun b z=>absurd z (noA b),e0.funs,e0.frf⟩,
  rfl,e0.bare,Un.kept hk,⟨_,x.toInCall.ns,fun i y v h1 h2 h3=>?_⟩,fun y c h=>⟨_,x.cell y c h⟩,e0.hok.fresh (le_refl _),fun y c h=>?_,fun p hp=>absurd (show p ∈ ([]:List (Addr × Obj)) from hp) (by simp),e0.hok.kept hk,?_⟩
 ·exact name_of_addr x.apart (PySem.mem_of_lookup h1) (PySem.mem_of_lookup h2)
 ·have hy:scope.names.lookup y=some .cell\/scope.names.lookup y=some .free:=hy
  rcases hy with hy | hy
  ·exact zOF hy
  ·exact absurd rfl (S.nofree _ (PySem.mem_of_lookup hy))
 ·exact Nat.le_of_lt (x.above y c (PySem.mem_of_lookup h))
 ·have hi:i < vs.length:=by
   unfold start at h2
   by_cases hi:i < vs.length
   ·exact hi
   ·rw [List.getElem?_append_right (by simpa using hi)] at h2
    rw [List.getElem?_replicate] at h2
    split at h2 <;> cases h2
  have ha:vs[i]? = some v:=by
   unfold start at h2
   rw [List.getElem?_append_left (by simpa using hi),List.getElem?_map] at h2
   cases e:vs[i]? with
   | none=>rw [e] at h2;cases h2
   | some a=>rw [e] at h2;cases h2;rfl
  obtain ⟨u,hu,rv⟩:=r.get ha
  have hp:ps[i]? = some y:=by
   rw [<- S.pre,List.getElem?_take_of_lt (by omega)];exact h1
  have ndP:ps.Nodup:=by rw [<- S.pre];exact S.nd.sublist (List.take_sublist _ _)
  refine ⟨u,rv,?_⟩
  rcases S.par y (List.mem_of_getElem? hp) with k | k
  ·exact .inl ⟨k,zMa ndP hp hu k⟩
  ·obtain ⟨c,e⟩:=zOF (n:=s.heap.objs.size+1) k
   refine .inr ⟨.inl k,c,e,?_⟩
   have q:=x.cell y c e
   rw [zMo ndP hp hu (by show scope.names.lookup y≠_;rw [k];decide)] at q
   exact q
 ·exact e0.hok.fresh (Nat.le_of_lt (x.above y c (PySem.mem_of_lookup h)))
 ·unfold start
  show _=N.length
  rw [List.length_append,List.length_map,List.length_replicate]
  omega
theorem zQx {name qual:Str} {params:Arguments} {body:List Stmt} {scope:Scope} {dV kV doc pm cdv ct oc:Value} {an od:Option Addr}
  {osl:Array (Option Value)} {N:List Str} (lk:K.lookup f=some ⟨oc,od,.func (W.fnOf name qual params body scope dV kV doc pm an cdv ct),osl⟩) (hcd:W.codeIn K cdv qual=true) (S:zAP N ps scope)
  (len : ∀ vs H Q E,sp vs H Q E->vs.length=ps.length)
  (hbody : ∀ (A:Around) (outer:List Env) (s:Shared) (H:Hp) (vs:List V) (Q:VK) (E:XK),Room k (A.deeper (envOfC qual scope s.heap.objs.size f cdv))->sp vs H Q E ->
   ∃ t,PSs (cxOf CX P w K mg base N qual scope f cdv A outer s H E) body t/\t { nx:=fun _ H'=>Q .non H',rt:=Q } (start N vs) H) :
  FnOk P w K mg base CX (k+1) f (W.fnOf name qual params body scope dV kV doc pm an cdv ct) ps sp:=by
 refine ⟨len,fun A outer s H args us vs Q E hr e0 hb r hsp=>?_⟩
 have hl:=len _ _ _ _ hsp
 have KX:K.In s.heap:=e0.mod.kin.keeps fun b o e=>(e0.bs b o e).1
 have lim:s.heap.NoLimit:=e0.mod.nolimit.keeps fun b o e=>(e0.bs b o e).1
 have hkind : ∀ y ∈ ps.zip us,scope.names.lookup y.1=some .local\/(scope.names.lookup y.1=some .cell/\((cellsFrom (s.heap.objs.size+1) scope.names []).lookup y.1).isSome=true):=fun ⟨n,v⟩ hy=>by
  rcases S.par n (List.of_mem_zip hy).1 with q | q
  ·exact .inl q
  ·exact .inr ⟨q,W.cellsFrom_some _ _ _ (.inl q)⟩
 refine codeAny_call_function hr.depth (KX _ _ lk) rfl S.co S.gen rfl (W.codeRec_of KX hcd) (hb _ _ _ _ ?_)
 refine wpAny_newFunctionEnv_cells S.kind hkind fun env he s1 x=>?_
 subst he
 refine ⟨lim.keeps x.toInCall.keep,codeAny_func ?_⟩
 obtain ⟨t,ht,hq⟩:=hbody A outer s H vs Q E (hr.deeper _) hsp
 have I:Inv (cxOf CX P w K mg base N qual scope f cdv A outer s H E) [] (start N vs) H s1:=zPj S hr.hd e0 hl r x
 refine wpAny_mono (ht [] s1 (start N vs) H _ I hq) (fun fl s' hs=>?_) fun e s' hs=>hs
 have fin : ∀ {σ':St} {H':Hp} {v:V} {u:Value},Inv (cxOf CX P w K mg base N qual scope f cdv A outer s H E) [] σ' H' s'->RelV v u->Q v H'->CE outer P w H s Q u s':=
  fun {σ' H' v u} J rv q=>⟨v,H',J.os,J.bare,J.base,J.hok,rv,q⟩
 cases fl with
 | ret u =>
  obtain ⟨v,σ',H',J,rv,q⟩:=hs
  exact fin J rv q
 | next =>
  obtain ⟨σ',H',J,q⟩:=hs
  exact fin (v:=V.non) (u:=Value.none) J rfl q
 | brk =>
  obtain ⟨_,_,_,q⟩:=hs
  exact False.elim q
 | cont =>
  obtain ⟨_,_,_,q⟩:=hs
  exact False.elim q
section
variable {X : Cx} {x : Str} {p pos : Pos} {e : Expr} {es : List Expr} {t : TA} {id T : String} {r : List V -> Hp -> VK -> Prop}
def tCB (r:List V->Hp->VK->Prop) (t:TA):TE:=fun σ H Q=>t σ H fun vs H1=>r vs H1 Q
theorem zRt (hc:zFV X (.builtin id) r) (hg:Gl X x) (hm:X.mg x=none) (hv:bootBuiltins x=some (.builtin id)) (ha:PA X (e::es) t) (hn:x ≠ "__name__" := by decide) (hdb:(x == ("__debug__" : Str))=false:=by decide)
  (he:starEach (e::es) X.env=(false,eval e X.env)::starEach es X.env:=by rfl) (hpl:(backTo pos (starEach es X.env)).any (·.1)=false:=by rfl):PE X (.Call (.Name x p) (e::es) [] pos) (tCB r t):=by
 intro pins s σ H Q I h
 refine wpAny_Call_Name_kw (zKv I hg hm hv ?_ hn hdb)
 exact PyProof.Rows.callWith_builtin1 (thn (ha pos pins s σ H _ I h) fun us s1 ⟨vs,H1,I1,r1,q1⟩=>hc pins s1 σ H1 vs us Q I1 r1 q1) he hpl
theorem zGo (hc:zFV X (.type T) r) (hg:Gl X x) (hm:X.mg x=none) (hv:bootBuiltins x=some (.type T)) (ha:PA X (e::es) t) (hn:x ≠ "__name__" := by decide) (hdb:(x == ("__debug__" : Str))=false:=by decide)
  (he:starEach (e::es) X.env=(false,eval e X.env)::starEach es X.env:=by rfl) (hpl:(backTo pos (starEach es X.env)).any (·.1)=false:=by rfl):PE X (.Call (.Name x p) (e::es) [] pos) (tCB r t):=by
 intro pins s σ H Q I h
 refine wpAny_Call_Name_kw (zKv I hg hm hv ?_ hn hdb)
 exact PyProof.Rows.callWith_type1 (thn (ha pos pins s σ H _ I h) fun us s1 ⟨vs,H1,I1,r1,q1⟩=>hc pins s1 σ H1 vs us Q I1 r1 q1) he hpl
end
end L2
namespace HT
open PySem PyProof.Rows
section
open PySem.SeqAt
open PySem.AutoSeq1 (wpAny_loadPart')
open PySem.MeetsSeq PySem.MeetsSeq2 PySem.MeetsSeq3
end
section
variable {prog : Program} {w : World} {A : Around} {E : Value -> Shared -> Prop} {s : Shared}
def sIx (n d:Nat):Option Int->Nat
 | none=>d
 | some v=>if v < 0 then (v+(n:Int)).toNat else min v.toNat n
theorem sIx_none (n d:Nat):sIx n d none=d:=rfl
theorem zWj (n d:Nat) (hd:d<=n) (o:Option Int):sIx n d o<=n:=by
 cases o with
 | none=>exact hd
 | some v =>
  show (if v < 0 then (v+(n:Int)).toNat else min v.toNat n)<=n
  by_cases hv:v < 0
  ·rw [if_pos hv];omega
  ·rw [if_neg hv];exact Nat.min_le_right _ _
theorem zQ5 (v:Int) (n d:Nat):(if v < 0 then max (v+(n:Int)) 0 else min v (n:Int))=((sIx n d (some v):Nat):Int):=by
 show (if v < 0 then max (v+(n:Int)) 0 else min v (n:Int))=(((if v < 0 then (v+(n:Int)).toNat else min v.toNat n):Nat):Int)
 by_cases hv:v < 0
 ·simp only [if_pos hv];omega
 ·simp only [if_neg hv];omega
theorem zOk (lo hi:Option Int) (n:Nat):Builtin.Slice.sliceAdjust lo hi 1 (n:Int)=(((sIx n 0 lo:Nat):Int),((sIx n n hi:Nat):Int)):=by
 have h1 : ¬ ((1:Int) < 0):=by omega
 unfold Builtin.Slice.sliceAdjust
 simp only [h1,if_false]
 refine Prod.ext ?_ ?_
 ·cases lo with
  | none=>rfl
  | some v=>exact zQ5 v n 0
 ·cases hi with
  | none=>rfl
  | some v=>exact zQ5 v n n
theorem zO9 (i j:Nat):Builtin.Slice.slicePlaces (i:Int) (j:Int) 1=j - i:=by
 unfold Builtin.Slice.slicePlaces
 have h1:(1:Int) > 0:=by omega
 simp only [h1,if_true,Int.ediv_one]
 split <;> omega
theorem zKq {v:Value} {o:Option Int} {Q:Option Int->Shared->Prop} (p:IsPart v o) (h:Q o s):wpAny (model prog w) A (Builtin.Slice.slicePartIndex v) Q E s:=by
 cases p with
 | none=>exact slicePart_none h
 | int i t=>exact slicePart_int h
theorem zJG {sl:Addr} {vl vu:Value} {lo hi:Option Int} {n:Nat} {Q:Int × Int × Nat->Shared->Prop} (hs:s.heap.IsSliceOf sl vl vu .none) (pl:IsPart vl lo) (pu:IsPart vu hi)
  (h:Q (((sIx n 0 lo:Nat):Int),1,sIx n n hi - sIx n 0 lo) s):wpAny (model prog w) A (Builtin.Slice.sliceApplied (.ref sl) (pure (n:Int))) Q E s:=by
 obtain ⟨os,hos,hcs,hds⟩:=id hs
 unfold Builtin.Slice.sliceApplied Builtin.Slice.sliceFields
 refine wpAny_bind (wpAny_bind (wpAny_field hos hds (x:=vl) rfl (wpAny_bind (wpAny_field hos hds (x:=vu) rfl (wpAny_bind (wpAny_field hos hds (x:=.none) rfl (wpAny_pure ?_)))))))
 refine wpAny_bind (slicePart_none ?_)
 show wpAny _ _ (if ((1:Int) == 0)=true then _ else _) _ _ s
 rw [if_neg (by decide)]
 refine wpAny_bind (zKq pl (wpAny_bind (zKq pu (wpAny_bind (wpAny_pure ?_)))))
 show wpAny _ _ (match Builtin.Slice.sliceAdjust lo hi 1 (n:Int) with | (lo,hi)=>pure (lo,(1:Int),Builtin.Slice.slicePlaces lo hi 1)) _ _ s
 rw [zOk lo hi n]
 show wpAny _ _ (pure (((sIx n 0 lo:Nat):Int),(1:Int),Builtin.Slice.slicePlaces ((sIx n 0 lo:Nat):Int) ((sIx n n hi:Nat):Int) 1)) _ _ s
 rw [zO9]
 exact wpAny_pure h
theorem zRv (xs:Array Value) (i k:Nat):((List.range k).filterMap fun (m:Nat)=>xs[((i:Int)+(m:Int)*1).toNat]?).toArray=((xs.toList.drop i).take k).toArray:=by
 have e:(fun (m:Nat)=>xs[((i:Int)+(m:Int)*1).toNat]?)=fun m=>xs[i+m]?:=by
  funext m
  have:((i:Int)+(m:Int)*1).toNat=i+m:=by omega
  rw [this]
 rw [e]
 have:=pick_run xs i k
 rw [List.filterMap_map] at this
 have e2:((fun x=>xs[x]?) ∘ fun x=>i+x)=fun m=>xs[i+m]?:=rfl
 rw [e2] at this
 rw [this]
theorem getItem_tuple_cut {t sl:Addr} {items:Array Value} {vl vu:Value} {lo hi:Option Int} {Q:Value->Shared->Prop} (ht:IsTup s.heap t items) (hs:s.heap.IsSliceOf sl vl vu .none) (pl:IsPart vl lo) (pu:IsPart vu hi)
  (hw : ¬ (sIx items.size 0 lo=0/\sIx items.size items.size hi=items.size))
  (h:Q (.ref s.heap.objs.size) { s with heap:=s.heap.push { cls:=.type "tuple", data:=.seq ((items.toList.drop (sIx items.size 0 lo)).take (sIx items.size items.size hi - sIx items.size 0 lo)).toArray } })
  (hsz:items.size<=sizeLine):wpAny (model prog w) A (getItem (.ref t) (.ref sl)) Q E s:=by
 have htake:sizeOk (.seq ((items.toList.drop (sIx items.size 0 lo)).take (sIx items.size items.size hi - sIx items.size 0 lo)).toArray):=by
  show ((items.toList.drop (sIx items.size 0 lo)).take (sIx items.size items.size hi - sIx items.size 0 lo)).toArray.size<=sizeLine
  rw [List.size_toArray,List.length_take,List.length_drop,Array.length_toList]
  omega
 have hj:sIx items.size items.size hi<=items.size:=zWj _ _ (Nat.le_refl _) hi
 obtain ⟨os,hos,hcs,hds⟩:=id hs
 have hTs:s.TypeIs (.ref sl) "slice" := ⟨os,hos,hcs⟩
 unfold getItem
 try with_reducible refine wpAny_holding ?_
 first | refine wpAny_bind (wpAny_pure ?_) | skip
 refine wpAny_bind (wpAny_sequenceKey ht.typeIs (by decide) ?_)
 refine wpAny_bind (wpAny_callSpecial?_slot (name:=Str.ofString "__getitem__") ht.typeIs PyProof.Rows.slot_tuple_getitem
  (wpAny_call_entry PyProof.Rows.slot_tuple_getitem ht.typeIs entry_tuple_getitem ?_ (args_tuple_getitem _ _)))
 show wpAny _ _ (Builtin.Tuple.tupleItemsOf (.ref t) >>= _) _ _ s
 refine wpAny_bind (tupleItemsOf_ ht ?_)
 refine wpAny_bind (wpAny_typeOf hTs ?_)
 rw [if_pos (by decide)]
 refine wpAny_bind (zJG hs pl pu ?_)
 have hno : ¬ ((((sIx items.size 0 lo:Nat):Int) == 0 && (1:Int) == 1 && (sIx items.size items.size hi - sIx items.size 0 lo) == items.size)=true):=by
  intro q
  rw [Bool.and_eq_true,Bool.and_eq_true] at q
  have q1:((sIx items.size 0 lo:Nat):Int)=0:=eq_of_beq q.1.1
  have q2:sIx items.size items.size hi - sIx items.size 0 lo=items.size:=eq_of_beq q.2
  exact hw ⟨by omega,by omega⟩
 show wpAny _ _ (if (((sIx items.size 0 lo:Nat):Int) == 0 && (1:Int) == 1 && (sIx items.size items.size hi - sIx items.size 0 lo) == items.size)=true then _ else _) _ _ s
 rw [if_neg hno,zRv]
 first
  | exact wpAny_bind (m:=Builtin.Tuple.tupleExact _) (wpAny_newObj_type (wpAny_pure ⟨_,rfl,wpAny_pure h⟩) htake)
  | exact wpAny_bind (m:=Builtin.Tuple.tupleExact _) (wpAny_newObj_type (wpAny_bind (wpAny_pure (wpAny_pure ⟨_,rfl,wpAny_pure h⟩))) htake)
  | exact wpAny_bind (wpAny_bind (m:=Builtin.Tuple.tupleExact _) (wpAny_newObj_type (wpAny_pure (wpAny_pure ⟨_,rfl,wpAny_pure h⟩)) htake))
  | exact wpAny_bind (wpAny_bind (m:=Builtin.Tuple.tupleExact _) (wpAny_newObj_type (wpAny_pure ⟨_,rfl,wpAny_pure h⟩) htake))
end
end HT
namespace L2
open PySem PySem.Spec PyProof.Rows
open List (flatten_cons length_append replicate_succ size_toArray)
open Nat (le_refl)
abbrev TO:=St->Hp->(Option Int->Hp->Prop)->Prop
def PO (X:Cx) (e:Option Expr) (t:TO):Prop:=
 ∀ (pins:List (Addr × Obj)) (s:Shared) (σ:St) (H:Hp) (Q:Option Int->Hp->Prop),Inv X pins σ H s->t σ H Q ->
  wpAny (model X.prog X.w) X.A (evalPart e X.env) (fun u s'=>∃ o H',Inv X pins σ H' s'/\IsPart u o/\Q o H') X.xe s
def zP8:TO:=fun _ H Q=>Q none H
def zVo (t:TE):TO:=fun σ H Q=>t σ H fun x H1=>∃ i,x = .int i/\Q (some i) H1
theorem zPI {ns:List Int} : ∀ {us:List Value},Vals (ns.map V.int) us->IntsAre us ns:=by
 induction ns with
 | nil=>intro us r;rw [List.map_nil] at r;cases r;exact .nil
 | cons n ns ih =>
  intro us r
  rw [List.map_cons] at r
  cases r with
  | cons r1 r2 =>
   obtain ⟨t,e⟩:=r1
   subst e
   exact .cons n t (ih r2)
section
variable {X : Cx} {e : Expr} {te : TE} {lo hi : Option Expr} {tl th : TO} {pos p2 : Pos}
theorem zBe:PO X none zP8:=by
 intro pins s σ H Q I h
 rw [evalPart_none]
 exact wpAny_pure ⟨none,H,I,.none,h⟩
theorem zAx (h:PE X e te):PO X (some e) (zVo te):=by
 intro pins s σ H Q I hw
 rw [evalPart_some]
 refine thn (h pins s σ H _ I hw) fun u s1 ⟨x,H1,I1,r1,q1⟩=>?_
 obtain ⟨i,rfl,q⟩:=q1
 obtain ⟨t,rfl⟩:=r1
 exact ⟨some i,H1,I1,.int i t,q⟩
def SlR (X:Cx) (r:V->Option Int->Option Int->Hp->VK->Prop):Prop:=
 ∀ (pins:List (Addr × Obj)) (s:Shared) (σ:St) (H:Hp) (x:V) (v vl vu:Value) (lo hi:Option Int) (sl:Addr) (Q:VK),Inv X pins σ H s->RelV x v->s.heap.IsSliceOf sl vl vu .none->IsPart vl lo->IsPart vu hi->r x lo hi H Q ->
  ∃ T id,typeLookup (.type T) "__getitem__" = pure (some (.builtin id))/\s.TypeIs v T/\wpAny (model X.prog X.w) X.A (getItem v (.ref sl)) (EP X pins σ Q) X.xe s
def tSl (r:V->Option Int->Option Int->Hp->VK->Prop) (te:TE) (tl th:TO):TE:=fun σ H Q=>te σ H fun x H1=>tl σ H1 fun l H2=>th σ H2 fun u H3=>r x l u H3 Q
theorem zAw {r:V->Option Int->Option Int->Hp->VK->Prop} (hr:SlR X r) (he:PE X e te) (hl:PO X lo tl) (hu:PO X hi th):PE X (.Subscript e (.Slice lo hi none p2) pos) (tSl r te tl th):=by
 intro pins s σ H Q I h
 refine Subscript_ (thn (he pins s σ H _ I h) fun v s1 ⟨x,H1,I1,r1,q1⟩=>?_)
 refine wpAny_Slice (thn (hl pins s1 σ H1 _ I1 q1) fun vl s2 ⟨l,H2,I2,pl,q2⟩=>thn (hu pins s2 σ H2 _ I2 q2) fun vu s3 ⟨u,H3,I3,pu,q3⟩=>?_)
 rw [evalPart_none]
 refine wpAny_pure ?_
 have I4:Inv X pins σ H3 { s3 with heap:=s3.heap.push { cls:=.type "slice", data:=.fields #[vl,vu,.none] } }:=I3.kept (t':=s3.toks) fun b ob q=>Heap.get?_push_of_some _ q
 obtain ⟨T,id,hT,ht,hg⟩:=hr pins { s3 with heap:=s3.heap.push { cls:=.type "slice", data:=.fields #[vl,vu,.none] } } σ H3 x v vl vu l u s3.heap.objs.size Q I4 r1 (Heap.IsSliceOf.new ..) pl pu q3
 show wpAny (model X.prog X.w) X.A (subscriptTail e (.Slice lo hi none p2) v (.ref s3.heap.objs.size)) (EP X pins σ Q) X.xe { s3 with heap:=s3.heap.push { cls:=.type "slice", data:=.fields #[vl,vu,.none] } }
 exact tail_any (ops:=[.ref s3.heap.objs.size,v]) ht hT hg (by with_unfolding_all rfl)
def cutV (xs:List V) (lo hi:Option Int):List V:=(xs.drop (HT.sIx xs.length 0 lo)).take (HT.sIx xs.length xs.length hi - HT.sIx xs.length 0 lo)
theorem zJ4 (xs:List V) (lo hi:Option Int):(cutV xs lo hi).length<=xs.length:=by
 unfold cutV
 rw [List.length_take,List.length_drop]
 omega
def rSlT (K:W.Frag):V->Option Int->Option Int->Hp->VK->Prop:=fun x lo hi H Q=>∃ a xs,x = .ref a/\SqT K H a xs /\
 ¬ (HT.sIx xs.length 0 lo=0/\HT.sIx xs.length xs.length hi=xs.length) /\ ∀ p,H p=none->Q (.ref p) (upd H p (.tup (cutV xs lo hi)))
theorem zOC:SlR X (rSlT X.K):=by
 intro pins s σ H x v vl vu lo hi sl Q I rx hs pl pu h
 obtain ⟨a,xs,rfl,hx,hw,q⟩:=h
 cases rx
 obtain ⟨its,r,ht,hz⟩:=I.tuple hx
 have hlen:its.toArray.size=xs.length:=by rw [size_toArray];exact r.length.symm
 refine ⟨"tuple", _,PyProof.Rows.slot_tuple_getitem.lookup,ht.typeIs,?_⟩
 refine HT.getItem_tuple_cut ht hs pl pu (by rw [hlen];exact hw) ?_ (by rw [hlen];exact hz)
 rw [hlen]
 refine ⟨.ref s.heap.objs.size,_,I.laid (t':=s.toks) (o:=.tup (cutV xs lo hi)) (fun b ob q=>Heap.get?_push_of_some _ q) (le_refl _) ?_,rfl,q _ (I.hok.fresh (le_refl _))⟩
 exact ⟨Nat.le_trans (zJ4 xs lo hi) hz,_,(r.drop (HT.sIx xs.length 0 lo)).take (HT.sIx xs.length xs.length hi - HT.sIx xs.length 0 lo),IsTup.new _ _⟩
end
def ixN (n:Nat) (i:Int):Option Nat:=if 0<=i then (if i < n then some i.toNat else none) else if -(n:Int)<=i then some (i+n).toNat else none
def atI {α:Type} (xs:List α) (i:Int):Option α:=(ixN xs.length i).bind fun j=>xs[j]?
variable {n:Nat}
theorem zT2 {i:Int} {j:Nat} (h:ixN n i=some j):seqIndex? i n=some j/\j < n /\ -(n:Int)<=i/\i < n:=by
 unfold ixN at h
 by_cases h0:0<=i
 ·rw [if_pos h0] at h
  by_cases h1:i < n
  ·rw [if_pos h1] at h
   have e:i.toNat=j:=Option.some.inj h
   exact ⟨by rw [seqIndex_of h0 h1,e],by omega,by omega,h1⟩
  ·rw [if_neg h1] at h;cases h
 ·rw [if_neg h0] at h
  by_cases h1 : -(n:Int)<=i
  ·rw [if_pos h1] at h
   have e:(i+n).toNat=j:=Option.some.inj h
   exact ⟨by rw [seqIndex_neg (by omega) h1,e],by omega,h1,by omega⟩
  ·rw [if_neg h1] at h;cases h
theorem zNS {α:Type} {xs:List α} {i:Int} {v:α} (h:atI xs i=some v) : ∃ j,seqIndex? i xs.length=some j/\xs[j]? = some v/\j < xs.length /\ -(xs.length:Int)<=i/\i < xs.length:=by
 unfold atI at h
 cases e:ixN xs.length i with
 | none=>rw [e] at h;cases h
 | some j =>
  rw [e] at h
  obtain ⟨h1,h2,h3,h4⟩:=zT2 e
  exact ⟨j,h1,h,h2,h3,h4⟩
theorem zTh {α:Type} {xs:List α} {j:Nat} {v:α} (h:xs[j]? = some v):atI xs (j:Int)=some v:=by
 have hj:j < xs.length:=(List.getElem?_eq_some_iff.mp h).1
 have e:ixN xs.length (j:Int)=some j:=by
  unfold ixN
  rw [if_pos (by omega),if_pos (by omega)];simp
 unfold atI;rw [e];exact h
def zTw (b:Expr):Prop:=∀ o i,subscripted b false o i=operate [o,i] (getItem o i)
def IxR (X:Cx) (r:R2):Prop:=
 ∀ (value slice:Expr) (pins:List (Addr × Obj)) (s:Shared) (σ:St) (H:Hp) (x y:V) (v u:Value) (Q:VK),Inv X pins σ H s->RelV x v->RelV y u->r x y H Q ->
  subscripted slice false v u=operate [v,u] (getItem v u)->wpAny (model X.prog X.w) X.A (subscriptTail value slice v u) (EP X pins σ Q) X.xe s
def MtR (X:Cx) (id:String) (r:V->List V->Hp->VK->Prop):Prop:=
 ∀ (pins:List (Addr × Obj)) (s:Shared) (σ:St) (H:Hp) (x:V) (xs:List V) (v:Value) (us:List Value) (Q:VK),Inv X pins σ H s->RelV x v->Vals xs us->r x xs H Q ->
  wpAny (model X.prog X.w) X.A (call (.builtin id) (v::us)) (EP X pins σ Q) X.xe s
section
variable {X : Cx} {a b : Expr} {ta tb : TE} {pos : Pos}
theorem zAb {r:R2} (hr:IxR X r) (ha:PE X a ta) (hb:PE X b tb) (hs:zTw b):PE X (.Subscript a b pos) (tOp r ta tb):=by
 intro pins s σ H Q I h
 exact Subscript_ (binT ha hb I h fun v u s2 x y H2 I2 rx ry q=>hr a b pins s2 σ H2 x y v u Q I2 rx ry q (hs _ _))
def rIxL (K:W.Frag):R2:=fun x y H Q=>∃ p xs i v,x = .ref p/\y = .int i/\SqL K H p xs/\atI xs i=some v/\Q v H
def rIxT (K:W.Frag):R2:=fun x y H Q=>∃ p xs i v,x = .ref p/\y = .int i/\SqT K H p xs/\atI xs i=some v/\Q v H
def rIxS:R2:=fun x y H Q=>∃ z i c,x = .str z/\y = .int i/\z.length<=sizeLine/\atI z.cps.toList i=some c/\Q (.str ⟨#[c]⟩) H
theorem zAv:IxR X (rIxL X.K):=by
 intro value slice pins s σ H x y v u Q I rx ry h hs
 obtain ⟨p,xs,i,z,rfl,rfl,hq,he,q⟩:=h
 cases rx
 obtain ⟨t,rfl⟩:=ry
 obtain ⟨its,r,pl,hz⟩:=I.list hq
 obtain ⟨j,h1,h2,h3,h4,h5⟩:=zNS he
 obtain ⟨w,ew,rw'⟩:=r.get h2
 have hl:=r.length
 have hn:=zMJ
 have fin:EP X pins σ Q w s:=⟨z,H,I,rw',q⟩
 by_cases h0:0<=i
 ·have hj:i.toNat=j:=by
   rw [seqIndex_of h0 h5] at h1
   exact Option.some.inj h1
  exact item_listR pl.isList h0 (by omega) (by rw [hj];simpa using ew) fin hs
 ·have hj:(i+(its.toArray.size:Int)).toNat=j:=by
   rw [seqIndex_neg (by omega) h4] at h1
   rw [size_toArray,<- hl]
   exact Option.some.inj h1
  exact subscriptTail_builtinR (x:=w) pl.isList.typeIs slot_list_getitem.lookup
   (wpAny_getItem_list_neg (Q:=fun r s'=>r=w/\EP X pins σ Q r s') pl.isList (by omega) (by rw [size_toArray] <;> omega) (by omega) (by rw [hj];simpa using ew) ⟨rfl,fin⟩) hs
theorem zBc:IxR X (rIxT X.K):=by
 intro value slice pins s σ H x y v u Q I rx ry h hs
 obtain ⟨p,xs,i,z,rfl,rfl,hq,he,q⟩:=h
 cases rx
 obtain ⟨t,rfl⟩:=ry
 obtain ⟨its,r,pl,hz⟩:=I.tuple hq
 obtain ⟨j,h1,h2,h3,h4,h5⟩:=zNS he
 obtain ⟨w,ew,rw'⟩:=r.get h2
 have hl:=r.length
 have hn:=zMJ
 have fin:EP X pins σ Q w s:=⟨z,H,I,rw',q⟩
 exact subscriptTail_builtinR (x:=w) pl.typeIs slot_tuple_getitem.lookup
  (getItem_tuple (j:=j) (Q:=fun r s'=>r=w/\EP X pins σ Q r s') pl (by omega) (by omega) (by rw [size_toArray,<- hl];exact h1) (by simpa using ew) ⟨rfl,fin⟩) hs
theorem zER:IxR X rIxS:=by
 intro value slice pins s σ H x y v u Q I rx ry h hs
 obtain ⟨z,i,c,rfl,rfl,hz,he,q⟩:=h
 obtain ⟨t,rfl⟩:=rx
 obtain ⟨t',rfl⟩:=ry
 obtain ⟨j,h1,h2,h3,h4,h5⟩:=zNS he
 have hl:z.cps.toList.length=z.length:=by simp [Str.length]
 rw [hl] at h1 h4 h5
 have hn:=zMJ
 exact tail_any (typeIs_str s z t) slot_str_getitem.lookup (getItem_str (c:=c) (by
  have e1:decide (i < -(2 ^ 63:Int))=false:=decide_eq_false (by omega)
  have e2:decide (i ≥ 2 ^ 63)=false:=decide_eq_false (by omega)
  rw [e1,e2,Bool.or_false]) (by rw [h1];simpa using h2) ⟨.str ⟨#[c]⟩,H,I.tok _,⟨_,rfl⟩,q⟩) hs
variable {s:Shared}
theorem Inv.lst {pins:List (Addr × Obj)} {σ:St} {H:Hp} {p:Addr} {xs:List V} (I:Inv X pins σ H s) (h:H p=some (.lst xs)) :
  ∃ (its:List Value) (n:Nat),Vals xs its/\s.heap.get? p=some { cls:=.type "list", data:=.seq its.toArray n }/\xs.length<=sizeLine:=by
 obtain ⟨z,its,n,r,e⟩:=I.hok p _ h
 exact ⟨its,n,r,e,z⟩
theorem zMG (lo hi:Option Int) (n:Nat):(sliceBounds lo hi none n).1=((HT.sIx n 0 lo:Nat):Int)/\(sliceBounds lo hi none n).2.1=((HT.sIx n n hi:Nat):Int)/\(sliceBounds lo hi none n).2.2=1:=by
 refine ⟨?_,?_,rfl⟩
 ·cases lo with
  | none=>simp [sliceBounds,HT.sIx]
  | some i =>
   simp only [sliceBounds,HT.sIx,Option.getD_none,show (1:Int) > 0 by decide,if_true]
   by_cases h:i < 0
   ·simp only [h,if_true] <;> omega
   ·simp only [h,if_false] <;> omega
 ·cases hi with
  | none=>simp [sliceBounds,HT.sIx]
  | some i =>
   simp only [sliceBounds,HT.sIx,Option.getD_none,show (1:Int) > 0 by decide,if_true]
   by_cases h:i < 0
   ·simp only [h,if_true] <;> omega
   ·simp only [h,if_false] <;> omega
theorem zLU (its:List Value) (lo hi:Option Int):slicePick its.toArray lo hi none=((its.drop (HT.sIx its.length 0 lo)).take (HT.sIx its.length its.length hi - HT.sIx its.length 0 lo)).toArray:=by
 obtain ⟨h1,h2,h3⟩:=zMG lo hi its.toArray.size
 unfold slicePick
 rw [h1,h2,h3]
 simp only [sliceRange_one,pick_run,size_toArray] <;> rfl
def rSlL (K:W.Frag):V->Option Int->Option Int->Hp->VK->Prop:=fun x lo hi H Q=>∃ a xs,x = .ref a/\SqL K H a xs /\ ∀ p,H p=none->Q (.ref p) (upd H p (.lst (cutV xs lo hi)))
theorem zHi:SlR X (rSlL X.K):=by
 intro pins s σ H x v vl vu lo hi sl Q I rx hs pl pu h
 obtain ⟨a,xs,rfl,hx,q⟩:=h
 cases rx
 obtain ⟨its,r,ht,hz⟩:=I.list hx
 have hlen:=r.length
 refine ⟨"list", _,slot_list_getitem.lookup,ht.isList.typeIs,?_⟩
 refine wpAny_getItem_list_slice ht.isList hs pl pu .none (by simp) ?_ (by rw [size_toArray] <;> omega)
 rw [zLU,<- hlen]
 refine ⟨.ref s.heap.objs.size,_,I.laid (t':=s.toks) (o:=.lst (cutV xs lo hi)) (fun b ob q=>Heap.get?_push_of_some _ q) (le_refl _) ?_,rfl,q _ (I.hok.fresh (le_refl _))⟩
 exact ⟨Nat.le_trans (zJ4 xs lo hi) hz,_,0,(r.drop (HT.sIx xs.length 0 lo)).take (HT.sIx xs.length xs.length hi - HT.sIx xs.length 0 lo),Heap.get?_push_size _ rfl⟩
def zKU:V->Bool
 | .non=>true
 | .bl _=>true
 | .int _=>true
 | .str _=>true
 | _=>false
def eqV:V->V->Bool
 | .non,.non=>true
 | .bl a,.bl b=>a == b
 | .bl a,.int b=>(if a then 1 else 0) == b
 | .int a,.bl b=>a == (if b then 1 else 0)
 | .int a,.int b=>a == b
 | .str a,.str b=>a == b
 | _,_=>false
variable {x:V}
theorem zXQ {A:Around} {y:V} {u v:Value} (ry:RelV y u) (rx:RelV x v) (fy:zKU y=true) (fx:zKU x=true):SeqAt.EqAt A s u v (eqV y x):=by
 cases y with
 | non =>
  cases ry
  cases x with
  | non=>cases rx;exact SeqAt.EqAt.same _
  | bl b=>cases rx;exact SeqAt.EqAt.none_bool b
  | int b=>obtain ⟨t,rfl⟩:=rx;exact SeqAt.EqAt.none_int b t
  | str b=>obtain ⟨t,rfl⟩:=rx;exact SeqAt.EqAt.none_str b t
  | _=>exact absurd (show false=true from fx) Bool.false_ne_true
 | bl a =>
  cases ry
  cases x with
  | non=>cases rx;exact SeqAt.EqAt.bool_none a
  | bl b=>cases rx;exact SeqAt.EqAt.bool_bool a b
  | int b=>obtain ⟨t,rfl⟩:=rx;exact SeqAt.EqAt.bool_int a b t
  | str b=>obtain ⟨t,rfl⟩:=rx;exact SeqAt.EqAt.bool_str a b t
  | _=>exact absurd (show false=true from fx) Bool.false_ne_true
 | int a =>
  obtain ⟨t',rfl⟩:=ry
  cases x with
  | non=>cases rx;exact SeqAt.EqAt.int_none a t'
  | bl b=>cases rx;exact SeqAt.EqAt.int_bool a t' b
  | int b=>obtain ⟨t,rfl⟩:=rx;exact SeqAt.EqAt.int_int a t' b t
  | str b=>obtain ⟨t,rfl⟩:=rx;exact SeqAt.EqAt.int_str a t' b t
  | _=>exact absurd (show false=true from fx) Bool.false_ne_true
 | str a =>
  obtain ⟨t',rfl⟩:=ry
  cases x with
  | non=>cases rx;exact SeqAt.EqAt.str_none a t'
  | bl b=>cases rx;exact SeqAt.EqAt.str_bool a t' b
  | int b=>obtain ⟨t,rfl⟩:=rx;exact SeqAt.EqAt.str_int a t' b t
  | str b=>obtain ⟨t,rfl⟩:=rx;exact SeqAt.EqAt.str_str a t' b t
  | _=>exact absurd (show false=true from fx) Bool.false_ne_true
 | _=>exact absurd (show false=true from fy) Bool.false_ne_true
def eqU (x:V) (u:Value):Bool:=match u with
 | .none=>eqV .non x
 | .bool b=>eqV (.bl b) x
 | .int i _=>eqV (.int i) x
 | .str z _=>eqV (.str z) x
 | _=>false
theorem zTZ {y:V} {u:Value} (r:RelV y u) (f:zKU y=true):eqU x u=eqV y x:=by
 cases y with
 | non=>cases r;rfl
 | bl b=>cases r;rfl
 | int i=>obtain ⟨t,rfl⟩:=r;rfl
 | str z=>obtain ⟨t,rfl⟩:=r;rfl
 | _=>exact absurd (show false=true from f) Bool.false_ne_true
theorem zKF {x:V} : ∀ {xs:List V} {us:List Value},Vals xs us->xs.all zKU=true->us.any (eqU x)=xs.any fun y=>eqV y x
 | _,_,.nil,_=>rfl
 | y::xs,u::us,.cons r t,f=>by
  rw [List.all_cons,Bool.and_eq_true] at f
  rw [List.any_cons,List.any_cons,zTZ r f.1,zKF t f.2]
theorem zHE {A:Around} {s:Shared} {x:V} {v:Value} (rx:RelV x v) (fx:zKU x=true) : ∀ {xs:List V} {us:List Value},Vals xs us->xs.all zKU=true -> ∀ u ∈ us,SeqAt.EqAt A s u v (eqU x u)
 | _,_,.nil,_=>fun u hu=>by cases hu
 | y::xs,u::us,.cons r t,f=>fun u' hu=>by
  rw [List.all_cons,Bool.and_eq_true] at f
  rcases List.mem_cons.mp hu with rfl | hu
  ·rw [zTZ r f.1];exact zXQ r rx f.1 fx
  ·exact zHE rx fx t f.2 u' hu
def inV (x:V) (xs:List V):Bool:=xs.any fun y=>eqV y x
def rIn (K:W.Frag) (neg:Bool):R2:=fun x y H Q=>∃ p xs,y = .ref p/\(SqL K H p xs\/SqT K H p xs)/\zKU x=true/\xs.all zKU=true/\Q (.bl (if neg then !inV x xs else inV x xs)) H
theorem zRR:OpR X (compareOp .In) (rIn X.K false):=by
 intro pins s σ H x y v u Q I rx ry h
 obtain ⟨p,xs,rfl,hq,fx,fs,q⟩:=h
 cases ry
 rcases hq with hq | hq
 ·obtain ⟨its,r,pl,hz⟩:=I.list hq
  refine SeqAt.in_listAt (eqU x) pl.isList (fun w hw=>zHE rx fx r fs w (by simpa using hw)) ⟨.bl _,H,I,rfl,?_⟩
  rw [show its.toArray.any (eqU x)=its.any (eqU x) by simp,zKF r fs]
  exact q
 ·obtain ⟨its,r,pl,hz⟩:=I.tuple hq
  refine SeqAt.in_tupleAt (eqU x) pl (fun w hw=>zHE rx fx r fs w (by simpa using hw)) ⟨.bl _,H,I,rfl,?_⟩
  rw [show its.toArray.any (eqU x)=its.any (eqU x) by simp,zKF r fs]
  exact q
theorem zMf:OpR X (compareOp .NotIn) (rIn X.K true):=by
 intro pins s σ H x y v u Q I rx ry h
 obtain ⟨p,xs,rfl,hq,fx,fs,q⟩:=h
 cases ry
 rcases hq with hq | hq
 ·obtain ⟨its,r,pl,hz⟩:=I.list hq
  refine SeqAt.notIn_listAt (eqU x) pl.isList (fun w hw=>zHE rx fx r fs w (by simpa using hw)) ⟨.bl _,H,I,rfl,?_⟩
  rw [show its.toArray.any (eqU x)=its.any (eqU x) by simp,zKF r fs]
  exact q
 ·obtain ⟨its,r,pl,hz⟩:=I.tuple hq
  refine SeqAt.notIn_tupleAt (eqU x) pl (fun w hw=>zHE rx fx r fs w (by simpa using hw)) ⟨.bl _,H,I,rfl,?_⟩
  rw [show its.toArray.any (eqU x)=its.any (eqU x) by simp,zKF r fs]
  exact q
theorem zMm:zFV X (.builtin "len") (fun xs H Q=>∃ p ys,xs=[.ref p]/\(SqL X.K H p ys\/SqT X.K H p ys)/\Q (.int ys.length) H):=by
 intro pins s σ H xs us Q I r h
 obtain ⟨p,ys,rfl,hq,q⟩:=h
 obtain ⟨u,rfl,rx⟩:=zNP r
 cases rx
 have hn:=zMJ
 rcases hq with hq | hq
 ·obtain ⟨its,r',pl,hz⟩:=I.list hq
  have hlen:=r'.length
  exact Calls.call_len_list pl.isList (by simp only [size_toArray] <;> omega) ⟨.int ys.length,H,I.tok _,⟨s.toks+1,by rw [size_toArray,hlen]⟩,q⟩
 ·obtain ⟨its,r',pl,hz⟩:=I.tuple hq
  have hlen:=r'.length
  exact len_tuple pl (by simp only [size_toArray] <;> omega) ⟨.int ys.length,H,I.tok _,⟨s.toks+1,by rw [size_toArray,hlen]⟩,q⟩
theorem zL1:zFV X (.builtin "len") (fun xs H Q=>∃ z,xs=[.str z]/\z.length<=sizeLine/\Q (.int z.length) H):=by
 intro pins s σ H xs us Q I r h
 obtain ⟨z,rfl,hz,q⟩:=h
 obtain ⟨u,rfl,t,rfl⟩:=zNP r
 have hn:=zMJ
 exact len_str (by omega) ⟨.int z.length,H,I.tok _,⟨_,rfl⟩,q⟩
theorem zLt:zFV X (.type "list") (fun xs H Q=>∃ p ys,xs=[.ref p]/\(SqL X.K H p ys\/SqT X.K H p ys) /\ ∀ l,H l=none->Q (.ref l) (upd H l (.lst ys))):=by
 intro pins s σ H xs us Q I r h
 obtain ⟨p,ys,rfl,hq,q⟩:=h
 obtain ⟨u,rfl,rx⟩:=zNP r
 cases rx
 have fin : ∀ (its:List Value),Vals ys its->ys.length<=sizeLine -> ∀ (h':Heap) (c':Nat),(∀ b o',s.heap.get? b=some o'->h'.get? b=some o') ->
   h'.get? s.heap.objs.size=some { cls:=.type "list", dict:=none,data:=.seq its.toArray c',slots:=#[] }->EP X pins σ Q (.ref s.heap.objs.size) { s with heap:=h' }:=fun its r' hz h' c' kp e =>
  ⟨.ref s.heap.objs.size,_,I.laid (t':=s.toks) kp (le_refl _) (show zD7 X.prog X.w _ h' _ (.lst ys) from ⟨hz,its,c',r',e⟩),rfl,q _ (I.hok.fresh (le_refl _))⟩
 rcases hq with hq | hq
 ·obtain ⟨its,r',pl,hz⟩:=I.list hq
  have hlen:=r'.length
  obtain ⟨o,ho,hc,n,hd⟩:=pl.isList
  exact call_list_seq p (.inl rfl) ho hc hd (fun h' c' kp e=>fin its r' hz h' c' kp e) (by simp only [size_toArray] <;> omega)
 ·obtain ⟨its,r',pl,hz⟩:=I.tuple hq
  have hlen:=r'.length
  obtain ⟨o,ho,hc,n,hd⟩:=pl
  exact call_list_seq p (.inr rfl) ho hc hd (fun h' c' kp e=>fin its r' hz h' c' kp e) (by simp only [size_toArray] <;> omega)
def tyV (K:W.Frag) (T:String) (x:V) (H:Hp):Prop:=match x with
 | .str _=>T = "str"
 | .int _=>T = "int"
 | .ref p=>(T = "list" /\ ∃ xs,SqL K H p xs)\/(T = "tuple" /\ ∃ o,K.lookup p=some o/\o.cls = .type "tuple" /\ o.dict=none) \/
   (T = "dict" /\ ((∃ kvs,H p=some (.dK kvs)) \/ ∃ kvs,H p=some (.dT kvs)))\/(T = "set" /\ ∃ S n,H p=some (.set S n))
 | _=>False
theorem zTI {pins:List (Addr × Obj)} {σ:St} {H:Hp} {T:String} {v:Value} (I:Inv X pins σ H s) (r:RelV x v) (ty:tyV X.K T x H) :
  s.TypeIs v T /\ ∀ a,v = .ref a -> ∃ ob,s.heap.get? a=some ob/\ob.dict=none:=by
 cases x with
 | str z =>
  obtain ⟨t,rfl⟩:=r
  cases (show T = "str" from ty)
  exact ⟨typeIs_str s z t,fun _ e=>nomatch e⟩
 | int i =>
  obtain ⟨t,rfl⟩:=r
  cases (show T = "int" from ty)
  exact ⟨typeIs_int s i t,fun _ e=>nomatch e⟩
 | ref p =>
  cases r
  rcases ty with ⟨rfl,xs,hq⟩ | ⟨rfl,o,hk,hc,hd⟩ | ⟨rfl,hk⟩ | ⟨rfl,S,n,hk⟩
  ·obtain ⟨its,_,pl,_⟩:=I.list hq
   refine ⟨pl.isList.typeIs,fun a e=>?_⟩
   cases e
   obtain ⟨o,n,e,c,hd,_⟩:=pl
   exact ⟨o,e,hd⟩
  ·refine ⟨⟨o,I.kIn p o hk,hc⟩,fun a e=>?_⟩
   cases e
   exact ⟨o,I.kIn _ o hk,hd⟩
  ·have z : ∃ o,s.heap.get? p=some o/\o.ExactDict:=by
    rcases hk with ⟨kvs,hk⟩ | ⟨kvs,hk⟩
    ·obtain ⟨_,_,_,_,o,_,_,e,ex,_⟩:=I.hok p _ hk
     exact ⟨o,e,ex⟩
    ·obtain ⟨_,_,_,_,o,_,_,e,ex,_⟩:=I.hok p _ hk
     exact ⟨o,e,ex⟩
   obtain ⟨o,e,ex⟩:=z
   refine ⟨⟨o,e,ex.1⟩,fun a e2=>?_⟩
   cases e2
   exact ⟨o,e,ex.2.1⟩
  ·obtain ⟨o,_,_,_,e,ex,_⟩:=I.hok p _ hk
   refine ⟨⟨o,e,ex.1⟩,fun a e2=>?_⟩
   cases e2
   exact ⟨o,e,ex.2.1⟩
 | _=>exact False.elim ty
def tBM0 (K:W.Frag) (T:String) (r:V->List V->Hp->VK->Prop) (to:TE):TE:=fun σ H Q=>to σ H fun x H1=>tyV K T x H1/\r x [] H1 Q
def tBM (K:W.Frag) (T:String) (r:V->List V->Hp->VK->Prop) (to:TE) (t:TA):TE:=fun σ H Q=>to σ H fun x H1=>tyV K T x H1/\t σ H1 fun xs H2=>r x xs H2 Q
variable {o e : Expr} {es : List Expr} {to : TE} {t : TA} {name : Str} {apos cpos : Pos} {T id : String} {r : V -> List V -> Hp -> VK -> Prop}
theorem zSk (pa:PlainAttrs T) (slot:Slot T name id) (hty:typeOf (.builtin id)=pure (.type "method_descriptor")) (hm:MtR X id r) (ho:PE X o to)
  (hbase:attributeBase o name X.env (eval o X.env)=eval o X.env:=by rfl) (hline:(apos.endLine == cpos.line)=true:=by rfl):PE X (.Call (.Attribute o name apos) [] [] cpos) (tBM0 X.K T r to):=by
 intro pins s σ H Q I h
 refine wpAny_Call_method0_late hbase hline (thn (ho pins s σ H _ I h) fun v s1 ⟨x,H1,I1,r1,ty,q1⟩=>?_)
 obtain ⟨h1,h2⟩:=zTI I1 r1 ty
 exact ⟨T,id,pa,slot,hty,h1,h2,Calls.callWith_builtin rfl (PySem.evalArgs_none (hm pins s1 σ H1 x [] v [] Q I1 r1 .nil q1))⟩
theorem zGL (pa:PlainAttrs T) (slot:Slot T name id) (hty:typeOf (.builtin id)=pure (.type "method_descriptor")) (hm:MtR X id r) (ho:PE X o to) (ha:PA X (e::es) t)
  (hbase:attributeBase o name X.env (eval o X.env)=eval o X.env:=by rfl)
  (hfew:((backTo cpos (starEach (e::es) X.env)).all (fun x=>!x.1) && (backToKw cpos (keywordEach [] X.env)).all (fun x=>x.1.isSome)
   && decide ((e::es).length+([]:List Keyword).length+(if ([]:List Keyword).isEmpty then 0 else 1) < 30))=true:=by rfl)
  (hline:(apos.endLine == cpos.line)=true:=by rfl) (hs:starEach (e::es) X.env=(false,eval e X.env)::starEach es X.env:=by rfl) (hplain:(backTo cpos (starEach es X.env)).any (·.1)=false:=by rfl) :
  PE X (.Call (.Attribute o name apos) (e::es) [] cpos) (tBM X.K T r to t):=by
 intro pins s σ H Q I h
 refine wpAny_Call_method_late hbase hfew hline rfl (thn (ho pins s σ H _ I h) fun v s1 ⟨x,H1,I1,r1,ty,q1⟩=>?_)
 obtain ⟨h1,h2⟩:=zTI I1 r1 ty
 refine ⟨T,id,pa,slot,hty,h1,h2,?_⟩
 have hA:=ha cpos pins s1 σ H1 _ I1 q1
 rw [hs] at hA ⊢
 refine Calls.callWith_builtin (by show (false || (backTo cpos (starEach es X.env)).any (·.1))=false;rw [hplain] <;> rfl) (Calls.evalArgs_plain ?_)
 exact thn hA fun us s2 ⟨vs,H2,I2,r2,q2⟩=>hm pins s2 σ H2 x vs v us Q I2 r1 r2 q2
end
def MtM (X:Cx) (id:String) (r:V->List V->Hp->VK->Prop):Prop:=
 ∀ (pins:List (Addr × Obj)) (s:Shared) (σ:St) (H:Hp) (x:V) (xs:List V) (v:Value) (us:List Value) (Q:VK),Inv X pins σ H s->RelV x v->Vals xs us->r x xs H Q ->
  wpAny (model X.prog X.w) X.A (call (.builtin id) (v::us)) (EP X pins σ Q) X.xe s
theorem Vals.one : ∀ {x:V} {us:List Value},Vals [x] us -> ∃ u,us=[u]/\RelV x u
 | _,_,.cons r .nil=>⟨_,rfl,r⟩
theorem Vals.zero : ∀ {us:List Value},Vals [] us->us=[]
 | _,.nil=>rfl
theorem Vals.dropLast {xs:List V} {us:List Value} (h:Vals xs us):Vals xs.dropLast us.dropLast:=by
 induction h with
 | nil=>exact .nil
 | cons r t ih =>
  cases t with
  | nil=>exact .nil
  | cons q t'=>exact .cons r ih
theorem Vals.eraseIdx : ∀ {xs:List V} {us:List Value} (i:Nat),Vals xs us->Vals (xs.eraseIdx i) (us.eraseIdx i)
 | _,_,_,.nil=>.nil
 | _,_,0,.cons _ t=>t
 | _,_,i+1,.cons r t=>.cons r (Vals.eraseIdx i t)
theorem Vals.reverse {xs:List V} {us:List Value} (h:Vals xs us):Vals xs.reverse us.reverse:=by
 induction h with
 | nil=>exact .nil
 | cons r t ih=>rw [List.reverse_cons,List.reverse_cons];exact Vals.append ih (.cons r .nil)
theorem Vals.rep {xs:List V} {us:List Value} (h:Vals xs us) : ∀ k:Nat,Vals (List.replicate k xs).flatten (List.replicate k us).flatten
 | 0=>.nil
 | k+1=>by
  rw [replicate_succ,replicate_succ,flatten_cons,flatten_cons]
  exact Vals.append h (Vals.rep h k)
theorem zPa {α:Type} (l:List α):l.eraseIdx (l.length - 1)=l.dropLast:=by
 induction l with
 | nil=>rfl
 | cons a r ih =>
  cases r with
  | nil=>rfl
  | cons b r =>
   have e:(a::b::r).length - 1=((b::r).length - 1)+1:=by
    have h1:(a::b::r).length=r.length+2:=rfl
    have h2:(b::r).length=r.length+1:=rfl
    omega
   rw [e,List.eraseIdx_cons_succ,ih]
   all_goals rfl
theorem zMQ (its:List Value) : ∀ (k:Nat) (acc:List Value),
  List.foldl (fun x1 x2=>x1++x2) acc.toArray (List.replicate k its.toArray)=(acc++(List.replicate k its).flatten).toArray
 | 0,acc=>by simp
 | k+1,acc=>by
  have e:acc.toArray++its.toArray=(acc++its).toArray:=by simp
  have e2:(acc++its)++(List.replicate k its).flatten=acc++(List.replicate (k+1) its).flatten:=by
   rw [replicate_succ,flatten_cons,List.append_assoc]
  rw [<- e2,<- zMQ its k (acc++its),<- e,replicate_succ,List.foldl_cons]
section
variable {X : Cx} {pins : List (Addr × Obj)} {σ : St} {H : Hp} {s : Shared} {l b : Addr} {xs ys zs : List V}
theorem Inv.lset {its its':List Value} {f:Array Value->Array Value} {t':Nat} (I:Inv X pins σ H s) (hH:H l=some (.lst xs))
  (e:s.heap.get? l=some { cls:=.type "list", data:=.seq its.toArray n }) (hf:f its.toArray=its'.toArray) (hv:Vals ys its') (hz:ys.length<=sizeLine) :
  Inv X pins σ (upd H l (.lst ys)) { s with heap:=s.heap.update l (Obj.mapSeq f),toks:=t' }:=by
 have q:=PySem.IsL.update e f
 rw [hf] at q
 refine I.write (x:=l) (e:=l) (by rw [hH];exact trivial) (.inl rfl) (fun b' u hb hu=>(Heap.get?_update_other s.heap (Obj.mapSeq f) (Ne.symm hb)).trans hu) ⟨_,q⟩ ?_
 exact ⟨hz,its',_,hv,q⟩
theorem Inv.lnew {its:List Value} {t':Nat} (I:Inv X pins σ H s) (hv:Vals ys its) (hz:ys.length<=sizeLine) :
  Inv X pins σ (upd H s.heap.objs.size (.lst ys)) { s with heap:=s.heap.push { cls:=.type "list", data:=.seq its.toArray },toks:=t' }:=
 I.laid (fun _ _ q=>Heap.get?_push_of_some _ q) (le_refl _) ⟨hz,its,0,hv,Heap.get?_push_size _ rfl⟩
theorem Inv.fresh (I:Inv X pins σ H s):H s.heap.objs.size=none:=I.hok.fresh (le_refl _)
theorem Inv.lstM (I:Inv X pins σ H s) (hH:H l=some (.lst xs)):xs.length<=sizeLine /\ ∃ (its:List Value) (n:Nat),Vals xs its/\xs.length=its.length/\s.heap.get? l=some { cls:=.type "list", data:=.seq its.toArray n }:=by
 obtain ⟨z,its,n,r,e⟩:=I.hok l _ hH
 exact ⟨z,its,n,r,r.length,e⟩
theorem zOR (h:n<=sizeLine):Builtin.List.listTooLong n=false:=by
 unfold Builtin.List.listTooLong
 exact decide_eq_false (by omega)
end
section
variable {X : Cx}
def zLn:V->List V->Hp->VK->Prop:=fun x vs H Q=>∃ l xs y,x = .ref l/\vs=[y]/\H l=some (.lst xs)/\xs.length < sizeLine/\Q .non (upd H l (.lst (xs++[y])))
theorem zDn:MtM X "list.append" zLn:=by
 intro pins s σ H x vs v us Q I rx rv h
 obtain ⟨l,xs,y,rfl,rfl,hH,hz,q⟩:=h
 cases rx
 obtain ⟨u,rfl,ru⟩:=rv.one
 obtain ⟨z,its,n,r,hl,e⟩:=I.lstM hH
 refine call_meets F.slot_list_append ⟨_,e,rfl⟩ F.entry_list_append (F.args_list_append_2 _ _) (PySem.list_append l its.toArray n u (by rw [size_toArray];omega)) ⟨e,?_⟩
 refine ⟨.non,_,I.lset (its':=its++[u]) hH e (by simp) (r.append (.cons ru .nil)) ?_,rfl,q⟩
 rw [length_append,List.length_singleton]
 omega
def zVD:V->List V->Hp->VK->Prop:=fun x vs H Q=>∃ l b xs zs,x = .ref l/\vs=[.ref b]/\H l=some (.lst xs)/\H b=some (.lst zs)/\xs.length+zs.length<=sizeLine/\Q .non (upd H l (.lst (xs++zs)))
theorem zPx:MtM X "list.extend" zVD:=by
 intro pins s σ H x vs v us Q I rx rv h
 obtain ⟨l,b,xs,zs,rfl,rfl,hH,hB,hz,q⟩:=h
 cases rx
 obtain ⟨u,rfl,ru⟩:=rv.one
 cases ru
 obtain ⟨z,its,n,r,hl,e⟩:=I.lstM hH
 obtain ⟨z2,its2,n2,r2,hl2,e2⟩:=I.lstM hB
 have hsz:its.toArray.size+its2.toArray.size<=sizeLine:=by rw [size_toArray,size_toArray];omega
 have hlong : ¬ (!its.toArray.isEmpty && Builtin.List.listTooLong (its.toArray.size+its2.toArray.size))=true:=by
  rw [zOR hsz,Bool.and_false]
  exact Bool.false_ne_true
 refine call_meets F.slot_list_extend ⟨_,e,rfl⟩ F.entry_list_extend (F.args_list_extend_2 _ _)
  (AutoSeq1.list_extend_list_list_0 l its.toArray n b its2.toArray n2 hlong (by rw [size_toArray];omega) (by omega)) ⟨e,e2,?_⟩
 refine ⟨.non,_,I.lset (its':=its++its2) hH e (by simp) (r.append r2) ?_,rfl,q⟩
 rw [length_append]
 omega
def rPop:V->List V->Hp->VK->Prop:=fun x vs H Q=>∃ l xs y,x = .ref l/\vs=[]/\H l=some (.lst xs)/\xs[xs.length - 1]? = some y/\Q y (upd H l (.lst xs.dropLast))
theorem zYE:MtM X "list.pop" rPop:=by
 intro pins s σ H x vs v us Q I rx rv h
 obtain ⟨l,xs,y,rfl,rfl,hH,hy,q⟩:=h
 cases rx
 have hus:=rv.zero
 subst hus
 obtain ⟨z,its,n,r,hl,e⟩:=I.lstM hH
 obtain ⟨u,hu,ru⟩:=r.get hy
 have hy':its.toArray[its.toArray.size - 1]? = some u:=by
  show its.toArray[its.length - 1]? = some u
  rw [<- Array.getElem?_toList,<- hl]
  exact hu
 refine call_meets F.slot_list_pop ⟨_,e,rfl⟩ F.entry_list_pop (F.args_list_pop_1 _) (MeetsSeq.list_pop_last l its.toArray n u hy' (by rw [size_toArray];omega)) ⟨e,?_⟩
 refine ⟨y,_,I.lset (its':=its.dropLast) hH e ?_ r.dropLast ?_,ru,q⟩
 ·show its.toArray.eraseIdxIfInBounds (its.toArray.size - 1)=its.dropLast.toArray
  rw [size_toArray,List.eraseIdxIfInBounds_toArray,zPa]
 ·rw [List.length_dropLast]
  omega
def zNs:V->List V->Hp->VK->Prop:=fun x vs H Q=>∃ l xs,x = .ref l/\vs=[]/\H l=some (.lst xs)/\Q .non (upd H l (.lst xs.reverse))
theorem zKx:MtM X "list.reverse" zNs:=by
 intro pins s σ H x vs v us Q I rx rv h
 obtain ⟨l,xs,rfl,rfl,hH,q⟩:=h
 cases rx
 have hus:=rv.zero
 subst hus
 obtain ⟨z,its,n,r,hl,e⟩:=I.lstM hH
 refine call_meets F.slot_list_reverse ⟨_,e,rfl⟩ F.entry_list_reverse (F.args_list_reverse_1 _) (AutoSeq1.list_reverse_list_0 l its.toArray n (by rw [size_toArray];omega)) ⟨e,?_⟩
 refine ⟨.non,_,I.lset (its':=its.reverse) hH e (by simp) r.reverse ?_,rfl,q⟩
 rw [List.length_reverse]
 omega
def rCat:R2:=fun x y H Q=>∃ l b xs zs,x = .ref l/\y = .ref b/\H l=some (.lst xs)/\H b=some (.lst zs)/\xs.length+zs.length<=sizeLine /\ ∀ p,H p=none->Q (.ref p) (upd H p (.lst (xs++zs)))
theorem zDP:OpR X (binaryOp .Add) rCat:=by
 intro pins s σ H x y v u Q I rx ry h
 obtain ⟨l,b,xs,zs,rfl,rfl,hH,hB,hz,q⟩:=h
 cases rx
 cases ry
 obtain ⟨z,its,n,r,hl,e⟩:=I.lstM hH
 obtain ⟨z2,its2,n2,r2,hl2,e2⟩:=I.lstM hB
 refine PySem.P.add_list e e2 ?_ (by rw [size_toArray,size_toArray];omega)
 have ea:its.toArray++its2.toArray=(its++its2).toArray:=by simp
 rw [ea]
 exact ⟨.ref _,_,I.lnew (t':=s.toks) (r.append r2) (by rw [length_append];omega),rfl,q _ I.fresh⟩
def rRep:R2:=fun x y H Q=>∃ l k xs,x = .ref l/\y = .int k/\H l=some (.lst xs) /\ -(2 ^ 63)<=k/\k < 2 ^ 63/\xs.length*k.toNat<=sizeLine /\
 ∀ p,H p=none->Q (.ref p) (upd H p (.lst (List.replicate k.toNat xs).flatten))
theorem zVI {α:Type} (xs:List α) (k:Nat):(List.replicate k xs).flatten.length=k*xs.length:=by
 induction k with
 | zero=>simp
 | succ k ih=>rw [replicate_succ,flatten_cons,length_append,ih,Nat.succ_mul,Nat.add_comm]
theorem zKC:OpR X (binaryOp .Mult) rRep:=by
 intro pins s σ H x y v u Q I rx ry h
 obtain ⟨l,k,xs,rfl,rfl,hH,h1,h2,hz,q⟩:=h
 cases rx
 obtain ⟨t,rfl⟩:=ry
 obtain ⟨z,its,n,r,hl,e⟩:=I.lstM hH
 have hlen:its.toArray.size*k.toNat<=sizeLine:=by rw [size_toArray,<- hl];exact hz
 have hcap : ¬ its.toArray.size*k.toNat > (2 ^ 63 - 1) / 8:=by
  have:(sizeLine:Nat)<=(2 ^ 63 - 1) / 8:=by decide
  omega
 have hfit : ¬ (!Builtin.List.listFitsIndex k)=true:=by
  rw [fitsIndex_both h1 h2]
  exact Bool.false_ne_true
 have hlong : ¬ Builtin.List.listTooLong (its.toArray.size*k.toNat)=true:=by
  rw [zOR hlen]
  exact Bool.false_ne_true
 have hnew:List.foldl (fun x1 x2=>x1++x2) #[] (List.replicate (if its.toArray.isEmpty=true then 0 else k.toNat) its.toArray)=(List.replicate k.toNat its).flatten.toArray:=by
  have f0 : ∀ m:Nat,List.foldl (fun x1 x2=>x1++x2) #[] (List.replicate m its.toArray)=(List.replicate m its).flatten.toArray:=fun m=>by
   have:=zMQ its m []
   rw [List.nil_append] at this
   exact this
  rw [f0]
  cases its with
  | nil=>simp
  | cons a r'=>rw [if_neg (by simp)]
 refine wpAny_binaryOp_repeat_ref (T:="list") (U:="int") (by decide) ⟨_,e,rfl⟩ (fun s'=>typeIs_int s' k t) noFill_list_mul F.fills_int_mul F.slot_int_rmul repeat_list F.slot_int_index.lookup
  (call_meets F.slot_int_rmul (typeIs_int s k t) F.entry_int_rmul (F.args_int_rmul_2 _ _) (int___rmul___int_list k t l its.toArray n)
   ⟨e,rfl,⟨_,e,rfl⟩,call_meets F.slot_list_mul ⟨_,e,rfl⟩ F.entry_list_mul (F.args_list_mul_2 _ _) (AutoListH.list___mul___list_int_3 l its.toArray n k t hfit hcap hlong) ⟨e,?_⟩⟩)
 rw [hnew]
 exact ⟨.ref _,_,I.lnew (t':=s.toks) (r.rep k.toNat) (by rw [zVI,Nat.mul_comm];exact hz),rfl,q _ I.fresh⟩
end
section
variable {prog : Program} {w : World} {A : Around} {E : Value -> Shared -> Prop} {s : Shared}
set_option maxRecDepth 100000 in
end
end L2
namespace Att
open PySem PySem.W PySem.Calls PyProof.Rows
theorem zKG {P:Params} {h:Heap} : ∀ (ns:List Int) (vs:List Value),WellAll P h vs (ns.map WData.int)->IntsAre vs ns:=by
 intro ns
 induction ns with
 | nil =>
  intro vs w
  rw [List.map_nil] at w
  cases w
  exact .nil
 | cons n ns ih =>
  intro vs w
  rw [List.map_cons] at w
  cases w with
  | cons a b =>
   cases a
   exact .cons _ _ (ih _ b)
theorem zRA {l:OpenLaw} {n:Nat} (hn:l.most=some n) {P:Params} {h:Heap} {args:List WData} {vals:List Value}
  (hpre:l.row.toRowW.claim.pre args=true) (hwl:WellAll P h vals args) :
  ∃ a vs ns,vals=[Value.ref a]/\args=[WData.list (ns.map WData.int)]/\h.get? a=some { cls:=.type "list", data:=.seq vs.toArray }/\IntsAre vs ns/\ns.length<=n:=by
 have hsh:WShape.hasAll [] args [.list .int]=true:=(pre_splitW hpre).1
 have hc:l.pre.holds [] { args:=args }=true:=(pre_splitW hpre).2
 obtain ⟨d,r,rfl,h1,h2⟩:=hasAllW_cons hsh
 obtain rfl:=hasAllW_nil h2
 obtain ⟨xs,rfl,h3⟩:=hasW_list h1
 obtain ⟨ns,rfl⟩:=items_int h3
 have hlen:ns.length<=n:=by
  unfold OpenLaw.pre at hc
  have h4:(WTm.not (.lt (.lit (.int (n:Int))) (.len (.arg 0)))).holds [] { args:=[.list (ns.map .int)] }=true:=by
   have h4:=(holds_andW hc).1
   rw [hn] at h4
   exact h4
  have h5:=condW_of h4 (w_not (w_lt w_lit (w_len_list (w_arg rfl))))
  rw [List.length_map] at h5
  refine Nat.le_of_not_lt fun q=>?_
  have q':(n:Int) < ((ns.length:Nat):Int):=by omega
  first
   | (rw [decide_eq_true q'] at h5;exact absurd h5 (by decide))
   | (simp at h5;omega)
 cases hwl with
 | cons w1 w2 =>
  cases w2
  cases w1 with
  | list ho hall=>exact ⟨_,_,ns,rfl,rfl,ho,zKG ns _ hall,hlen⟩
theorem zPs (l:OpenLaw) (args:List WData):l.row.toRowW.claim.post args (.bool true) args=true:=
 postW_of (r:=l.row.toRowW) (X:=(true == true))
  (show WShape.has [] (.bool true) .bool=true by first | rfl | decide | simp [WShape.has,WShape.arms,WShape.armsAll])
  (show (WTm.eq .res (.lit (.bool true))).value [] { args:=args,res:=some (.bool true),after:=args }=some (.bool (true == true)) from w_eq_bool (w_res rfl) w_lit) rfl
theorem attach_call {l:OpenLaw} {n:Nat} {q:Program} {loose:List Str} {XP:(Str->Option Value)->Heap->Prop} {YP:World->Heap->Prop} {d:DefRec}
  (hn:l.most=some n) (hdf:d.params.defaults=[])
  (call : ∀ (w:World) (s₀ s₁:Shared) (mg mb:Str->Option Value) (fa:Addr) (o:Obj) (pm cd doc:Value) (a:Addr) (vs:List Value) (ns:List Int),
   Ground q loose [] XP w s₀ mg mb s₁.heap->YP w s₁.heap ->
   s₁.heap.get? fa=some o->o.data = .func (docDef d.name d.params d.body d.scope pm cd doc)->s₁.heap.CodeRec cd d.name->mg d.name=some (.ref fa) ->
   s₁.heap.get? a=some { cls:=.type "list", data:=.seq vs.toArray }->IntsAre vs ns->ns.length<=n->s₁.gens = #[] ->
   codeAny (model l.prog w) callerA (.call (.ref fa) ⟨[.ref a],[]⟩) (fun r s'=>r = .ok (.ret (.bool true))/\OldK s₁.heap s'.heap/\s'.os=s₁.os/\AllBare s'.gens) s₁) :
  WalkO q loose XP YP l.row.toRowW d [] (fun f vs=>PySem.call f vs):=by
 intro w s₀ s₁ mg mb G Y fa o pm cd doc dV kV ho hd hcd hD hmg hg args vals as hpre hlay hrd hwl hlo
 obtain rfl:dV = .none:=Dflts.none hD hdf
 obtain rfl:kV = .none:=Dflts.noKw hD
 obtain ⟨a,vs,ns,rfl,rfl,hobj,hints,hlen⟩:=zRA hn hpre hwl
 refine enter_call (codeAny_mono (call w s₀ s₁ mg mb fa o pm cd doc a vs ns G Y ho (fd_plain hd) hcd hmg hobj hints hlen hg) fun r s' hq=>?_)
 obtain ⟨rfl,h2,h3,h4⟩:=hq
 exact ⟨.inl ⟨.bool true,.bool true,[],rfl,fun _=>rfl,.bool true,zPs l _,fun _=>⟨List.Pairwise.nil,fun _ hm=>(nomatch hm)⟩⟩,h2,h3,h4⟩
end Att
namespace L2
open PySem PySem.Spec PyProof.Rows
open List (append_assoc drop_of_length_le drop_zero eq_nil_of_length_eq_zero find?_cons find?_toArray foldl_cons getD_eq_getElem?_getD getElem?_eq_getElem getElem?_map getElem_mem length_append length_cons length_drop length_map length_replicate length_reverse length_singleton length_take lookup_cons map_cons mem_append_left mem_append_right mem_cons replicate_succ reverse_reverse take_append_drop take_append_of_le_length take_length take_of_length_le take_succ take_take)
open Nat (eq_zero_or_pos le_trans lt_irrefl lt_of_lt_of_le lt_or_ge mod_eq_of_lt ne_of_lt)
open Int (max_eq_right)
theorem zML : ∀ {vs:List Value} {ns:List Int},IntsAre vs ns->Vals (ns.map V.int) vs
 | _,_,.nil=>.nil
 | _,_,.cons n t h=>.cons ⟨t,rfl⟩ (zML h)
def Only (H:Hp):Prop:=∀ b,H b=none \/ ∃ o xs,H b=some (.frz o (.lst xs))
variable {P:Program} {w:World} {K:W.Frag} {mg:Str->Option Value} {k:Nat} {a:Addr} {fd:FuncData} {x:Str} {sp:Sp}
theorem zSV {mb:Str->Option Value} {CX:CXT} {fa:Addr} {s₁:Shared} {vs:List Value} {ns:List Int}
  (KX:K.In s₁.heap) (hns:s₁.heap.Ns mainGlobals mg) (hb:s₁.heap.Ns builtinsNs mb) (hbb : ∀ x:Str,x ≠ "__name__" -> mb x=bootBuiltins x) (hlim:s₁.heap.NoLimit) (hg:s₁.gens = #[])
  (ha:s₁.heap.get? a=some { cls:=.type "list", data:=.seq vs.toArray }) (hi:IntsAre vs ns) (hl:ns.length<=sizeLine) (hr:Room k callerA)
  (F : ∀ base:Heap,K.In base->base.Ns mainGlobals mg->FnOk P w K mg base CX k fa fd [x] sp) (hbind : ∀ (s:Shared) (u:Value),BindsTo s fd ⟨[u],[]⟩ [(x,u)])
  (hsp : ∀ H:Hp,Only H->SqL K H a (ns.map V.int)->sp [.ref a] H (fun v _=>v = .bl true) fun _ _ _=>False)
  (hCX : ∀ H e s',CX [] H s₁ (fun _ _ _=>False) e s'->False) :
  codeAny (model P w) callerA (.call (.ref fa) ⟨[.ref a],[]⟩) (fun r s'=>r = .ok (.ret (.bool true))/\OldK s₁.heap s'.heap/\s'.os=s₁.os/\AllBare s'.gens) s₁:=by
 have rv:=zML hi
 have lenV:=hi.length
 have core : ∀ H:Hp,Only H->SqL K H a (ns.map V.int)->HOk P w H s₁.heap->(∀ b,H b≠none->b=a)->(H a≠none->K.lookup a=none) ->
   codeAny (model P w) callerA (.call (.ref fa) ⟨[.ref a],[]⟩) (fun r s'=>r = .ok (.ret (.bool true))/\OldK s₁.heap s'.heap/\s'.os=s₁.os/\AllBare s'.gens) s₁:=by
  intro H hO hS hok hA hK
  have base_of : ∀ {b:Addr} {o:Obj},s₁.heap.get? b=some o->H b=none->(hidT s₁.heap H).get? b=some o:=fun e n=>zRc e n
  have noA : ∀ {b:Addr} {o:Obj} {es:Array DictEntry} {ep:Nat},s₁.heap.get? b=some o->o.data = .dict es ep->H b=none:=fun {b o es ep} e d=>by
   cases q:H b with
   | none=>rfl
   | some u =>
    have e':b=a:=hA b (by rw [q];simp)
    subst e'
    rw [ha] at e;cases e
    have d':Data.seq vs.toArray _=Data.dict es ep:=d
    cases d'
  have nsK : ∀ {b:Addr} {m:Str->Option Value},s₁.heap.Ns b m->(hidT s₁.heap H).Ns b m:=fun {b m} ⟨o,es,ep,e,d,r⟩=>⟨o,es,ep,base_of e (noA e d),d,r⟩
  have hKb:K.In (hidT s₁.heap H):=fun b o e=>base_of (KX b o e) (by
   cases q:H b with
   | none=>rfl
   | some u =>
    have e':b=a:=hA b (by rw [q];simp)
    subst e'
    rw [hK (by rw [q];simp)] at e;cases e)
  have hM:Mod K mg (hidT s₁.heap H):=⟨hKb,nsK hns,⟨mb,nsK hb,hbb⟩,let ⟨mc,h1,h2⟩:=hlim;⟨mc,nsK h1,h2⟩⟩
  have e0:Env0 P w K mg (hidT s₁.heap H) callerA [] s₁ H:=⟨rfl,hM,fun b o e=>zU1 e,Nat.le_of_eq (zQl _ _),trivial,fun b hb=>absurd (show b ∈ ([]:List Addr) from hb) (by simp),hok,.of_eq hg⟩
  refine codeAny_mono ((F _ hKb (nsK hns)).run callerA [] s₁ H ⟨[.ref a],[]⟩ [.ref a] [.ref a] _ _ hr e0 (hbind s₁ (.ref a)) (.cons rfl .nil) (hsp H hO hS)) fun r s' h=>?_
  cases r with
  | error e=>exact (hCX H e s' h).elim
  | ok fl =>
   cases fl with
   | next=>exact False.elim h
   | brk=>exact False.elim h
   | cont=>exact False.elim h
   | ret u =>
    obtain ⟨v,H',os,bare,un,hok',r',q⟩:=h
    have q':v = .bl true:=q
    subst q'
    obtain rfl:u=Value.bool true:=r'
    refine ⟨rfl,OldK.of_keep fun b o e=>?_,os,bare⟩
    cases q:H b with
    | none=>exact un.keep b o e q (by intro z;exact absurd (show b ∈ ([]:List Addr) from z) (by simp)) (by simp)
    | some u =>
     rcases hO b with z | ⟨ob,xs,z⟩
     ·rw [q] at z;cases z
     ·have z2:=un.frzs b ob _ z
      obtain ⟨e1,_⟩:=hok b _ z
      obtain ⟨e2,_⟩:=hok' b _ z2
      rw [e] at e1;cases e1
      exact e2
 cases hk:K.lookup a with
 | some o =>
  have e:=KX a o hk
  rw [ha] at e
  cases e
  refine core (fun _=>none) (fun _=>.inl rfl) (.inr ⟨_,vs.toArray,_,hk,rfl,rfl,rfl,by rw [List.size_toArray,lenV];exact hl,by simpa using rv⟩) (fun b u z=>by have z':(none:Option HO)=some u:=z;cases z') (fun b z=>absurd rfl z) fun z=>absurd rfl z
 | none =>
  refine core (fun b=>if b=a then some (.frz { cls:=.type "list", data:=.seq vs.toArray } (.lst (ns.map V.int))) else none) (fun b=>?_) (.inl (.inr ⟨{ cls:=.type "list", data:=.seq vs.toArray },if_pos rfl⟩)) (fun b u z=>?_) (fun b z=>?_) fun _=>hk
  ·by_cases hb:b=a
   ·exact .inr ⟨_,_,if_pos hb⟩
   ·exact .inl (if_neg hb)
  ·by_cases hb:b=a
   ·have z':=(if_pos hb).symm.trans z
    cases z'
    subst hb
    exact ⟨ha,by rw [length_map];exact hl,vs,_,rv,ha⟩
   ·have z':=(if_neg hb).symm.trans z
    cases z'
  ·by_cases hb:b=a
   ·exact hb
   ·exact absurd (if_neg hb) z
variable {n:Nat}
theorem walk_of {l:W.OpenLaw} {q:Program} {loose:List Str} {XP:(Str->Option Value)->Heap->Prop} {YP:World->Heap->Prop} {d:DefRec} {K:Params->W.Frag} {CX:World->CXT} {sp:World->Sp}
  (hn:l.most=some n) (hn2:n<=sizeLine) (hdf:d.params.defaults=[]) (hr:Room k callerA)
  (hY : ∀ (w:World) (h:Heap),YP w h->(K w.params).In h)
  (F : ∀ (w:World) (mg:Str->Option Value) (fa:Addr) (h:Heap),(K w.params).In h->h.Ns mainGlobals mg->mg d.name=some (.ref fa) ->
   ∃ fd:FuncData,(∀ (s:Shared) (u:Value),BindsTo s fd ⟨[u],[]⟩ [(x,u)]) /\
    ∀ base:Heap,(K w.params).In base->base.Ns mainGlobals mg->FnOk l.prog w (K w.params) mg base (CX w) k fa fd [x] (sp w))
  (hsp : ∀ (w:World) (H:Hp) (a:Addr) (ns:List Int),ns.length<=n->Only H->SqL (K w.params) H a (ns.map V.int)->sp w [.ref a] H (fun v _=>v = .bl true) fun _ _ _=>False)
  (hCX : ∀ (w:World) (H:Hp) (s:Shared) (e:Value) (s':Shared),CX w [] H s (fun _ _ _=>False) e s'->False) :
  W.WalkO q loose XP YP l.row.toRowW d [] (fun f vs=>PySem.call f vs):=by
 refine Att.attach_call hn hdf fun w s₀ s₁ mg mb fa o pm cd doc a vs ns G Y ho hd hcd hmg hobj hints hlen hg=>?_
 have KX:=hY w _ Y
 obtain ⟨fd,hb,hF⟩:=F w mg fa _ KX G.T.g hmg
 exact zSV KX G.T.g G.T.b G.T.builtins G.T.nolimit hg hobj hints (le_trans hlen hn2) hr hF hb (fun H hO hS=>hsp w H a ns hlen hO hS) fun H e s'=>hCX w H s₁ e s'
def zB3 (s:Stmt) (j:Nat):Stmt:=match s with
 | .ClassDef _ _ _ body _ _ _ _ _ _ _=>body.getD j (.Pass ⟨0,0,0,0⟩)
 | _=>.Pass ⟨0,0,0,0⟩
def zAy (s:Stmt):Arguments:=match s with
 | .FunctionDef _ a _ _ _ _ _ _ _ _=>a
 | _=>{ posonlyargs:=[],args:=[],vararg:=none,kwonlyargs:=[],kw_defaults:=[],kwarg:=none,defaults:=[] }
def zAi (s:Stmt):List Stmt:=match s with
 | .FunctionDef _ _ b _ _ _ _ _ _ _=>b
 | _=>[]
def zAH (s:Stmt):Scope:=match s with
 | .FunctionDef _ _ _ _ _ _ sc _ _ _=>sc
 | _=>{ kind:=.function,names:=[],isGenerator:=false,isCoroutine:=false }
abbrev CX0:CXT:=fun _ _ _ _ _ _=>False
abbrev E0:XK:=fun _ _ _=>False
variable {X:Cx}
theorem zBV:zF8 CX0 X E0:=fun _ _ _ _ _ _ _ h=>h.elim
structure Fun (K:W.Frag) (x qual:Str) (st:Stmt) (f:Addr) (fd:FuncData):Prop where
 ex : ∃ (oc:Value) (od:Option Addr) (kV doc pm:Value) (an:Option Addr) (cdv ct:Value) (osl:Array (Option Value)),
  fd=W.fnOf x qual (zAy st) (zAi st) (zAH st) .none kV doc pm an cdv ct/\K.lookup f=some ⟨oc,od,.func fd,osl⟩/\W.codeIn K cdv qual=true
 kp:W.keepIn K (.ref f)=true
section
variable {P : Program} {w : World} {K : W.Frag} {mg : Str -> Option Value} {base : Heap}
variable {qual:Str} {st:Stmt} {f:Addr}
theorem Fun.ok {N ps:List Str} (F:Fun K x qual st f fd) (S:zAP N ps (zAH st)) (len : ∀ vs H Q E,sp vs H Q E->vs.length=ps.length)
  (hbody : ∀ (cdv:Value) (A:Around) (outer:List Env) (s:Shared) (H:Hp) (vs:List V) (Q:VK) (E:XK),Room k (A.deeper (envOfC qual (zAH st) s.heap.objs.size f cdv))->sp vs H Q E ->
   ∃ t,PSs (cxOf CX0 P w K mg base N qual (zAH st) f cdv A outer s H E).nox (zAi st) t/\t { nx:=fun _ H'=>Q .non H',rt:=Q } (start N vs) H):FnOk P w K mg base CX0 (k+1) f fd ps sp:=by
 obtain ⟨oc,od,kV,doc,pm,an,cdv,ct,osl,rfl,lk,hcd⟩:=F.ex
 refine zQx lk hcd S len fun A outer s H vs Q E hr hsp=>?_
 obtain ⟨t,h,q⟩:=hbody cdv A outer s H vs Q E hr hsp
 exact ⟨t,h.nox,q⟩
theorem Fun.binds {ps:List Str} (F:Fun K x qual st f fd)
  (h : ∀ (kV doc pm:Value) (an:Option Addr) (cdv ct:Value) (us:List Value),us.length=ps.length->bindArgs (W.fnOf x qual (zAy st) (zAi st) (zAH st) .none kV doc pm an cdv ct) ⟨us,[]⟩=pure (ps.zip us)):zCI K fd ps []:=by
 obtain ⟨oc,od,kV,doc,pm,an,cdv,ct,osl,rfl,lk,hcd⟩:=F.ex
 exact .all (h kV doc pm an cdv ct)
theorem zAn {oc:Value} {od an:Option Addr} {osl:Array (Option Value)} {kV doc pm cdv ct:Value} (l:K.lookup f=some ⟨oc,od,.func (W.fnOf x qual (zAy st) (zAi st) (zAH st) .none kV doc pm an cdv ct),osl⟩)
  (c:W.codeIn K cdv qual=true) (k:W.keepIn K (.ref f)=true):Fun K x qual st f (W.fnOf x qual (zAy st) (zAi st) (zAH st) .none kV doc pm an cdv ct):=⟨⟨oc,od,kV,doc,pm,an,cdv,ct,osl,rfl,l,c⟩,k⟩
end
theorem zBm (h:n<=1000):n < sizeLine:=Nat.lt_of_le_of_lt h (by decide)
section
variable {X : Cx}
theorem pv (i:Nat) {pos:Pos} (hN:X.N[i]? = some x:=by rfl) (hv:Vis X.env.scope x:=by first | exact Or.inl rfl | exact Or.inr (Or.inl rfl) | exact Or.inr (Or.inr rfl)) (hd:(x == ("__debug__" : Str))=false:=by decide)
  (hcd:(x == ("__classdict__" : Str))=false:=by decide):PE X (.Name x pos) (tVar i):=zVy hN hv hd hcd
end
variable {A B:Prop}
theorem iteF (h:B):if false=true then A else B:=by
 rw [if_neg Bool.false_ne_true]
 exact h
theorem iteT (h:A):if true=true then A else B:=by
 rw [if_pos rfl]
 exact h
def Same (H H':Hp):Prop:=∀ b o,H b=some o->H' b=some o
theorem Same.refl (H:Hp):Same H H:=fun _ _ h=>h
variable {H:Hp}
theorem Same.trans {H1 H2:Hp} (a:Same H H1) (b:Same H1 H2):Same H H2:=fun c o h=>b c o (a c o h)
variable {H':Hp} {l:Addr}
theorem Same.free (e:Same H H') (h:H' l=Option.none):H l=Option.none:=by
 cases q:H l with
 | none=>rfl
 | some o =>
  rw [e l o q] at h
  cases h
variable {xs:List V}
theorem Same.seq (e:Same H H') (h:SqL K H a xs):SqL K H' a xs:=by
 rcases h with (h | ⟨o,h⟩) | h
 ·exact .inl (.inl (e _ _ h))
 ·exact .inl (.inr ⟨o,e _ _ h⟩)
 ·exact .inr h
set_option maxHeartbeats 4000000
abbrev GL:Int:=100000000000000000000000000000000000000000000000000000000000000000000000000000000000000000000000000000000000000000000000000000000000000000000000000000000000000000000000000000000000000000000000000000000
theorem zPn {k:Int} (h1 : -GL < k) (h2:k < GL):Builtin.Int.intBits k<=1000:=by
 unfold Builtin.Int.intBits
 split
 ·exact Nat.zero_le _
 ·have hn:k.natAbs < 100000000000000000000000000000000000000000000000000000000000000000000000000000000000000000000000000000000000000000000000000000000000000000000000000000000000000000000000000000000000000000000000000000000:=by
   unfold GL at h1 h2;omega
  have hp:(100000000000000000000000000000000000000000000000000000000000000000000000000000000000000000000000000000000000000000000000000000000000000000000000000000000000000000000000000000000000000000000000000000000:Nat)<=2 ^ 999:=by decide +kernel
  have:k.natAbs.log2 < 999:=by
   rcases eq_zero_or_pos k.natAbs with h0 | hp'
   ·rw [h0];decide
   ·exact (Nat.log2_lt (Nat.ne_of_gt hp')).mpr (lt_of_lt_of_le hn hp)
  omega
def zRD (i j:Int):Prop:=(-GL < i/\i < GL)/\(-GL < j/\j < GL)
variable {i j:Int}
theorem zRD.ok (h:zRD i j):IntMulOk i j:=PySem.IntMulOk.of_le (zPn h.1.1 h.1.2) (zPn h.2.1 h.2.2) (by decide)
def zWO (i j:Int):Prop:=CMul i j\/zRD i j
def zXV (i j:Int):Prop:=0 < j/\j < GL
def zX1 (i j:Int):Prop:=j≠0 /\ -GL < j/\j < GL
theorem noPy (h1 : -GL < j) (h2:j < GL):Builtin.divisionGoesByPylong i j=false:=by
 refine PyProof.noPylong_of_log2 ?_
 have hn:j.natAbs < 100000000000000000000000000000000000000000000000000000000000000000000000000000000000000000000000000000000000000000000000000000000000000000000000000000000000000000000000000000000000000000000000000000000:=by
  unfold GL at h1 h2;omega
 have hp:(100000000000000000000000000000000000000000000000000000000000000000000000000000000000000000000000000000000000000000000000000000000000000000000000000000000000000000000000000000000000000000000000000000000:Nat)<=2 ^ 999:=by decide +kernel
 have:j.natAbs.log2 < 999:=by
  rcases eq_zero_or_pos j.natAbs with h0 | hp'
  ·rw [h0];decide
  ·exact (Nat.log2_lt (Nat.ne_of_gt hp')).mpr (lt_of_lt_of_le hn hp)
 omega
section
variable {X : Cx} {a b : Expr} {ta tb : TE} {pos : Pos}
theorem zEY:OpR X (binaryOp .Mult) (rI zWO fun i j=>.int (i*j)):=opI fun _ _ _ _ _ _ _ hc q=>mul_int q (hc.elim CMul.ok zRD.ok)
theorem zDL:OpR X (binaryOp .FloorDiv) (rI zXV fun i j=>.int (i / j)):=opI fun i j _ _ _ _ _ hc q=>by
 have h1:(0:Int) < j:=hc.1
 have h2:=hc.2
 exact floordiv_int (by omega) (by rw [Int.fdiv_eq_ediv_of_nonneg i (by omega)];exact q) (.inl (noPy (by unfold GL;omega) h2))
theorem zT8 {k:Int} {n1 n2:Nat} {p1 p2:Pos} (hc:CPow i j) (e:i ^ j.toNat=k):PE X (.BinOp (.Constant (.int i) n1 p1) .Pow (.Constant (.int j) n2 p2) pos) (tC (.int k)):=by
 intro pins s σ H Q I h
 refine zAR zVm zAG zAG pins s σ H Q I ⟨i,j,rfl,rfl,hc,?_⟩
 show Q (.int (i ^ j.toNat)) H
 rw [e];exact h
def clsV:V->Value
 | .ty T=>.type T
 | .ref C=>.ref C
 | _=>.none
def rIsi (K:W.Frag):List V->Hp->VK->Prop:=fun xs H Q=>∃ x c t b,xs=[x,c]/\TyOf K H x t/\(∃ T,c = .ty T \/ ∃ C,c = .ref C)/\W.kitOne K t (clsV c)=some b/\Q (.bl b) H
theorem zCt:zFV X (.builtin "isinstance") (rIsi X.K):=by
 intro pins s σ H xs us Q I r h
 obtain ⟨x,c,t,b,rfl,ty,hc,e,q⟩:=h
 obtain ⟨v,w,rfl,rx,rw'⟩:=zSe r
 have:w=clsV c:=by
  obtain ⟨T,rfl | ⟨C,rfl⟩⟩:=hc
  ·exact rw'
  ·exact rw'
 subst this
 exact zQ4 I rx ty e fun tk=>⟨.bl b,H,I.tok _,rfl,q⟩
theorem Vals.getD : ∀ {xs:List V} {us:List Value} (j:Nat) (h:j < us.length),Vals xs us->RelV (xs.getD j .non) us[j]
 | _,_,j,h,.nil=>absurd h (Nat.not_lt_zero _)
 | _,_,0,_,.cons r _=>r
 | _,_,j+1,h,.cons _ t=>Vals.getD j (Nat.lt_of_succ_lt_succ h) t
end
def Has (P:Program) (w:World) (K:W.Frag) (mg:Str->Option Value) (base:Heap) (x:Str) (k:Nat) (ps:List Str) (sp:Sp):Prop:=
 ∃ (f:Addr) (fd:FuncData),FnOk P w K mg base CX0 k f fd ps sp/\mg x=some (.ref f)/\W.keepIn K (.ref f)=true/\zCI K fd ps []
variable {ps:List Str} {p pos:Pos} {e:Expr} {es:List Expr} {t:TA}
theorem zAI (F:Has X.prog X.w X.K X.mg X.base x k ps sp) (hr:Room n X.A) (hg:Gl X x) (ha:PA X (e::es) t) (hk:k<=n:=by decide)
  (hdb:(x == ("__debug__" : Str))=false:=by decide) (he:starEach (e::es) X.env=(false,eval e X.env)::starEach es X.env:=by rfl) (hpl:(backTo pos (starEach es X.env)).any (·.1)=false:=by rfl) :
  PE X (.Call (.Name x p) (e::es) [] pos) (zNK sp [] E0 t):=by
 obtain ⟨f,fd,G,hm,kp,hb⟩:=F
 exact zVA G (hr.mono hk) hg hm kp hb .nil zBV ha hdb he hpl
theorem zAL {id:String} {r:List V->Hp->VK->Prop} (hc:zFV X (.builtin id) r) (hm:X.mg x=none) (hg:Gl X x) (hv:bootBuiltins x=some (.builtin id)) (ha:PA X (e::es) t) (hn:x ≠ "__name__" := by decide) (hdb:(x == ("__debug__" : Str))=false:=by decide)
  (he:starEach (e::es) X.env=(false,eval e X.env)::starEach es X.env:=by rfl) (hpl:(backTo pos (starEach es X.env)).any (·.1)=false:=by rfl):PE X (.Call (.Name x p) (e::es) [] pos) (tCB r t):=
 zRt hc hg hm hv ha hn hdb he hpl
theorem zDk {p:Addr} (h:H p=none) (o:HO):Same H (upd H p o):=fun b u q=>by rw [zBY (zB8 q h)];exact q
variable {o:HO}
theorem Same.at (g:Same H H') {b:Addr} (h:H b=some o):H' b=some o:=g b o h
theorem small (h:n<=1000):n<=sizeLine:=Nat.le_of_lt (zBm h)
section
variable {σ : St} {H : Hp} {Q : VK} {D : Ends} {K : W.Frag}
variable {v:V}
theorem zXg {i:Nat} (e:σ[i]? = some (some v)) (h:Q v H):tVar i σ H Q:=⟨v,e,h⟩
theorem r_c (h:Q v H):tC v σ H Q:=h
variable {ta tb:TE}
theorem r_op {r:R2} (h:ta σ H fun x H1=>tb σ H1 fun y H2=>r x y H2 Q):tOp r ta tb σ H Q:=h
theorem r_un {r:V->Hp->VK->Prop} (h:ta σ H fun x H1=>r x H1 Q):tUn r ta σ H Q:=h
theorem r_I {C:Int->Int->Prop} {g:Int->Int->V} (hc:C i j) (h:Q (g i j) H):rI C g (.int i) (.int j) H Q:=⟨i,j,rfl,rfl,hc,h⟩
theorem r_I0 {g:Int->Int->V} (h:Q (g i j) H):rI0 g (.int i) (.int j) H Q:=⟨i,j,rfl,rfl,h⟩
theorem r_U {g:Int->V} (h:Q (g i) H):rU g (.int i) H Q:=⟨i,rfl,h⟩
theorem zX3 (h:Q (.bl (decide (i=j))) H):rEq (.int i) (.int j) H Q:=⟨rfl,by rw [show decide (V.int i=V.int j)=decide (i=j) by by_cases e:i=j <;> simp [e]];exact h⟩
theorem zXi (h:Q (.bl (!decide (i=j))) H):rNe (.int i) (.int j) H Q:=⟨rfl,by rw [show decide (V.int i=V.int j)=decide (i=j) by by_cases e:i=j <;> simp [e]];exact h⟩
variable {b:Bool}
theorem zOf {y:Str} (e:decide (x=y)=b) (h:Q (.bl b) H):rEq (.str x) (.str y) H Q:=⟨rfl,by rw [show decide (V.str x=V.str y)=decide (x=y) by by_cases e:x=y <;> simp [e],e];exact h⟩
variable {R:Bool->Hp->Prop}
theorem zVl {t:TE} (h:t σ H fun x H'=>∃ k,x = .bl k/\R k H'):zUx t σ H R:=h
theorem r_tB {t:TE} (h:t σ H fun x H'=>∃ k,x = .bl k/\R k H'):tB t σ H R:=h
theorem zWo {R:Bool->Prop} (h:R b) : ∃ k,V.bl b = .bl k/\R k:=⟨b,rfl,h⟩
theorem zX7 {t u:TT} (h:t σ H fun c H1=>if c=true then u σ H1 R else R false H1):tAnd t u σ H R:=h
theorem r_or {t u:TT} (h:t σ H fun c H1=>if c=true then R true H1 else u σ H1 R):tOr t u σ H R:=h
theorem zXe {t:TT} (h:t σ H fun c H1=>R (!c) H1):tNot t σ H R:=h
theorem zWV (h:ta σ H fun x H1=>∃ c,x = .bl c/\if c=true then tb σ H1 Q else Q (.bl false) H1):zV2 ta tb σ H Q:=h
theorem zXj (h:ta σ H fun x H1=>∃ c,x = .bl c/\if c=true then Q (.bl true) H1 else tb σ H1 Q):tOrV ta tb σ H Q:=h
theorem zWc (h:ta σ H fun x H1=>∃ c,x = .bl c/\Q (.bl (!c)) H1):zVe ta σ H Q:=h
theorem zXq {t:TT} (h:t σ H fun c H1=>if c=true then ta σ H1 Q else tb σ H1 Q):tIf t ta tb σ H Q:=h
theorem zUX {r r':R2} {tc:TE} (h:ta σ H fun x H1=>tb σ H1 fun y H2=>r x y H2 fun z H3=>∃ k,z = .bl k/\(if k=true then tc σ H3 fun w' H4=>r' y w' H4 Q else Q (.bl false) H3)):zSv r r' ta tb tc σ H Q:=h
theorem zUa {t u:TS} (h:t { D with nx:=u D } σ H):tSeq t u D σ H:=h
theorem zWx (h:D.nx σ H):zXK D σ H:=h
variable {te:TE}
theorem zUg {g:TG} (h:te σ H fun x H1=>g x σ H1 D.nx):tAsg te g D σ H:=h
theorem zWQ {i:Nat} {R:St->Hp->Prop} (h:R (σ.set i (some v)) H):zSH i v σ H R:=h
theorem zXn (h:te σ H D.rt):tRet te D σ H:=h
theorem zVn (h:te σ H fun _ H1=>D.nx σ H1):zWw te D σ H:=h
theorem zYB {c:TT} {t u:TS} (h:c σ H fun b H1=>if b=true then t D σ H1 else u D σ H1):tIfS c t u D σ H:=h
theorem zUV {R:List V->Hp->Prop} (h:R [] H):tNil σ H R:=h
theorem zWf {tr:TA} {R:List V->Hp->Prop} (h:ta σ H fun x H1=>tr σ H1 fun xs H2=>R (x::xs) H2):zWa ta tr σ H R:=h
theorem zWL {dvs:List V} {E:XK} (h:t σ H fun vs H1=>sp (vs++dvs) H1 Q E):zNK sp dvs E t σ H Q:=h
theorem r_cb {r:List V->Hp->VK->Prop} (h:t σ H fun vs H1=>r vs H1 Q):tCB r t σ H Q:=h
def kTup (Q:VK) (xs:List V) (H:Hp):Prop:=xs.length<=sizeLine /\ ∀ p,H p=none->Q (.ref p) (upd H p (.tup xs))
def kLst (Q:VK) (xs:List V) (H:Hp):Prop:=xs.length<=sizeLine /\ ∀ p,H p=none->Q (.ref p) (upd H p (.lst xs))
theorem zXy (h:t σ H (kTup Q)):tTup t σ H Q:=h
theorem zVT (h:t σ H (kLst Q)):tLst t σ H Q:=h
theorem zWe (hz:xs.length<=sizeLine) (h : ∀ p H',Same H H'->H' p=some (.tup xs)->Q (.ref p) H'):kTup Q xs H:=⟨hz,fun p hp=>h p _ (zDk hp _) zAU⟩
theorem zXu {p:Addr} (h:H p=some (.tup xs)) (e:atI xs i=some v) (q:Q v H):rIxT K (.ref p) (.int i) H Q:=⟨p,xs,i,v,rfl,rfl,SqT.of h,e,q⟩
theorem zVU {p:Addr} (h:SqL K H p xs) (e:atI xs i=some v) (q:Q v H):rIxL K (.ref p) (.int i) H Q:=⟨p,xs,i,v,rfl,rfl,h,e,q⟩
theorem zHw {x c:V} {t:Value} (ty:TyOf K H x t) (hc : ∃ T,c = .ty T \/ ∃ C,c = .ref C) (e:W.kitOne K t (clsV c)=some b) (q:Q (.bl b) H):rIsi K [x,c] H Q:=⟨x,c,t,b,rfl,ty,hc,e,q⟩
end
def CPos (_ j:Int):Prop:=0 < j
def CNn (_ j:Int):Prop:=0<=j
def CNz (_ j:Int):Prop:=j≠0
theorem zC0:OpR X (binaryOp .Mod) (rI CPos fun i j=>.int (i % j)):=zWl
theorem zQh:OpR X (binaryOp .RShift) (rI CNn fun i j=>.int (i / 2 ^ j.toNat)):=zXT
section
variable {σ : St} {H : Hp} {Q : VK} {D : Ends} {K : W.Frag}
variable {tb:TS}
theorem zXl {W:Nat->St->Hp->Prop} {m:Nat} (h:tb { D with nx:=fun σ' H'=>∃ m',m' < m/\W m' σ' H',ct:=fun σ' H'=>∃ m',m' < m/\W m' σ' H',bk:=D.nx } σ H) :
  ∃ N:St->Hp->Prop,(∀ σ' H',N σ' H' -> ∃ m',m' < m/\W m' σ' H')/\tb { D with nx:=N,ct:=N,bk:=D.nx } σ H:=⟨_,fun _ _ h=>h,h⟩
theorem zLB {c:TT} (W:Nat->St->Hp->Prop) (h0 : ∃ m,W m σ H) (hs : ∀ m σ H,W m σ H->c σ H fun b H1=>if b=true then ∃ N:St->Hp->Prop,(∀ σ' H',N σ' H' -> ∃ m',m' < m/\W m' σ' H')/\tb { D with nx:=N,ct:=N,bk:=D.nx } σ H1 else D.nx σ H1):zTN c tb D σ H:=⟨W,h0,hs⟩
def zVi (K:PySem.W.Frag) (g:TG) (tb:TS) (D:Ends) (σ:St) (x:V) (H:Hp):Prop:=∃ a,x = .ref a/\(∃ xs,SqL K H a xs) /\ ∃ W:Nat->Nat->St->Hp->Prop,(∃ m,W 0 m σ H) /\ ∀ i m σ H,W i m σ H ->
 ((Itl K a).stop i H/\D.nx σ H)\/((Itl K a).go i H /\ ∃ N:St->Hp->Prop,(∀ σ' H',N σ' H' -> ∃ m',m' < m/\W (i+1) m' σ' H') /\ ∀ x H',(Itl K a).yld i H x H'->g x σ H' fun σ2 H2=>tb { D with nx:=N,ct:=N,bk:=D.nx } σ2 H2)
variable {g:TG}
theorem zVa {tl:TE} (h:tl σ H (zVi K g tb D σ)):tFor (zUb K tl) g tb D σ H:=h
theorem zT1 (hx:SqL K H a xs) (Pv:Nat->St->Hp->Prop) (h0:Pv 0 σ H) (hl : ∀ i σ H,i<=xs.length->Pv i σ H->SqL K H a xs)
  (hs : ∀ i x σ H,xs[i]? = some x->Pv i σ H->g x σ H fun σ2 H2=>tb { D with nx:=Pv (i+1),ct:=Pv (i+1),bk:=D.nx } σ2 H2) (hd : ∀ σ H,Pv xs.length σ H->D.nx σ H):zVi K g tb D σ (.ref a) H:=⟨a,rfl,⟨xs,hx⟩,zSh Pv h0 hl hs hd⟩
def zVq (g:TG) (tb:TS) (D:Ends) (σ:St) (vs:List V) (H:Hp):Prop:=∃ j:Int,vs=[.int j] /\ -(2 ^ 62)<=j/\j < 2 ^ 62 /\ ∃ W:Nat->Nat->St->Hp->Prop,(∃ m,W 0 m σ H) /\ ∀ i m σ H,W i m σ H ->
 ((Itr 0 j.toNat).stop i H/\D.nx σ H)\/((Itr 0 j.toNat).go i H /\ ∃ N:St->Hp->Prop,(∀ σ' H',N σ' H' -> ∃ m',m' < m/\W (i+1) m' σ' H') /\ ∀ x H',(Itr 0 j.toNat).yld i H x H'->g x σ H' fun σ2 H2=>tb { D with nx:=N,ct:=N,bk:=D.nx } σ2 H2)
theorem zW6 {ta:TA} (h:ta σ H (zVq g tb D σ)):tFor (zUh ta) g tb D σ H:=h
theorem zJq (h1 : -(2 ^ 62)<=j) (h2:j < 2 ^ 62) (Pv:Nat->St->Hp->Prop) (h0:Pv 0 σ H)
  (hs : ∀ i σ H,i < j.toNat->Pv i σ H->g (.int (0+i)) σ H fun σ2 H2=>tb { D with nx:=Pv (i+1),ct:=Pv (i+1),bk:=D.nx } σ2 H2) (hd : ∀ σ H,Pv j.toNat σ H->D.nx σ H):zVq g tb D σ [.int j] H:=⟨j,rfl,h1,h2,zL8 Pv h0 hs hd⟩
variable {R:St->Hp->Prop}
theorem zWi {t:TGs} (h:H a=some (.tup xs)) (hn:xs.length=n) (k:t xs σ H R):gTup K n t (.ref a) σ H R:=⟨a,xs,rfl,SqT.of h,hn,k⟩
theorem zVP {t:TG} {u:TGs} {v:V} {r:List V} (h:t v σ H fun σ' H'=>u r σ' H' R):zXG t u (v::r) σ H R:=⟨v,r,rfl,h⟩
theorem zV7 (h:R σ H):gNil [] σ H R:=⟨rfl,h⟩
end
def rAbs:List V->Hp->VK->Prop:=fun xs H Q=>∃ i,xs=[.int i]/\Q (.int (if i < 0 then -i else i)) H
def zW7:List V->Hp->VK->Prop:=fun xs H Q=>∃ i j,xs=[.int i,.int j]/\Q (.int (if j > i then j else i)) H
def zWR:List V->Hp->VK->Prop:=fun xs H Q=>∃ i j,xs=[.int i,.int j]/\Q (.int (if j < i then j else i)) H
def zSR (K:W.Frag):List V->Hp->VK->Prop:=fun xs H Q=>∃ p ys,xs=[.ref p]/\(SqL K H p ys\/SqT K H p ys)/\Q (.int ys.length) H
section
variable {X : Cx} {H : Hp} {Q : VK} {K : W.Frag}
theorem zH5:zFV X (.builtin "abs") rAbs:=zRi
theorem zG1 (hc:X.calm=true):zFV X (.builtin "max") zW7:=zPp hc
theorem zG2 (hc:X.calm=true):zFV X (.builtin "min") zWR:=zQW hc
theorem zBR:zFV X (.builtin "len") (zSR X.K):=zMm
theorem zWT (h : ∀ k:Int,(0<=i/\k=i)\/(i < 0/\k = -i)->Q (.int k) H):rAbs [.int i] H Q:=⟨i,rfl,h _ (by split <;> omega)⟩
theorem zUf (h : ∀ k:Int,(i < j/\k=j)\/(j<=i/\k=i)->Q (.int k) H):zW7 [.int i,.int j] H Q:=⟨i,j,rfl,h _ (by split <;> omega)⟩
theorem zUR (h : ∀ k:Int,(j < i/\k=j)\/(i<=j/\k=i)->Q (.int k) H):zWR [.int i,.int j] H Q:=⟨i,j,rfl,h _ (by split <;> omega)⟩
theorem zUe {p:Addr} {a b:V} (h:H p=some (.tup [a,b])) (q:Q (.int 2) H):zSR K [.ref p] H Q:=⟨p,[a,b],rfl,.inr (SqT.of h),q⟩
theorem zS1 {p:Addr} {ys:List V} (h:SqL K H p ys) (q:Q (.int ys.length) H):zSR K [.ref p] H Q:=⟨p,ys,rfl,.inl h,q⟩
end
theorem zTB:bootBuiltins "int" = some (.type "int"):=by decide +kernel
theorem zQ2:bootBuiltins "bool" = some (.type "bool"):=by decide +kernel
theorem zN1:bootBuiltins "tuple" = some (.type "tuple"):=by decide +kernel
theorem zOa:bootBuiltins "str" = some (.type "str"):=by decide +kernel
theorem zKJ:bootBuiltins "list" = some (.type "list"):=by decide +kernel
theorem zBC:bootBuiltins "isinstance" = some (.builtin "isinstance"):=by decide +kernel
theorem zN6:bootBuiltins "abs" = some (.builtin "abs"):=by decide +kernel
theorem zOJ:bootBuiltins "max" = some (.builtin "max"):=by decide +kernel
theorem zNx:bootBuiltins "min" = some (.builtin "min"):=by decide +kernel
theorem zBF:bootBuiltins "len" = some (.builtin "len"):=by decide +kernel
def kitC (T T':String):Option Bool:=if (Value.type T == Value.type T')=true then some true else if W.kitMeta T'=true then (fastBuiltinMro T).map (·.contains (Value.type T')) else none
variable {b:Bool}
theorem zHY (K:W.Frag) (T T':String) (h:kitC T T'=some b):W.kitOne K (.type T) (.type T')=some b:=h
theorem zM1 (K:W.Frag):W.kitOne K (.type "int") (.type "int")=some true:=zHY K _ _ (by decide +kernel)
theorem zME (K:W.Frag):W.kitOne K (.type "int") (.type "bool")=some false:=zHY K _ _ (by decide +kernel)
theorem zLr (K:W.Frag):W.kitOne K (.type "bool") (.type "int")=some true:=zHY K _ _ (by decide +kernel)
theorem zKP (K:W.Frag):W.kitOne K (.type "tuple") (.type "tuple")=some true:=zHY K _ _ (by decide +kernel)
theorem zNW (K:W.Frag):W.kitOne K (.type "str") (.type "int")=some false:=zHY K _ _ (by decide +kernel)
theorem zNc (K:W.Frag):W.kitOne K (.type "str") (.type "str")=some true:=zHY K _ _ (by decide +kernel)
theorem zMK (K:W.Frag):W.kitOne K (.type "list") (.type "int")=some false:=zHY K _ _ (by decide +kernel)
theorem zLg (K:W.Frag):W.kitOne K (.type "tuple") (.type "int")=some false:=zHY K _ _ (by decide +kernel)
theorem zJE (K:W.Frag):W.kitOne K (.type "NoneType") (.type "int")=some false:=zHY K _ _ (by decide +kernel)
theorem zMc (K:W.Frag):W.kitOne K (.type "dict") (.type "int")=some false:=zHY K _ _ (by decide +kernel)
section
variable {H : Hp} {Q : VK} {K : W.Frag}
theorem zRo (q:Q (.bl true) H):rIsi K [.int i,.ty "int"] H Q:=zHw (.int i) ⟨_,.inl rfl⟩ (zM1 K) q
theorem zSO (q:Q (.bl false) H):rIsi K [.int i,.ty "bool"] H Q:=zHw (.int i) ⟨_,.inl rfl⟩ (zME K) q
theorem zSJ {p:Addr} (h:H p=some (.tup xs)) (q:Q (.bl true) H):rIsi K [.ref p,.ty "tuple"] H Q:=zHw (.tup h) ⟨_,.inl rfl⟩ (zKP K) q
end
variable {c:Prop}
theorem i_d [Decidable c] (h1:c->A) (h2 : ¬ c->B):if decide c=true then A else B:=by
 by_cases h:c
 ·rw [if_pos (decide_eq_true h)];exact h1 h
 ·rw [if_neg (by rw [decide_eq_false h];decide)];exact h2 h
theorem i_nd [Decidable c] (h1:c->B) (h2 : ¬ c->A):if (!decide c)=true then A else B:=by
 by_cases h:c
 ·rw [decide_eq_true h];exact h1 h
 ·rw [decide_eq_false h];exact h2 h
theorem i_dP [Decidable c] (h:c) (h1:A):if decide c=true then A else B:=i_d (fun _=>h1) (fun n=>absurd h n)
theorem i_dN [Decidable c] (h : ¬ c) (h1:B):if decide c=true then A else B:=i_d (fun n=>absurd n h) (fun _=>h1)
theorem zXb [Decidable c] (h:c) (h1:B):if (!decide c)=true then A else B:=i_nd (fun _=>h1) (fun n=>absurd h n)
theorem zX4 [Decidable c] (h : ¬ c) (h1:A):if (!decide c)=true then A else B:=i_nd (fun n=>absurd n h) (fun _=>h1)
theorem i_b (h1:b=true->A) (h2:b=false->B):if b=true then A else B:=by
 cases b with
 | true=>rw [if_pos rfl];exact h1 rfl
 | false=>rw [if_neg (by decide)];exact h2 rfl
theorem i_nT (h:B):if (!true)=true then A else B:=h
theorem i_nF (h:A):if (!false)=true then A else B:=h
def zDS (X:Cx) (scope:Scope) (cl:List (Str × Addr)) (N':List Str) (C:Addr) (s₂:Shared) (H₂:Hp) (fp:List Addr):Cx where
 prog:=X.prog
 w:=X.w
 K:=X.K
 mg:=X.mg
 base:=X.base
 A:=X.A
 N:=N'
 s₀:=s₂
 H₀:=H₂
 env:=compEnvC scope cl C X.env
 outer:=X.stack
 stack:=X.stack
 ex:=fp
 calm:=X.calm
 fn:=fun _=>false
 pn:=[]
 xe:=fun _ _=>False
def ClOk (cells:List (Str × Addr)):List (Str × Addr)->Prop
 | []=>True
 | p::r=>cells.lookup p.1=some p.2/\ClOk cells r
theorem ClOk.look {cells:List (Str × Addr)} : ∀ {cl:List (Str × Addr)} {x:Str} {c:Addr},ClOk cells cl->cl.lookup x=some c->cells.lookup x=some c
 | [],_,_,_,h=>by simp at h
 | (y,d)::r,x,c,⟨h1,h2⟩,h=>by
  rw [lookup_cons] at h
  cases e:x == y with
  | true =>
   rw [e] at h
   have e':x=y:=eq_of_beq e
   cases h
   rw [e'];exact h1
  | false =>
   rw [e] at h
   exact ClOk.look h2 h
def FrOk (X:Cx) (scope:Scope):List Str->List Nat->Prop
 | [],[]=>True
 | y::r,j::js=>(X.N[j]? = some y/\scope.names.lookup y=some .free/\(X.env.kindOf y=some .cell\/X.env.kindOf y=some .free))/\FrOk X scope r js
 | _,_=>False
theorem FrOk.get {X:Cx} {scope:Scope} : ∀ {fr:List Str} {js:List Nat} {k:Nat} {y:Str},FrOk X scope fr js->fr[k]? = some y -> ∃ j,js[k]? = some j/\X.N[j]? = some y/\scope.names.lookup y=some .free/\(X.env.kindOf y=some .cell\/X.env.kindOf y=some .free)
 | [],_,_,_,_,h=>by simp at h
 | _::_,[],_,_,h,_=>h.elim
 | y::r,j::js,0,z,⟨h1,_⟩,h=>by simp at h;subst h;exact ⟨j,rfl,h1⟩
 | y::r,j::js,k+1,z,⟨_,h2⟩,h=>by
  obtain ⟨j',e,q⟩:=FrOk.get (k:=k) h2 (by simpa using h)
  exact ⟨j',by simpa using e,q⟩
theorem FrOk.len {X:Cx} {scope:Scope} : ∀ {fr:List Str} {js:List Nat},FrOk X scope fr js->fr.length=js.length
 | [],[],_=>rfl
 | [],_::_,h=>h.elim
 | _::_,[],h=>h.elim
 | _::r,_::js,h=>by rw [length_cons,length_cons,FrOk.len h.2]
theorem zIy {env : Env} : ∀ {names : List (Str × NameKind)} {x : Str}, (∀ y ∈ names, y.2 ≠ .cell) ->
    ((names.map fun (n, k) => if (k == NameKind.free && env.scope.kind == .function && env.kindOf n == some .cell) then (n, NameKind.cell) else (n, k)).lookup x = some .cell \/
     (names.map fun (n, k) => if (k == NameKind.free && env.scope.kind == .function && env.kindOf n == some .cell) then (n, NameKind.cell) else (n, k)).lookup x = some .free) -> names.lookup x = some .free
  | [], _, _, h => by simp at h
  | (n, k) :: r, x, hc, h => by
    have ih := @zIy env r x (fun y hy => hc y (List.mem_cons_of_mem _ hy))
    rw [map_cons] at h
    dsimp only at h
    by_cases hb : (k == NameKind.free && env.scope.kind == .function && env.kindOf n == some .cell) = true
    · rw [if_pos hb] at h
      rw [lookup_cons] at h
      rw [lookup_cons]
      cases e : x == n with
      | true =>
        have : k = .free := by simp at hb; exact hb.1.1
        rw [this]
      | false =>
        rw [e] at h
        exact ih h
    · rw [if_neg hb] at h
      rw [lookup_cons] at h
      rw [lookup_cons]
      cases e : x == n with
      | true =>
        rw [e] at h
        have hk : k ≠ .cell := hc (n, k) List.mem_cons_self
        rcases h with h | h
        · exact absurd (Option.some.inj h) hk
        · exact h
      | false =>
        rw [e] at h
        exact ih h
theorem zGR {env : Env} (hk : env.scope.kind = .function) {x : Str} : ∀ {names : List (Str × NameKind)}, names.lookup x = some .free -> (env.kindOf x = some .cell \/ env.kindOf x = some .free) ->
    ((names.map fun (n, k) => if (k == NameKind.free && env.scope.kind == .function && env.kindOf n == some .cell) then (n, NameKind.cell) else (n, k)).lookup x = some .cell \/
     (names.map fun (n, k) => if (k == NameKind.free && env.scope.kind == .function && env.kindOf n == some .cell) then (n, NameKind.cell) else (n, k)).lookup x = some .free)
  | [], h, _ => by simp at h
  | (n, k) :: r, h, hx => by
    have ih := @zGR env hk x r
    rw [lookup_cons] at h
    rw [map_cons]
    dsimp only
    cases e : x == n with
    | true =>
      rw [e] at h
      have ek : k = .free := Option.some.inj h
      have en : x = n := eq_of_beq e
      subst ek
      rcases hx with hx | hx
      · left
        have hb : ((NameKind.free == NameKind.free) && env.scope.kind == .function && env.kindOf n == some .cell) = true := by rw [<- en, hx, hk]; decide
        rw [if_pos hb, lookup_cons, e]
      · right
        have hb : ¬ ((NameKind.free == NameKind.free) && env.scope.kind == .function && env.kindOf n == some .cell) = true := by rw [<- en, hx, hk]; decide
        rw [if_neg hb, lookup_cons, e]
    | false =>
      rw [e] at h
      rcases ih h hx with q | q
      · left
        split <;> rw [lookup_cons, e] <;> exact q
      · right
        split <;> rw [lookup_cons, e] <;> exact q
section
variable {X : Cx} {pins : List (Addr × Obj)} {σ : St} {H : Hp} {s : Shared}
theorem HOk.track {h:Heap} (x:HOk P w H h) (hn:H a=none) (new:zD7 P w (upd H a o) h a o):HOk P w (upd H a o) h:=fun b u e=>by
 by_cases hb:b=a
 ·subst hb;rw [zAU] at e;cases e;exact new
 ·rw [zBY hb] at e
  exact (x b u e).stay (fun c v _ q=>q) (fun c q=>by rw [zBY (zB8 q hn)];exact q) fun c xs q=>by rw [zBY (zB8 q hn)];exact q
theorem Inv.track (I:Inv X pins σ H s) (f:FpOk X pins H a) (new:zD7 X.prog X.w (upd H a o) s.heap a o):Inv X pins σ (upd H a o) s:=by
 obtain ⟨f0,f1,f2,f3,f4,f5⟩:=f
 have up : ∀ b,H b=none->b≠a->upd H a o b=none:=fun b e n=>by rw [zBY n];exact e
 have st : ∀ {b u},H b=some u->upd H a o b=some u:=fun {b u} e=>by rw [zBY (zB8 e f0)];exact e
 have na : ∀ b ob,X.s₀.heap.get? b=some ob->b ∉ X.ex->b≠a:=fun b ob e hx z=>by
  rcases f3 with q | q
  ·exact hx (z ▸ q)
  ·exact absurd (lt_of_lt_of_le (Heap.lt_size e) (z ▸ q)) (lt_irrefl _)
 refine ⟨I.ok,I.os,I.bare,⟨I.base.keep,I.base.slot,fun b ob e n hx=>up b (I.base.free b ob e n hx) (na b ob e hx),I.base.there,fun b xs e=>st (I.base.tups b xs e),fun b ob u e=>st (I.base.frzs b ob u e),fun b ps e=>?_⟩,I.loc,I.cell,up _ I.free (Ne.symm f1),fun x c e=>up c (I.freeC x c e) (f4 x c e),fun p hp=>?_,I.hok.track f0 new,I.len⟩
 ·obtain ⟨m,q⟩:=I.base.tbls b ps e
  exact ⟨m,st q⟩
 ·obtain ⟨e,n,r⟩:=I.pin p hp
  exact ⟨e,up _ n (f5 p hp),r⟩
end
def PIfs (Y:Cx) (ifs:List Expr) (t:TT):Prop:=
 ∀ (pins:List (Addr × Obj)) (s:Shared) (σ:St) (H:Hp) (R:Bool->Hp->Prop),Inv Y pins σ H s->t σ H R ->
  wpAny (model Y.prog Y.w) Y.A (forIn ifs true fun c r=>if r=true then do let ok <- isTrue c Y.env (eval c Y.env);pure (ForInStep.yield ok) else pure (ForInStep.yield r)) (TP Y pins σ R) Y.xe s
def zV8:TT:=fun _ H R=>R true H
theorem zCn {Y:Cx}:PIfs Y [] zV8:=fun _ _ _ H _ I h=>wpAny_tests_nil ⟨H,I,h⟩
theorem zEk {Y:Cx} {c:Expr} {t:TT} (h:PT Y c t):PIfs Y [c] t:=fun pins s σ H R I q=>wpAny_tests_one (h pins s σ H R I q)
def zPU (is : List Nat) (tt : TT) (te : TE) (σ : St) (Q : VK) (J : It) (H1 : Hp) : Prop := ∃ W : Nat -> Nat -> List V -> Hp -> Prop, (∃ m, W 0 m [] H1) /\ ∀ i m ys H, W i m ys H -> ys.length <= sizeLine /\
  ((J.stop i H /\ ∀ p, H p = none -> Q (.ref p) (upd H p (.lst ys))) \/
   (J.go i H /\ ys.length < sizeLine /\ ∀ x H', J.yld i H x H' -> tt (some x :: is.map fun j => (σ[j]?).getD none) H' fun ok H2 =>
     if ok = true then te (some x :: is.map fun j => (σ[j]?).getD none) H2 fun y H3 => ∃ m', m' < m /\ W (i + 1) m' (ys ++ [y]) H3 else ∃ m', m' < m /\ W (i + 1) m' ys H2))
def zPY (is:List Nat) (wi:TI) (tt:TT) (te:TE):TE:=fun σ H Q=>wi σ H fun J H1=>zPU is tt te σ Q J H1
section
variable {X : Cx} {elt iter : Expr} {ifs : List Expr} {x : Str} {px pos : Pos} {scope : Scope} {cl : List (Str × Addr)} {fr : List Str} {is : List Nat} {wi : TI} {tt : TT} {te : TE}
theorem zPm {pins:List (Addr × Obj)} {σ:St} {H₂:Hp} {s₂:Shared} {C:Addr} {fp:List Addr} {N':List Str} (I:Inv X pins σ H₂ s₂) (hC:s₂.heap.objs.size<=C) (hf : ∀ b ∈ fp,FpOk X pins H₂ b) (hfl : ∀ b ∈ fp,b < s₂.heap.objs.size)
  (hcell : ∀ y ∈ scope.names,y.2 ≠ .cell) (hkind:scope.kind = .function) (hcl:ClOk X.env.cells cl) (hfree:(scope.names.all fun p=>p.2 != .free || (cl.lookup p.1).isSome)=true):(zDS X scope cl N' C s₂ H₂ fp).Ok where
 mod:=I.mod
 kind:=hkind
 glob:=I.ok.glob
 blt:=I.ok.blt
 above:=hC
 inj:=fun x y c h1 h2=>I.ok.inj x y c (hcl.look h1) (hcl.look h2)
 has:=fun y h=>by
  have h':=zIy (env:=X.env) hcell h
  have hm:(y,NameKind.free) ∈ scope.names:=by
   have aux : ∀ {l:List (Str × NameKind)},l.lookup y=some .free->(y,NameKind.free) ∈ l:=by
    intro l
    induction l with
    | nil=>intro z;simp at z
    | cons p r ih =>
     intro z
     obtain ⟨n,k⟩:=p
     rw [lookup_cons] at z
     cases e:y == n with
     | true=>rw [e] at z;cases z;rw [eq_of_beq e];exact List.mem_cons_self
     | false=>rw [e] at z;exact List.mem_cons_of_mem _ (ih z)
   exact aux h'
  have q:((NameKind.free != NameKind.free) || (cl.lookup y).isSome)=true:=List.all_eq_true.mp hfree _ hm
  have q':(cl.lookup y).isSome=true:=by rw [bne_self_eq_false,Bool.false_or] at q;exact q
  exact Option.isSome_iff_exists.mp q'
 cab:=fun _ _ h _=>by cases h
 hd:=I.ok.hd
 frames:=I.ok.frames
 stk:=.inl rfl
 exf:=fun b hb=>⟨ne_of_lt (lt_of_lt_of_le (hfl b hb) hC),fun y c e=>(hf b hb).2.2.2.2.1 y c (hcl.look e)⟩
 bs:=I.bs
 bsz:=le_trans I.ok.bsz I.sz
 noex:=fun b o e hb=>by
  rcases (hf b hb).2.2.2.1 with q | q
  ·exact I.ok.noex b o e q
  ·exact absurd (lt_of_lt_of_le (Heap.lt_size e) (le_trans I.ok.bsz q)) (lt_irrefl _)
 exfs:=fun b hb z=>by
  rcases List.mem_cons.mp (I.stkSub b z) with q | q
  ·exact (hf b hb).2.1 q
  ·exact (hf b hb).2.2.1 q
 funs:=I.stack
 frf:=I.stkFree
def zPq (X:Cx) (pins:List (Addr × Obj)) (σ:St) (Q:VK) (acc:Value) (C:Addr) (r:Result) (s':Shared):Prop:=match r with
 | .ok _=>∃ (D:Addr) (H':Hp) (m:Str->Option Value),acc = .ref D/\Inv X pins σ H' s'/\s'.heap.Ns C m/\FpOk X pins H' C/\Q (.ref D) H'
 | .error _=>False
theorem zXw {M:Model} {A:Around} {E:Value->Shared->Prop} {s:Shared} {it u:Value} {Q1:Unit->Shared->Prop} {α:Type} {t:Sem α} {Q2:α->Shared->Prop} (h:wpAny M A (letOwnedTupleGo (.Name x px) it u) Q1 E s) (k : ∀ s,Q1 () s->wpAny M A t Q2 E s):wpAny M A t Q2 E s:=by
 have z:wpAny M A (letOwnedTupleGo (.Name x px) it u >>= fun _=>t) Q2 E s:=wpAny_bind (thn h fun _ s q=>k s q)
 rw [show letOwnedTupleGo (.Name x px) it u=pure () from rfl,pure_bind] at z
 exact z
theorem zMO {pins:List (Addr × Obj)} {σ:St} {Q:VK} {E:Value->Shared->Prop} {s₂:Shared} {H₂:Hp} {it:Addr} {fp:List Addr} {tn:Nat->Heap->Prop} {J:It}
  (hc:X.calm=true) (hcell : ∀ y ∈ scope.names,y.2 ≠ .cell) (hkind:scope.kind = .function) (hx:scope.names.lookup x=some .local) (hcl:ClOk X.env.cells cl)
  (hfree:(scope.names.all fun p=>p.2 != .free || (cl.lookup p.1).isSome)=true) (hfr:FrOk X scope fr is) (hnd:(x::fr).Nodup)
  (ht : ∀ C s₂ H₂ fp,PIfs (zDS X scope cl (x::fr) C s₂ H₂ fp) ifs tt) (he : ∀ C s₂ H₂ fp,PE (zDS X scope cl (x::fr) C s₂ H₂ fp) elt te)
  (I:Inv X pins σ H₂ s₂) (T:Turn X.prog X.w X.K (.Name x px) J fp it tn) (st:tn 0 s₂.heap) (hf : ∀ b ∈ fp,FpOk X pins H₂ b) (R:zPU is tt te σ Q J H₂) :
  wpAny (model X.prog X.w) X.A (newList []) (fun acc s₃=>wpAny (model X.prog X.w) X.A (newFunctionEnv scope X.env.globals cl [] X.env.qual none .none (some X.env)) (fun cenv s₄ =>
   codeAny (model X.prog X.w) X.A (.compStart (.ListComp elt [⟨.Name x px,iter,ifs,0⟩] scope pos) 0 (.ref it) acc { cenv with scope:=relabel scope X.env }) (zPq X pins σ Q acc cenv.locals) s₄) E s₃) E s₂:=by
 obtain ⟨W,⟨m0,w0⟩,turn⟩:=R
 refine wpAny_newObj_type (wpAny_newFunctionEnv hcell (by intro y hy;simp at hy) (fun h₁ hns₁ hsb₁=>?_) hkind)
 dsimp only at hns₁ hsb₁ ⊢
 generalize hH2:s₂.heap.push { cls:=.type "list", dict:=none,data:=.seq ([]:List Value).toArray }=G2 at hns₁ hsb₁ ⊢
 have hC:G2.objs.size=s₂.heap.objs.size+1:=by rw [<- hH2,Heap.size_push]
 have hDC:s₂.heap.objs.size≠G2.objs.size:=by rw [hC];exact ne_of_lt (Nat.lt_succ_self _)
 have below : ∀ b,b < s₂.heap.objs.size->b≠G2.objs.size/\b≠s₂.heap.objs.size:=fun b hb=>⟨by rw [hC];exact ne_of_lt (Nat.lt_succ_of_lt hb),ne_of_lt hb⟩
 have hfl : ∀ b ∈ fp,b < s₂.heap.objs.size:=fun b hb=>by obtain ⟨o,e,_⟩:=T.obj _ _ st b hb;exact Heap.lt_size e
 have old : ∀ b o,s₂.heap.get? b=some o->h₁.get? b=some o:=fun b o e=>hsb₁.extBut b o (below b (Heap.lt_size e)).1 (Heap.get?_push_of_some _ (hH2 ▸ Heap.get?_push_of_some _ e))
 have hacc:h₁.get? s₂.heap.objs.size=some { cls:=.type "list", data:=.seq ([]:List Value).toArray 0 }:=hsb₁.extBut _ _ hDC (Heap.get?_push_of_some _ (hH2 ▸ Heap.get?_push_size _ rfl))
 have hfresh : ∀ b,s₂.heap.objs.size<=b->H₂ b=none:=fun b hb=>I.hok.fresh hb
 have hCle:s₂.heap.objs.size<=G2.objs.size:=by rw [hC];exact Nat.le_succ _
 generalize hCe:G2.objs.size=C at *
 generalize hDe:s₂.heap.objs.size=D at *
 have ok:(zDS X scope cl (x::fr) C s₂ H₂ fp).Ok:=zPm I (by rw [hDe];exact hCle) hf (by rw [hDe];exact hfl) hcell hkind hcl hfree
 have hYc:(zDS X scope cl (x::fr) C s₂ H₂ fp).calm=true:=hc
 have hDfp : ∀ b ∈ fp,b≠D:=fun b hb=>ne_of_lt (hfl b hb)
 have hDst:D ∉ frs X.stack:=fun z=>by
  rcases List.mem_cons.mp (I.stkSub D z) with q | q
  ·have:=I.lt;rw [hDe,<- q] at this;exact lt_irrefl _ this
  ·exact I.nofs (by rw [hDe];exact Nat.le_refl _) q
 have hfY : ∀ {H':Hp} {its:List Value} {n:Nat},(∀ b ∈ fp,H' b=none) -> ∀ b ∈ fp,FpOk (zDS X scope cl (x::fr) C s₂ H₂ fp) [(D,{ cls:=.type "list", data:=.seq its.toArray n })] H' b:=fun hn b hb =>
  ⟨hn b hb,(ok.exf b hb).1,ok.exfs b hb,.inl hb,(ok.exf b hb).2,fun p hp=>by
   have e:p=(D,{ cls:=.type "list", data:=.seq _ _ }):=List.mem_singleton.mp hp
   rw [e];exact Ne.symm (hDfp b hb)⟩
 have lenF:(is.map fun j=>(σ[j]?).getD none).length=fr.length:=by rw [length_map,hfr.len]
 have I0:Inv (zDS X scope cl (x::fr) C s₂ H₂ fp) [(D,{ cls:=.type "list", data:=.seq ([]:List Value).toArray 0 })] (none::is.map fun j=>(σ[j]?).getD none) H₂ { s₂ with heap:=h₁,toks:=s₂.toks+([]:List (Str × Value)).length }:=by
  refine ⟨ok,rfl,I.bare,Un.kept old,⟨_,hns₁,fun i y v e1 e2 e3=>?_⟩,fun y c e=>?_,hfresh C hCle,fun y c e=>I.freeC y c (hcl.look e),fun p hp=>?_,I.hok.kept old,?_⟩
  ·cases i with
   | zero=>cases e2
   | succ k =>
    have e1':fr[k]? = some y:=e1
    have e2':(is.map fun j=>(σ[j]?).getD none)[k]? = some (some v):=e2
    obtain ⟨j,hj,hN,hfy,hkx⟩:=hfr.get e1'
    rw [getElem?_map,hj] at e2'
    have e4:(σ[j]?).getD none=some v:=Option.some.inj e2'
    have e5:σ[j]? = some (some v):=by
     cases q:σ[j]? with
     | none=>rw [q] at e4;cases e4
     | some o=>rw [q] at e4;have e4':o=some v:=e4;rw [e4']
    obtain ⟨m,hn,hl⟩:=id I.loc
    have hvis:Vis X.env.scope y:=hkx.elim (fun q=>.inr (.inl q)) fun q=>.inr (.inr q)
    obtain ⟨u,r,lk⟩:=hl j y v hN e5 hvis
    refine ⟨u,r,.inr ⟨zGR I.ok.kind hfy hkx,?_⟩⟩
    rcases lk with ⟨kl,_⟩ | ⟨_,c,ec,ic⟩
    ·rcases hkx with q | q <;> rw [kl] at q <;> cases q
    ·obtain ⟨c',ec'⟩:=ok.has y (zGR I.ok.kind hfy hkx)
     have:c'=c:=Option.some.inj ((hcl.look ec').symm.trans ec)
     rw [this] at ec'
     obtain ⟨o,ho,hd⟩:=ic
     exact ⟨c,ec',o,old c o ho,hd⟩
  ·obtain ⟨v,o,ho,hd⟩:=I.cell y c (hcl.look e)
   exact ⟨v,o,old c o ho,hd⟩
  ·have e:p=(D,{ cls:=.type "list", data:=.seq ([]:List Value).toArray 0 }):=List.mem_singleton.mp hp
   rw [e]
   exact ⟨hacc,hfresh D (Nat.le_refl _),hDC,hDst,fun v z=>by cases z⟩
  ·show (none::_).length=(x::fr).length
   rw [length_cons,length_cons,lenF]
 have loop : ∀ s₃:Shared,s₃={ s₂ with heap:=h₁,toks:=s₂.toks+([]:List (Str × Value)).length } ->
   codeAny (model X.prog X.w) X.A (.compLoop (.ListComp elt [⟨.Name x px,iter,ifs,0⟩] scope pos) 0 (.ref it) (.ref D) (compEnvC scope cl C X.env)) (zPq X pins σ Q (.ref D) C) s₃:=by
  rintro s₃ rfl
  refine codeAny_compLoop_tests (fun n s'=>∃ (i:Nat) (o:Option V) (ys:List V) (its:List Value) (k:Nat) (H':Hp),Inv (zDS X scope cl (x::fr) C s₂ H₂ fp) [(D,{ cls:=.type "list", data:=.seq its.toArray k })] (o::is.map fun j=>(σ[j]?).getD none) H' s' /\
   tn i s'.heap/\(∀ b ∈ fp,H' b=none)/\Vals ys its/\W i n ys H') ?_ m0 ⟨0,none,[],[],0,H₂,I0,T.keep _ _ _ st fun b _ o e=>old b o e,fun b hb=>(hf b hb).1,.nil,w0⟩
  rintro n s' ⟨i,o,ys,its,k,H',I',st',fr',vs,w'⟩
  obtain ⟨hlen,⟨stop,fin⟩ | ⟨go,hlt,step⟩⟩:=turn i n ys H' w'
  ·refine wpAny_mono (T.done (zDS X scope cl (x::fr) C s₂ H₂ fp) rfl rfl rfl hYc i _ s' _ H' (fun _ _=>False) I' (hfY fr') st' stop) (fun r s1 ⟨hr,I1⟩=>?_) fun _ _ z=>z.elim
   subst hr
   obtain ⟨pD,nD,_,_,_⟩:=I1.pin _ (mem_append_right _ (List.mem_singleton.mpr rfl))
   have IX:Inv X pins σ H' s1:=I.call' I1.os I1.base I1.hok I1.bare fun b hb=>⟨(hf b hb).2.2.2.1,(hf b hb).2.1,(hf b hb).2.2.2.2.1,(hf b hb).2.2.2.2.2⟩
   have fD:FpOk X pins H' D:=I.fpOk (by rw [hDe];exact Nat.le_refl _) nD
   obtain ⟨m,hn,_⟩:=id I1.loc
   have hC':H' C=none:=I1.free
   refine ⟨D,upd H' D (.lst ys),m,rfl,IX.track fD ⟨hlen,its,k,vs,pD⟩,hn,I.fpOk (by rw [hDe];exact hCle) (by rw [zBY (Ne.symm hDC)];exact hC'),fin D nD⟩
  ·refine wpAny_mono (T.item (zDS X scope cl (x::fr) C s₂ H₂ fp) rfl rfl rfl hYc i _ s' _ H' (fun _ _=>False) I' (hfY fr') st' go) (fun r s1 ⟨u,hr,h4⟩=>?_) fun _ _ z=>z.elim
   subst hr
   refine wpAny_mono (zXw (Q2:=fun _ s6=>_) h4 fun s2 ⟨v,H5,I5,r5,y5,st5,fr5⟩=>?_) (fun _ _ q=>q) fun _ _ z=>z.elim
   have I5':=I5.pinned (hfY fr5) (T.obj _ _ st5)
   refine thn (zAz (X:=zDS X scope cl (x::fr) C s₂ H₂ fp) (i:=0) hnd rfl (.inl (lookup_relabel_local hx)) (.inr (lookup_relabel_local hx)) _ s2 _ H5 v u (fun σ' H'=>σ'=(some v::is.map fun j=>(σ[j]?).getD none)/\H'=H5) I5' r5 ⟨rfl,rfl⟩) fun _ s6 ⟨σ6,H6,I6,e6,e7⟩=>?_
   subst e6 e7
   refine wpAny_mono (ht C s₂ H₂ fp _ s6 _ H6 _ I6 (step v H6 y5)) (fun ok7 s7 ⟨H7,I7,q7⟩=>?_) fun _ _ z=>z.elim
   have keep : ∀ {σ8:St} {H8:Hp} {s8:Shared},Inv (zDS X scope cl (x::fr) C s₂ H₂ fp) ([(D,{ cls:=.type "list", data:=.seq its.toArray k })]++zLs fp s2.heap) σ8 H8 s8->tn (i+1) s8.heap /\ ∀ b ∈ fp,H8 b=none:=fun {σ8 H8 s8} I8 =>
    ⟨T.keep _ _ _ st5 fun b hb o e=>(I8.pin (b,o) (mem_append_right _ (mem_append_right _ (zG6 hb e)))).1,fun b hb=>by
     obtain ⟨o,e,d⟩:=T.obj _ _ st5 b hb
     exact (I8.pin (b,o) (mem_append_right _ (mem_append_right _ (zG6 hb e)))).2.1⟩
   cases ok7 with
   | false =>
    obtain ⟨m',hm',w7⟩:=q7
    exact ⟨m',hm',i+1,_,ys,its,k,H7,I7.unpinned,(keep I7).1,(keep I7).2,vs,w7⟩
   | true =>
    refine wpAny_mono (he C s₂ H₂ fp _ s7 _ H7 _ I7 q7) (fun yv s8 ⟨y,H8,I8,r8,m',hm',w8⟩=>?_) fun _ _ z=>z.elim
    obtain ⟨pD,nD,neD,nfD,ncD⟩:=I8.pin (D,{ cls:=.type "list", data:=.seq its.toArray k }) (mem_append_right _ (mem_append_left _ (List.mem_singleton.mpr rfl)))
    have hl:=vs.length
    refine append_at (hsz:=by rw [List.size_toArray,<- hl];exact hlen) pD fun h9 sb9 hD9=>?_
    obtain ⟨st8,fr8⟩:=keep I8
    have I8':Inv (zDS X scope cl (x::fr) C s₂ H₂ fp) [] (some v::is.map fun j=>(σ[j]?).getD none) H8 s8:=I8.pins_of fun p hp=>nomatch hp
    have I9:Inv (zDS X scope cl (x::fr) C s₂ H₂ fp) [] (some v::is.map fun j=>(σ[j]?).getD none) H8 { s8 with heap:=h9 }:=
     I8'.turned (t':=s8.toks) (fun b o hb e=>(sb9.2 b hb).trans e) nD neD (.inr (by rw [<- hDe];exact Nat.le_refl _)) (fun y' c e z=>by
      obtain ⟨v',o',ho',hd'⟩:=I8'.cell y' c e
      rw [z,pD] at ho';cases ho';cases hd') (fun p hp=>nomatch hp)
    refine ⟨m',hm',i+1,_,ys++[y],its++[yv],k+1,H8,I9.pins_of fun p hp=>?_,T.keep _ _ _ st8 fun b hb o e=>(sb9.2 b (hDfp b hb)).trans e,fr8,vs.append (.cons r8 .nil),w8⟩
    rw [List.mem_singleton.mp hp]
    refine ⟨?_,nD,neD,nfD,fun v z=>by cases z⟩
    rw [<- List.push_toArray]
    exact hD9
 exact codeAny_compStart_list (loop _ rfl) (T.self _ 0 _ _ _ (T.keep _ _ _ st fun b _ o e=>old b o e) (loop _ rfl))
theorem zDF (hc:X.calm=true) (hclos:closureFor scope X.env=pure cl) (hcl:ClOk X.env.cells cl) (hfree:(scope.names.all fun p=>p.2 != .free || (cl.lookup p.1).isSome)=true) (hfr:FrOk X scope fr is) (hnd:(x::fr).Nodup)
  (hcell : ∀ y ∈ scope.names,y.2 ≠ .cell) (hkind:scope.kind = .function) (hnames : ∀ y ∈ scope.names,y.2 = .local->scope.names.lookup y.1=some .local) (hx:scope.names.lookup x=some .local)
  (hi:PI X (.Name x px) iter wi) (ht : ∀ C s₂ H₂ fp,PIfs (zDS X scope cl (x::fr) C s₂ H₂ fp) ifs tt) (he : ∀ C s₂ H₂ fp,PE (zDS X scope cl (x::fr) C s₂ H₂ fp) elt te) (hs : ∀ x,foldedSetIterable iter X.env x=pure x:=by intro _;rfl) :
  PE X (.ListComp elt [⟨.Name x px,iter,ifs,0⟩] scope pos) (zPY is wi tt te):=by
 intro pins s σ H Q I h
 rw [eval_ListComp]
 refine wpAny_comprehension_free (use:=none) rfl hs hclos hkind hnames (thn (hi pins s σ H _ I h) fun v s1 h1=>thn h1 fun itv s2 h2=>?_)
 obtain ⟨it,fp,tn,J,H2,e,I2,T,st2,f2,R⟩:=h2
 subst e
 refine thn (zMO hc hcell hkind hx hcl hfree hfr hnd ht he I2 T st2 f2 R) fun acc s3 h3=>thn h3 fun cenv s4 h4=>codeAny_mono h4 fun r s' q=>?_
 cases r with
 | error e=>exact q.elim
 | ok f =>
  obtain ⟨D,H',m,rfl,I',hn,fC,q⟩:=q
  obtain ⟨f0,f1,_,f3,f4,f5⟩:=fC
  exact ⟨m,hn,fun h' sb=>⟨.ref D,H',I'.turned (t':=s'.toks) (fun b o hb e=>(sb.2 b hb).trans e) f0 f1 f3 f4 f5,rfl,q⟩⟩
theorem zEF {i:Nat} {y:Str} {py spos:Pos} (hN:X.N.Nodup) (hiy:X.N[i]? = some y) (hy:Loc X.env.scope y) (hsw:swapsWith (.ListComp elt [⟨.Name x px,iter,ifs,0⟩] scope pos) (some (.Name y py)) spos.line X.env=pure true)
  (hc:X.calm=true) (hclos:closureFor scope X.env=pure cl) (hcl:ClOk X.env.cells cl) (hfree:(scope.names.all fun p=>p.2 != .free || (cl.lookup p.1).isSome)=true) (hfr:FrOk X scope fr is) (hnd:(x::fr).Nodup)
  (hcell : ∀ y ∈ scope.names,y.2 ≠ .cell) (hkind:scope.kind = .function) (hnames : ∀ y ∈ scope.names,y.2 = .local->scope.names.lookup y.1=some .local) (hx:scope.names.lookup x=some .local)
  (hi:PI X (.Name x px) iter wi) (ht : ∀ C s₂ H₂ fp,PIfs (zDS X scope cl (x::fr) C s₂ H₂ fp) ifs tt) (he : ∀ C s₂ H₂ fp,PE (zDS X scope cl (x::fr) C s₂ H₂ fp) elt te) (hs : ∀ x,foldedSetIterable iter X.env x=pure x:=by intro _;rfl)
  (hf:X.fn y=true\/X.env.scope.names.lookup y=some .local:=by first | exact .inl rfl | exact .inr rfl | assumption) :
  PS X (.Assign [.Name y py] (.ListComp elt [⟨.Name x px,iter,ifs,0⟩] scope pos) spos) (tAsg (zPY is wi tt te) (zSH i)):=by
 intro pins s σ H D0 I h
 rw [exec_Assign_Name_used _ _ _ _ hsw]
 refine wpAny_bind (wpAny_standAt (wpAny_bind ?_))
 show wpAny _ X.A (do let _ <- comprehension (.ListComp elt [⟨.Name x px,iter,ifs,0⟩] scope pos) scope X.env _ (newList []) false (eval iter X.env) (some (assign (.Name y py) X.env))) _ _ s
 refine wpAny_bind (wpAny_mono (wpAny_comprehension_free (use:=some (assign (.Name y py) X.env)) (Q:=fun _ s'=>SP X pins D0 .next s') rfl hs hclos hkind hnames
  (thn (hi pins s σ H _ I h) fun v s1 h1=>thn h1 fun itv s2 h2=>?_)) (fun _ s' hq=>wpAny_pure (wpAny_pure hq)) fun _ _ e=>e)
 obtain ⟨it,fp,tn,J,H2,e,I2,T,st2,f2,R⟩:=h2
 subst e
 refine thn (zMO hc hcell hkind hx hcl hfree hfr hnd ht he I2 T st2 f2 R) fun acc s3 h3=>thn h3 fun cenv s4 h4=>codeAny_mono h4 fun r s' q=>?_
 cases r with
 | error e=>exact q.elim
 | ok f =>
  obtain ⟨D,H',m,rfl,I',hn,fC,q⟩:=q
  obtain ⟨f0,f1,_,f3,f4,f5⟩:=fC
  show wpAny _ _ (assign (.Name y py) X.env (.ref D)) _ _ _
  refine wpAny_assign_Name (zMN I' hN hiy hy (v:=.ref D) rfl (fun s'' I'' ⟨a,sb,ha⟩=>?_) hf)
  have hCa:cenv.locals≠a:=by
   rcases ha with rfl | ha
   ·exact f1
   ·exact Ne.symm (f4 y a ha)
  refine ⟨m,hn.sameBut sb hCa,fun h' sb'=>⟨_,H',I''.turned (t':=s''.toks) (fun b o hb e=>(sb'.2 b hb).trans e) f0 f1 f3 f4 f5,q⟩⟩
end
section
variable {K : W.Frag} {σ : St} {H : Hp} {Q : VK} {is : List Nat} {tt : TT} {te : TE}
def zSu (K:W.Frag) (is:List Nat) (tt:TT) (te:TE) (σ:St) (Q:VK) (x:V) (H:Hp):Prop:=∃ a,x = .ref a/\(∃ xs,SqL K H a xs)/\zPU is tt te σ Q (Itl K a) H
theorem zT3 {tl:TE} (h:tl σ H (zSu K is tt te σ Q)):zPY is (zUb K tl) tt te σ H Q:=h
def NxC (n:Nat) (Pv:Nat->List V->Hp->Prop) (i:Nat) (ys:List V) (H:Hp):Prop:=∃ m',m' < n - i/\m'=n - (i+1)/\i+1<=n/\Pv (i+1) ys H
theorem nxC {Pv:Nat->List V->Hp->Prop} {i:Nat} {ys:List V} (h:i < n) (p:Pv (i+1) ys H):NxC n Pv i ys H:=⟨_,by omega,rfl,h,p⟩
theorem zVz {s:St} {R:Bool->Hp->Prop} (h:R true H):zV8 s H R:=h
def zTP (is:List Nat) (tt:TT) (te:TE) (σ:St) (Q:VK) (vs:List V) (H:Hp):Prop:=∃ j:Int,vs=[.int j] /\ -(2 ^ 62)<=j/\j < 2 ^ 62/\zPU is tt te σ Q (Itr 0 j.toNat) H
theorem zUd {ta:TA} (h:ta σ H (zTP is tt te σ Q)):zPY is (zUh ta) tt te σ H Q:=h
end
section
variable {K : W.Frag} {σ : St} {H : Hp} {Q : VK}
theorem zUF {r:V->Option Int->Option Int->Hp->VK->Prop} {te:TE} {tl th:TO} (h:te σ H fun x H1=>tl σ H1 fun l H2=>th σ H2 fun u H3=>r x l u H3 Q):tSl r te tl th σ H Q:=h
theorem zRz {R:Option Int->Hp->Prop} (h:R none H):zP8 σ H R:=h
theorem zWk {t:TE} {R:Option Int->Hp->Prop} (h:t σ H fun x H1=>∃ i,x = .int i/\R (some i) H1):zVo t σ H R:=h
theorem zVW {R:Int->Prop} (h:R i) : ∃ k,V.int i = .int k/\R k:=⟨i,rfl,h⟩
theorem zXz {lo hi:Option Int} (h:SqL K H a xs) (q : ∀ p H',Same H H'->H' p=some (.lst (cutV xs lo hi))->Q (.ref p) H'):rSlL K (.ref a) lo hi H Q:=⟨a,xs,rfl,h,fun p hp=>q p _ (zDk hp _) zAU⟩
theorem zWB {b:Addr} {zs:List V} (h1:H l=some (.lst xs)) (h2:H b=some (.lst zs)) (hz:xs.length+zs.length<=sizeLine) (q : ∀ p H',Same H H'->H' p=some (.lst (xs++zs))->Q (.ref p) H'):rCat (.ref l) (.ref b) H Q:=
 ⟨l,b,xs,zs,rfl,rfl,h1,h2,hz,fun p hp=>q p _ (zDk hp _) zAU⟩
end
section
variable {X : Cx}
theorem zI3 : ∀ {us:List Value} {ns:List Int},IntsAre us ns->Vals (ns.map V.int) us
 | _,_,.nil=>.nil
 | _,_,.cons n t h=>.cons ⟨t,rfl⟩ (zI3 h)
def zRC (K:W.Frag):List V->Hp->VK->Prop:=fun xs H Q=>∃ (p:Addr) (ns:List Int),xs=[.ref p]/\SqL K H p (ns.map V.int)/\ns.length < 64 /\
 ∀ (ms:List Int) (q:Addr) (H':Hp),ms.Perm ns->ms.Pairwise (· <= ·)->Same H H'->H' q=some (.lst (ms.map V.int))->Q (.ref q) H'
theorem zNI:zFV X (.builtin "sorted") (zRC X.K):=by
 intro pins s σ H xs us Q I r h
 obtain ⟨p,ns,rfl,hq,h64,q⟩:=h
 obtain ⟨u,rfl,rx⟩:=zNP r
 cases rx
 obtain ⟨its,r',pl,hz⟩:=I.list hq
 have hl:=r'.length
 rw [length_map] at hl hz
 refine sorted_ints pl.isList (zPI r') (by omega) fun out ms hi hp hs=>?_
 obtain ⟨e,he⟩:=sortedAll_at s.heap its out
 have hms:ms.length=ns.length:=hp.length_eq
 have hf:H (s.heap.objs.size+1)=none:=I.hok.fresh (Nat.le_succ _)
 refine ⟨.ref (s.heap.objs.size+1),upd H (s.heap.objs.size+1) (.lst (ms.map V.int)),I.laid (t':=s.toks) (fun _ _=>sortedAll_old) (Nat.le_succ _) ⟨by rw [length_map,hms];exact hz,out.toList,e,zI3 hi,?_⟩,rfl,q _ _ _ hp hs (zDk hf _) zAU⟩
 rw [he,Array.toArray_toList]
theorem zSQ {Q:VK} {p:Addr} {ns:List Int} (h:SqL K H p (ns.map V.int)) (h64:ns.length < 64) (q : ∀ (ms:List Int) (q:Addr) (H':Hp),ms.Perm ns->ms.Pairwise (· <= ·)->Same H H'->H' q=some (.lst (ms.map V.int))->Q (.ref q) H'):zRC K [.ref p] H Q:=⟨p,ns,rfl,h,h64,q⟩
theorem zMB:bootBuiltins "sorted" = some (.builtin "sorted"):=by decide +kernel
end
set_option maxHeartbeats 400000
abbrev VEB:List Value:=[.type "ValueError", .type "Exception", .type "BaseException", .type "object"]
structure Exc (K:W.Frag) (C:Addr):Prop where
 ex:W.excIn K C VEB "ValueError.__new__" = true
 h1:W.findIn K (.ref C) "__getattribute__" = some (some (.builtin "BaseException.__getattribute__"))
 h2:W.findIn K (.ref C) "__getattr__" = some none
 hb:W.mroIn K C (.type "BaseException")=some true
 hd:W.hasDictIn K C=true
 ha:W.findIn K (.ref C) "__class__" = some (some (.builtin "object.__class__"))
 hn:W.specialIn K (.builtin "object.__class__") "__get__" = some (some (.builtin "getset_descriptor.__get__"))
 ht:W.takesIn K (.builtin "object.__class__")=some true
 hm:W.mroIn K C (.type "object")=some true
def ExAt (x C:Addr) (h:Heap):Prop:=∃ o,h.get? x=some o/\o.cls = .ref C /\ ∃ vs,o.data = .fields vs
variable {C:Addr} {h:Heap}
theorem ExAt.keep {x:Addr} {h':Heap} (e:ExAt x C h) (k : ∀ o,h.get? x=some o->h'.get? x=some o):ExAt x C h':=let ⟨o,a,b⟩:=e;⟨o,k o a,b⟩
section
open PySem.W PySem.Calls Builtin Builtin.ObjectAttr Builtin.Getset_descriptor
variable {K : Frag} {x C : Addr} {M : Model} {h : Heap}
theorem ExAt.ty (e:ExAt x C h):Looks M h (typeOf (.ref x)) (.ref C):=by
 obtain ⟨o,h1,h2,_⟩:=e
 rw [<- h2]
 exact (Looks.ld h1).andThen .now
variable {prog : Program} {w : World} {A : Around} {E : Value -> Shared -> Prop} {s : Shared}
end
def CXE (P:Program) (w:World):CXT:=fun outer H s E e s'=>∃ (x C:Addr) (a0:Value) (H':Hp) (B:Heap),e = .ref x/\s'.os=s.os/\AllBare s'.gens/\Heap.FlyingW B outer x (.ref C) a0 s'.heap /\
 (∀ h',B.StaysIn h'->s'.heap.UpToSlots h'->Un (frs outer) [] H H' s.heap h'/\HOk P w H' h')/\s.heap.get? x=none/\H' x=none/\E (.ref C) none H'
theorem zD7.is (x:zD7 P w H h a o) : ∃ ob,h.get? a=some ob:=by
 cases o with
 | lst xs=>obtain ⟨_,_,_,_,e⟩:=x;exact ⟨_,e⟩
 | tup xs=>obtain ⟨_,_,_,ob,e,_⟩:=x;exact ⟨_,e⟩
 | dK kvs=>obtain ⟨_,_,_,_,ob,_,_,e,_⟩:=x;exact ⟨_,e⟩
 | dT kvs=>obtain ⟨_,_,_,_,ob,_,_,e,_⟩:=x;exact ⟨_,e⟩
 | set S n=>first | (obtain ⟨ob,e,_⟩:=x;exact ⟨_,e⟩) | (obtain ⟨ob,es,e,_⟩:=x;exact ⟨_,e⟩) | (obtain ⟨ob,es,ep,e,_⟩:=x;exact ⟨_,e⟩) | (obtain ⟨ob,es,ep,z,e,_⟩:=x;exact ⟨_,e⟩)
 | ins C dx fs=>obtain ⟨_,_,_,e,_⟩:=x;exact ⟨_,e⟩
 | own y=>exact x
 | xd fs=>obtain ⟨_,⟨ob,_,_,e,_⟩,_⟩:=x;exact ⟨_,e⟩
 | met f y=>exact ⟨_,x⟩
 | rng lo hi=>obtain ⟨_,_,_,e⟩:=x;exact ⟨_,e⟩
 | frz o u=>exact ⟨_,x.1⟩
 | tbl ps=>exact ⟨_,x⟩
 | ext φ=>exact x.2.1
section
variable {P : Program} {w : World} {K : W.Frag} {mg : Str -> Option Value} {base : Heap} {N : List Str} {qual : Str} {scope : Scope} {f : Addr} {cd : Value} {A : Around} {outer : List Env} {s : Shared} {H : Hp} {E : XK}
theorem zJi {pins:List (Addr × Obj)} {σ:St} {H1:Hp} {s1:Shared} {h':Heap} {x:Addr} {args:List Value}
  (I:Inv (cxOf (CXE P w) P w K mg base N qual scope f cd A outer s H E) pins σ H1 s1) (hm:Heap.MadeExcOf s1.heap h' x (.ref C) args) (q:E (.ref C) none H1) :
  (cxOf (CXE P w) P w K mg base N qual scope f cd A outer s H E).xe (.ref x) { s1 with heap:=h' }:=by
 have hst : ∀ b ∈ frs (envOfC qual scope s.heap.objs.size f cd::outer),H1 b=none:=I.stkFree
 have hin : ∀ env ∈ (envOfC qual scope s.heap.objs.size f cd::outer),∀ b,env.frame=some b->b ∈ frs (envOfC qual scope s.heap.objs.size f cd::outer):=fun env he b hb=>List.mem_filterMap.mpr ⟨env,he,hb⟩
 have FF:s1.heap.FunFrames base (envOfC qual scope s.heap.objs.size f cd::outer):=I.stack
 have old : ∀ b o,s.heap.get? b=some o->b≠s.heap.objs.size:=fun b o e=>ne_of_lt (Heap.lt_size e)
 have sub : ∀ b,b ∈ frs (envOfC qual scope s.heap.objs.size f cd::outer)->b=s.heap.objs.size\/b ∈ frs outer:=fun b hb=>List.mem_cons.mp (I.stkSub b hb)
 refine wpAny_leaves_madeW (base:=W.hideAll s1.heap (frs (envOfC qual scope s.heap.objs.size f cd::outer))) I.ok.frames rfl (fun b o e=>W.of_hideAll _ e) (W.funFrames_hide FF hin) hm fun h2 t f1 f2 f3 f4=>?_
 refine ⟨x,C,.ref t,H1,_,rfl,I.os,I.bare,f1,fun h3 st sm=>?_,?_,?_,q⟩
 ·have here : ∀ b o,s1.heap.get? b=some o->b ∉ frs (envOfC qual scope s.heap.objs.size f cd::outer)->h3.get? b=some o:=fun b o e n=>st b o (W.hideAll_get _ e n)
  have fram : ∀ b o,s1.heap.get? b=some o->b ∈ frs (envOfC qual scope s.heap.objs.size f cd::outer) -> ∃ sl,h3.get? b=some { o with slots:=sl }:=fun b o e m=>by
   obtain ⟨_,o',e',nf⟩:=FF.mem m
   have z:o'=o:=Option.some.inj (e'.symm.trans e)
   subst z
   obtain ⟨sl,e2⟩:=f4 b o' (hm.keeps b o' e) nf
   obtain ⟨sl',e3⟩:=sm b _ e2 nf
   exact ⟨sl',e3⟩
  refine ⟨⟨fun b o e n hb hx=>?_,fun b o e n hb hx=>?_,fun b o e n hx=>I.base.free b o e n hx,fun b o e hx=>?_,I.base.tups,I.base.frzs,I.base.tbls⟩,fun a u e=>?_⟩
  ·exact here b o (I.base.keep b o e n hb hx) fun z=>(sub b z).elim (old b o e) hb
  ·obtain ⟨sl,e1⟩:=I.base.slot b o e n hb hx
   have mem:b ∈ frs (envOfC qual scope s.heap.objs.size f cd::outer):=by
    show b ∈ List.filterMap _ _
    rw [List.filterMap_cons]
    exact List.mem_cons_of_mem _ hb
   obtain ⟨sl',e2⟩:=fram b _ e1 mem
   exact ⟨sl',e2⟩
  ·obtain ⟨o',e1⟩:=I.base.there b o e hx
   by_cases mem:b ∈ frs (envOfC qual scope s.heap.objs.size f cd::outer)
   ·obtain ⟨sl,e2⟩:=fram b o' e1 mem
    exact ⟨_,e2⟩
   ·exact ⟨o',here b o' e1 mem⟩
  ·refine (I.hok a u e).stay (fun b ob hb eb=>here b ob eb fun z=>?_) (fun _ z=>z) (fun _ _ z=>z)
   have:=hst b z
   rcases hb with rfl | hb
   ·rw [e] at this;cases this
   ·rw [hb] at this;cases this
 ·cases z:s.heap.get? x with
  | none=>rfl
  | some o =>
   obtain ⟨o',e1⟩:=I.base.there x o z (fun h=>nomatch h)
   have:=hm.new
   rw [e1] at this;cases this
 ·cases z:H1 x with
  | none=>rfl
  | some o =>
   obtain ⟨ob,e1⟩:=(I.hok x o z).is
   have:=hm.new
   rw [e1] at this;cases this
end
theorem zRG (X:K.In h) (c:Exc K C) : ∃ tl N nm q bs hdct sn sub ab col dd k0 k1 k2 k3 k5 mN,
  h.get? C=some (excClassObj nm q C N bs tl hdct sn sub ab col dd k0 k1 k2 k3 k5 "ValueError.__new__")/\h.Ns N mN/\mN "__init__" = none/\OwnTail h VEB tl:=by
 have q:=c.ex
 unfold W.excIn at q
 split at q
 ·rename_i dd cd sl ho
  split at q
  ·rename_i C' bm k0 k1 k2 k3 n k5 hm hs
   simp only [Bool.and_eq_true,beq_iff_eq,Bool.not_eq_true'] at q
   obtain ⟨⟨⟨⟨⟨z1,z2⟩,hdel⟩,ht⟩,hok⟩,hni⟩:=q
   subst z1 z2
   obtain ⟨nm,bs,mro,ns,qn,hdc,sn,sub,ab,col,del⟩:=cd
   dsimp only at hm hdel hok hni
   subst hm hdel
   have hsl:sl = #[k0,k1,k2,k3,some (.builtin "ValueError.__new__"),k5]:=by
    cases sl with
    | mk l=>simp only at hs;rw [hs]
   subst hsl
   refine ⟨bm,ns,nm,qn,bs,hdc,sn,sub,ab,col,dd,k0,k1,k2,k3,k5,h.nsMap ns,X _ _ ho,?_,?_,W.tail_of_in X ht⟩
   ·exact .of_isNs (W.isNs_of_in X hok)
   ·exact W.nsMap_none_of_in X hok hni
  ·cases q
 ·cases q
def zRp (X:Cx) (E:XK):Prop:=∀ (pins:List (Addr × Obj)) (σ:St) (H:Hp) (s:Shared) (h':Heap) (x C:Addr) (args:List Value),Inv X pins σ H s->Heap.MadeExcOf s.heap h' x (.ref C) args->E (.ref C) none H->X.xe (.ref x) { s with heap:=h' }
def zTS (C:Addr) (E:XK) (t:TA):TS:=fun _ σ H=>t σ H fun vs H1=>vs.length<=sizeLine/\E (.ref C) none H1
variable {E:XK}
theorem zFl {np cpos:Pos} (tk:zRp X E) (hc:X.calm=true) (c:Exc X.K C) (hg:Gl X x) (hm:X.mg x=some (.ref C)) (ha:PA X (e::es) t)
  (hdb:(x == ("__debug__" : Str))=false:=by decide) (he:starEach (e::es) X.env=(false,eval e X.env)::starEach es X.env:=by rfl) (hpl:(backTo cpos (starEach es X.env)).any (·.1)=false:=by rfl) :
  PS X (.Raise (some (.Call (.Name x np) (e::es) [] cpos)) none pos) (zTS C E t):=by
 intro pins s σ H D I h
 obtain ⟨tl,N,nm,q,bs,hdct,sn,sub,ab,col,dd,k0,k1,k2,k3,k5,mN,hC,hN,hni,T⟩:=zRG I.ok.mod.kin c
 refine wpAny_Raise_call_subT (C:=C) (bm:=tl) (mN:=mN) (N:=N) (nm:=nm) (q:=q) (bs:=bs) (hdct:=hdct) (sn:=sn) (sub:=sub) (ab:=ab) (col:=col) (dd:=dd) (k0:=k0) (k1:=k1) (k2:=k2) (k3:=k3) (k5:=k5) PySem.F.excBase_ValueError (T.hasType PySem.F.excBase_ValueError.hasBase) (I.ok.hd hc) (by rw [he];show (false || (backTo cpos (starEach es X.env)).any (·.1))=false;rw [hpl];rfl) hni (zDH I hg hm ⟨rfl,?_⟩ hdb)
 have z:=ha cpos pins s σ H _ I h
 rw [he] at z ⊢
 refine Calls.evalArgs_plain (thn z fun us s1 ⟨vs,H1,I1,r,hl,qe⟩=>?_)
 have hv:us.length<=sizeLine:=by rw [<- r.length];exact hl
 exact ⟨rfl,hv,I1.bk _ _ hC,hN.keeps I1.bk,T.keeps I1.bk,fun h' y hm'=>tk pins σ H1 s1 h' y C us I1 hm' qe⟩
def HasX (P:Program) (w:World) (K:W.Frag) (mg:Str->Option Value) (base:Heap) (x:Str) (k:Nat) (ps:List Str) (sp:Sp):Prop:=
 ∃ (f:Addr) (fd:FuncData),FnOk P w K mg base (CXE P w) k f fd ps sp/\mg x=some (.ref f)/\W.keepIn K (.ref f)=true/\zCI K fd ps []
def XP (X:Cx) (pins:List (Addr × Obj)) (σ:St) (E:XK) (e:Value) (s':Shared):Prop:=∃ H1 s1,Inv X pins σ H1 s1/\CXE X.prog X.w X.stack H1 s1 E e s'
def Cx.inExc (X:Cx) (x:Addr):Cx:={ X with A:=X.A.mark (some (.ref x)),calm:=false,xe:=fun _ _=>False }
section
variable {X : Cx} {pins : List (Addr × Obj)} {σ : St} {H : Hp} {s : Shared}
theorem Cx.Ok.inExc (ok:X.Ok) (x:Addr):(X.inExc x).Ok:=
 ⟨ok.mod,ok.kind,ok.glob,ok.blt,ok.above,ok.inj,ok.has,ok.cab,(fun z=>nomatch z),ok.frames,ok.stk,ok.exf,ok.bs,ok.bsz,ok.noex,ok.exfs,ok.funs,ok.frf⟩
theorem Inv.inExc (I:Inv X pins σ H s) (x:Addr):Inv (X.inExc x) pins σ H s:=⟨I.ok.inExc x,I.os,I.bare,I.base,I.loc,I.cell,I.free,I.freeC,I.pin,I.hok,I.len⟩
theorem Inv.outExc {x:Addr} (ok:X.Ok) (I:Inv (X.inExc x) pins σ H s):Inv X pins σ H s:=⟨ok,I.os,I.bare,I.base,I.loc,I.cell,I.free,I.freeC,I.pin,I.hok,I.len⟩
end
section
variable {X : Cx} {H : Hp} {Q : VK} {K : W.Frag}
theorem Fun.okX {base:Heap} {qual:Str} {st:Stmt} {f:Addr} {N:List Str} (F:Fun K x qual st f fd) (S:zAP N ps (zAH st)) (len : ∀ vs H Q E,sp vs H Q E->vs.length=ps.length)
  (hbody : ∀ (cdv:Value) (A:Around) (outer:List Env) (s:Shared) (H:Hp) (vs:List V) (Q:VK) (E:XK),Room k (A.deeper (envOfC qual (zAH st) s.heap.objs.size f cdv))->sp vs H Q E ->
   zRp (cxOf (CXE P w) P w K mg base N qual (zAH st) f cdv A outer s H E) E -> ∃ t,PSs (cxOf (CXE P w) P w K mg base N qual (zAH st) f cdv A outer s H E) (zAi st) t/\t { nx:=fun _ H'=>Q .non H',rt:=Q } (start N vs) H):FnOk P w K mg base (CXE P w) (k+1) f fd ps sp:=by
 obtain ⟨oc,od,kV,doc,pm,an,cdv,ct,osl,rfl,lk,hcd⟩:=F.ex
 exact zQx lk hcd S len fun A outer s H vs Q E hr hsp=>hbody cdv A outer s H vs Q E hr hsp fun pins σ H s h' x C args I hm q=>zJi I hm q
theorem FnOk.calm {base:Heap} {f:Addr} (F:FnOk P w K mg base (CXE P w) k f fd ps sp):FnOk P w K mg base CX0 k f fd ps (fun vs H Q _=>sp vs H Q E0):=
 ⟨fun vs H Q _ h=>F.len vs H Q E0 h,fun A outer s H args us vs Q _ hr he hb hv hs=>codeAny_mono (F.run A outer s H args us vs Q E0 hr he hb hv hs) fun r s' hq=>by
  cases r with
  | ok fl=>cases fl <;> exact hq
  | error e =>
   obtain ⟨_,_,_,_,_,_,_,_,_,_,_,_,z⟩:=hq
   exact z.elim⟩
end
section
variable {X : Cx} {H : Hp} {Q : VK} {K : W.Frag} {σ : St} {pos p1 p2 : Pos} {n1 n2 : Nat} {a b : Int}
def dctO (p:Addr):HO:=.ext (W.KitAt p "dict")
inductive Odd (H:Hp):V->Prop where
 | non:Odd H .non
 | bl (b:Bool):Odd H (.bl b)
 | str (x:Str):Odd H (.str x)
 | lst {p:Addr} {xs:List V} (e:H p=some (.lst xs)):Odd H (.ref p)
 | tup {p:Addr} {xs:List V} (e:H p=some (.tup xs)):Odd H (.ref p)
 | dct {p:Addr} (e:H p=some (dctO p)):Odd H (.ref p)
theorem Odd.same {v:V} (h:Odd H v) (g:Same H H'):Odd H' v:=by
 cases h with
 | non=>exact .non
 | bl b=>exact .bl b
 | str x=>exact .str x
 | lst e=>exact .lst (g _ _ e)
 | tup e=>exact .tup (g _ _ e)
 | dct e=>exact .dct (g _ _ e)
def zNL (K:W.Frag):List V->Hp->VK->Prop:=fun xs H Q=>rIsi K xs H Q \/ ∃ p T b,xs=[.ref p,.ty T]/\H p=some (dctO p)/\W.kitOne K (.type "dict") (.type T)=some b/\Q (.bl b) H
theorem zQD {i:Bool} {T:String} {b:Bool} (e:W.kitOne K (.type "bool") (.type T)=some b) (q:Q (.bl b) H):zNL K [.bl i,.ty T] H Q:=.inl (zHw (.bl i) ⟨_,.inl rfl⟩ e q)
theorem zOj {T:String} {b:Bool} (e:W.kitOne K (.type "str") (.type T)=some b) (q:Q (.bl b) H):zNL K [.str x,.ty T] H Q:=.inl (zHw (.str x) ⟨_,.inl rfl⟩ e q)
theorem zOb {T:String} {b:Bool} (e:W.kitOne K (.type "NoneType") (.type T)=some b) (q:Q (.bl b) H):zNL K [.non,.ty T] H Q:=.inl (zHw .non ⟨_,.inl rfl⟩ e q)
theorem zPZ {p:Addr} {T:String} {b:Bool} (h:H p=some (.lst xs)) (e:W.kitOne K (.type "list") (.type T)=some b) (q:Q (.bl b) H):zNL K [.ref p,.ty T] H Q:=.inl (zHw (.lst h) ⟨_,.inl rfl⟩ e q)
theorem zOp {p:Addr} {T:String} {b:Bool} (h:H p=some (.tup xs)) (e:W.kitOne K (.type "tuple") (.type T)=some b) (q:Q (.bl b) H):zNL K [.ref p,.ty T] H Q:=.inl (zHw (.tup h) ⟨_,.inl rfl⟩ e q)
theorem zO2 {p:Addr} {T:String} {b:Bool} (h:H p=some (dctO p)) (e:W.kitOne K (.type "dict") (.type T)=some b) (q:Q (.bl b) H):zNL K [.ref p,.ty T] H Q:=.inr ⟨p,T,b,rfl,h,e,q⟩
theorem Odd.int {v:V} (h:Odd H v) (q1:Q (.bl true) H) (q0:Q (.bl false) H):zNL K [v,.ty "int"] H Q:=by
 cases h with
 | non=>exact zOb (zJE K) q0
 | bl b=>exact zQD (zLr K) q1
 | str x=>exact zOj (zNW K) q0
 | lst e=>exact zPZ e (zMK K) q0
 | tup e=>exact zOp e (zLg K) q0
 | dct e=>exact zO2 e (zMc K) q0
theorem zRQ {D:Ends} (h:t σ H fun vs H1=>vs.length<=sizeLine/\E (.ref C) none H1):zTS C E t D σ H:=h
def spc (sp:Sp):Sp:=fun vs H Q _=>sp vs H Q E0
def Nm (K:W.Frag) (x:Str) (C:Addr):Prop:=W.nsIn K mainGlobals x=some (some (.ref C))
theorem Nm.eq {C':Addr} (h:Nm K x C) (h':Nm K x C'):C=C':=by
 have:=h.symm.trans h'
 cases this;rfl
variable {env:Env}
theorem zJa {c:Const}:starEach (.Constant c n p::es) env=(false,eval (.Constant c n p) env)::starEach es env:=rfl
theorem zA7:starEach (.Name x p::es) env=(false,eval (.Name x p) env)::starEach es env:=rfl
theorem zGk {a b:Expr}:starEach (.Subscript a b p::es) env=(false,eval (.Subscript a b p) env)::starEach es env:=rfl
theorem zOq {a:Expr} {os:List CmpOp} {bs:List Expr}:starEach (.Compare a os bs p::es) env=(false,eval (.Compare a os bs p) env)::starEach es env:=rfl
theorem zVk {T:String} {r:V->List V->Hp->VK->Prop} {to:TE} (h:to σ H fun x H1=>tyV K T x H1/\t σ H1 fun xs H2=>r x xs H2 Q):tBM K T r to t σ H Q:=h
theorem zSn {p:Addr} {R:Prop} (h:SqL K H p xs) (q:R):tyV K "list" (.ref p) H/\R:=⟨.inl ⟨rfl,_,h⟩,q⟩
theorem zJX {y:V} (h:H l=some (.lst xs)) (h2:xs.length < sizeLine) (q:Q .non (upd H l (.lst (xs++[y])))):zLn (.ref l) [y] H Q:=⟨l,xs,y,rfl,rfl,h,h2,q⟩
def SB (r:Addr) (H F:Hp):Prop:=∀ b o,b≠r->H b=some o->F b=some o
variable {r:Addr} {F:Hp}
theorem SB.put (h:SB r H F):SB r H (upd F r o):=fun b u n e=>by rw [zBY n];exact h b u n e
theorem SB.then {G:Hp} (h:SB r H F) (g:Same F G):SB r H G:=fun b u n e=>g _ _ (h b u n e)
theorem SB.refl:SB r H H:=fun _ _ _ e=>e
theorem SB.same (h:SB r H F) (n:H r=none):Same H F:=fun b o e=>h b o (zB8 e n) e
end
section
variable {X : Cx} {H : Hp} {Q : VK} {K : W.Frag}
def zRW:R2:=fun x y H Q=>∃ i j:Str,x = .str i/\y = .str j/\i.length+j.length<=sizeLine/\Q (.str (i++j)) H
theorem zDC:OpR X (binaryOp .Add) zRW:=zO5
theorem zWA {i j:Str} (hz:i.length+j.length<=sizeLine) (q:Q (.str (i++j)) H):zRW (.str i) (.str j) H Q:=⟨i,j,rfl,rfl,hz,q⟩
variable {z:Str}
theorem zXF {c:Nat} (hz:z.length<=sizeLine) (e:atI z.cps.toList i=some c) (q:Q (.str ⟨#[c]⟩) H):rIxS (.str z) (.int i) H Q:=⟨z,i,c,rfl,rfl,hz,e,q⟩
def zSF:List V->Hp->VK->Prop:=fun xs H Q=>∃ z:Str,xs=[.str z]/\z.length<=sizeLine/\Q (.int z.length) H
theorem zA6:zFV X (.builtin "len") zSF:=zL1
theorem zWU (hz:z.length<=sizeLine) (q:Q (.int z.length) H):zSF [.str z] H Q:=⟨z,rfl,hz,q⟩
def rInS:R2:=fun x y H Q=>∃ i j:Str,x = .str i/\y = .str j/\Q (.bl (!(Builtin.Str.occurrences j i 0 j.length 1).isEmpty)) H
theorem zOH:OpR X (compareOp .In) rInS:=zQV
theorem zWE {i j:Str} (q:Q (.bl (!(Builtin.Str.occurrences j i 0 j.length 1).isEmpty)) H):rInS (.str i) (.str j) H Q:=⟨i,j,rfl,rfl,q⟩
theorem zTU {i j:Str} (q:Q (.bl (decide (i=j))) H):rEq (.str i) (.str j) H Q:=zOf rfl q
theorem zSM (q:Q (.bl true) H):rIsi K [.str x,.ty "str"] H Q:=zHw (.str x) ⟨_,.inl rfl⟩ (zNc K) q
def rSlS:V->Option Int->Option Int->Hp->VK->Prop:=fun x lo hi H Q=>∃ z:Str,x = .str z/\z.length<=sizeLine/\Q (.str (Txt.slice z lo hi)) H
theorem zDN:SlR X rSlS:=by
 intro pins s σ H x v vl vu lo hi sl Q I rx hs pl pu h
 obtain ⟨z,rfl,hz,q⟩:=h
 obtain ⟨t,rfl⟩:=rx
 refine ⟨"str", _,PySem.F.slot_str_getitem.lookup,typeIs_str _ _ _,?_⟩
 have fin : ∀ (t':Tok) (k:Nat),EP X pins σ Q (.str (Txt.slice z lo hi) t') { s with toks:=k }:=fun t' k=>⟨.str _,H,I.tok _,⟨t',rfl⟩,q⟩
 have le:=le_trans (Txt.slice_le z lo hi) hz
 cases pl <;> cases pu
 ·exact wpAny_getItem_str_slice (l:=none) (u:=none) (st:=none) hs rfl (post_val_or_str ⟨le,fin⟩)
 ·exact wpAny_getItem_str_slice (l:=none) (u:=some (_,_)) (st:=none) hs rfl (post_val_or_str ⟨le,fin⟩)
 ·exact wpAny_getItem_str_slice (l:=some (_,_)) (u:=none) (st:=none) hs rfl (post_val_or_str ⟨le,fin⟩)
 ·exact wpAny_getItem_str_slice (l:=some (_,_)) (u:=some (_,_)) (st:=none) hs rfl (post_val_or_str ⟨le,fin⟩)
theorem zRj {lo hi:Option Int} (hz:z.length<=sizeLine) (q:Q (.str (Txt.slice z lo hi)) H):rSlS (.str z) lo hi H Q:=⟨z,rfl,hz,q⟩
end
abbrev Lt (x:Str):List Nat:=x.cps.toList
def T (l:List Nat):Str:=⟨l.toArray⟩
theorem Lt_T (l:List Nat):Lt (T l)=l:=rfl
theorem T_Lt (x:Str):T (Lt x)=x:=by cases x;simp [T,Lt]
variable {y:Str}
theorem zKl (h:Lt x=Lt y):x=y:=by rw [<- T_Lt x,<- T_Lt y,h]
theorem T_eq {a b:List Nat}:T a=T b↔a=b:=⟨fun h=>by have:=congrArg Lt h;rwa [Lt_T,Lt_T] at this,fun h=>by rw [h]⟩
theorem zWZ (x:Str):x.length=(Lt x).length:=rfl
theorem zX6 (x y:Str):x++y=T (Lt x++Lt y):=zKl (by rw [Lt_T];show (x.cps++y.cps).toList=_;simp)
theorem zFX {a b:List Nat} {i:Nat} (h:i < a.length):(a++b).getD i 0=a.getD i 0:=by
 rw [getD_eq_getElem?_getD,getD_eq_getElem?_getD,List.getElem?_append_left h]
theorem zL6 {a b:List Nat} {i:Nat} (h:a.length<=i):(a++b).getD i 0=b.getD (i - a.length) 0:=by
 rw [getD_eq_getElem?_getD,getD_eq_getElem?_getD,List.getElem?_append_right h]
theorem zQM (l:List Nat) (a:Nat) : ∀ m:Nat,(List.range m).filterMap (fun k=>l[a+k]?)=(l.drop a).take m
 | 0=>by simp
 | m+1=>by
  rw [List.range_succ,List.filterMap_append,zQM l a m,take_succ]
  congr 1
  rw [List.getElem?_drop]
  rw [List.filterMap_cons]
  cases l[a+m]? <;> rfl
def cl (n d:Nat):Option Int->Nat
 | none=>d
 | some i=>(max 0 (min (if i < 0 then i+n else i) (n:Int))).toNat
theorem zLO (z:Str) (lo hi:Option Int):Txt.slice z lo hi=T (((Lt z).take (cl (Lt z).length (Lt z).length hi)).drop (cl (Lt z).length 0 lo)):=by
 have e:Builtin.Str.strSliceIndices lo hi 1 z.length=(List.range (cl (Lt z).length (Lt z).length hi - cl (Lt z).length 0 lo)).map (fun x=>cl (Lt z).length 0 lo+x):=by
  rw [<- sliceRange_one]
  unfold Builtin.Str.strSliceIndices
  cases lo <;> cases hi <;> simp [cl,zWZ,Int.toNat_of_nonneg,Int.le_max_left]
 have k:(List.filterMap (fun x=>z.cps[x]?) (Builtin.Str.strSliceIndices lo hi 1 z.length))=((Lt z).take (cl (Lt z).length (Lt z).length hi)).drop (cl (Lt z).length 0 lo):=by
  rw [e,List.filterMap_map]
  have f:((fun x=>z.cps[x]?) ∘ fun x=>cl (Lt z).length 0 lo+x)=fun k=>(Lt z)[cl (Lt z).length 0 lo+k]?:=by funext k;simp [Lt]
  rw [f,zQM,List.drop_take]
 unfold Txt.slice
 split
 ·rename_i h
  have hl:(Builtin.Str.strSliceIndices lo hi 1 z.length).length=(Lt z).length:=(by simpa using h:_=z.length)
  rw [e,length_map,List.length_range] at hl
  have b1:cl (Lt z).length (Lt z).length hi<=(Lt z).length:=by
   unfold cl;split <;> omega
  rcases eq_zero_or_pos (Lt z).length with p | p
  ·rw [eq_nil_of_length_eq_zero p];simp
   exact zKl (eq_nil_of_length_eq_zero p)
  ·rw [show cl (Lt z).length 0 lo=0 by omega,show cl (Lt z).length (Lt z).length hi=(Lt z).length by omega,take_length,drop_zero,T_Lt]
 ·rw [k];rfl
section
variable {X : Cx} {H : Hp} {Q : VK} {K : W.Frag}
theorem zS4 (hz:(Lt x).length+(Lt y).length<=16777216) (q:Q (.str (T (Lt x++Lt y))) H):zRW (.str x) (.str y) H Q:=zWA hz (by rw [zX6];exact q)
variable {z:Str}
theorem zS2 (hz:(Lt z).length<=16777216) (q:Q (.int (Lt z).length) H):zSF [.str z] H Q:=zWU hz q
theorem zRa (hz:(Lt z).length<=16777216) (h0:0<=i) (h1:i < (Lt z).length) (q:Q (.str (T [(Lt z).getD i.toNat 0])) H):rIxS (.str z) (.int i) H Q:=by
 refine zXF (c:=(Lt z).getD i.toNat 0) hz ?_ q
 unfold atI ixN
 rw [if_pos h0,if_pos h1]
 show (Lt z)[i.toNat]? = _
 rw [getD_eq_getElem?_getD,getElem?_eq_getElem (by omega)];rfl
theorem zJ0 (n:Nat) (hn:(Lt z).length=n) (hz:n<=16777216) (h0:0<=i) (h1:i < n) (q : ∀ c,c ∈ Lt z->Q (.str (T [c])) H):rIxS (.str z) (.int i) H Q:=by
 refine zRa (by omega) h0 (by omega) (q _ ?_)
 rw [getD_eq_getElem?_getD,getElem?_eq_getElem (by omega)]
 exact getElem_mem _
theorem zW0 (hz:(Lt z).length<=16777216) (h1:0 < (Lt z).length) (q:Q (.str (T [(Lt z).getD ((Lt z).length - 1) 0])) H):rIxS (.str z) (.int (-1)) H Q:=by
 refine zXF (c:=(Lt z).getD ((Lt z).length - 1) 0) hz ?_ q
 unfold atI ixN
 rw [if_neg (show ¬ (0:Int) <= -1 by decide),if_pos (show -((Lt z).length:Int) <= -1 by omega)]
 show (Lt z)[((-1:Int)+(Lt z).length).toNat]? = _
 rw [show ((-1:Int)+(Lt z).length).toNat=(Lt z).length - 1 by omega,getD_eq_getElem?_getD,getElem?_eq_getElem (by omega)];rfl
theorem zVh (hz:(Lt z).length<=16777216) (h:0<=j) (q:Q (.str (T ((Lt z).take j.toNat))) H):rSlS (.str z) none (some j) H Q:=by
 refine zRj hz ?_
 rw [zLO]
 have e:(Lt z).take (cl (Lt z).length (Lt z).length (some j))=(Lt z).take j.toNat:=by
  unfold cl;dsimp only;rw [if_neg (by omega)]
  rcases Int.le_total j (Lt z).length with p | p
  ·rw [Int.min_eq_left p,max_eq_right h]
  ·rw [Int.min_eq_right p,max_eq_right (by omega),take_of_length_le (by omega),take_of_length_le (by omega)]
 rw [e];exact q
theorem zRM (l:List Nat) (h:0<=i) (n d:Nat) (hn:l.length<=n):l.drop (cl n d (some i))=l.drop i.toNat:=by
 unfold cl;dsimp only;rw [if_neg (by omega)]
 rcases Int.le_total i n with p | p
 ·rw [Int.min_eq_left p,max_eq_right h]
 ·rw [Int.min_eq_right p,max_eq_right (by omega),drop_of_length_le (by omega),drop_of_length_le (by omega)]
theorem zUK (l:List Nat) (h:0<=i) (d:Nat):l.take (cl l.length d (some i))=l.take i.toNat:=by
 unfold cl;dsimp only;rw [if_neg (by omega)]
 rcases Int.le_total i l.length with p | p
 ·rw [Int.min_eq_left p,max_eq_right h]
 ·rw [Int.min_eq_right p,max_eq_right (by omega),take_of_length_le (by omega),take_of_length_le (by omega)]
theorem zXB (hz:(Lt z).length<=16777216) (h:0<=i) (q:Q (.str (T ((Lt z).drop i.toNat))) H):rSlS (.str z) (some i) none H Q:=by
 refine zRj hz ?_
 rw [zLO,zRM _ h _ _ (by rw [length_take];omega)]
 show Q (.str (T (((Lt z).take (Lt z).length).drop i.toNat))) H
 rw [take_length];exact q
theorem zVJ (hz:(Lt z).length<=16777216) (h:0<=i) (h':0<=j) (q:Q (.str (T (((Lt z).take j.toNat).drop i.toNat))) H):rSlS (.str z) (some i) (some j) H Q:=by
 refine zRj hz ?_
 rw [zLO,zRM _ h _ _ (by rw [length_take];omega),zUK _ h']
 exact q
def zTl:R2:=fun x y H Q=>∃ (z:Str) (n:Int),x = .str z/\y = .int n/\n < 16777216 /\ -16777216 < n/\(Lt z).length*n.toNat<=16777216/\Q (.str (T (List.replicate n.toNat (Lt z)).flatten)) H
theorem zLv : ∀ (xs:List (Array Nat)) (a:Array Nat),(xs.foldl (fun x1 x2=>x1++x2) a).toList=a.toList++(xs.map Array.toList).flatten
 | [],a=>by simp
 | x::xs,a=>by rw [foldl_cons,zLv xs];simp
theorem zXm (z:Str) (n:Int):Txt.mul z n=T (List.replicate n.toNat (Lt z)).flatten:=by
 unfold Txt.mul
 split
 ·rw [show n.toNat=0 by omega];rfl
 ·split
  ·rename_i h1 h2
   rw [Bool.or_eq_true] at h2
   rcases h2 with h | h
   ·have:n=1:=by simpa using h
    subst this
    show z=T ([Lt z].flatten)
    simp [T_Lt]
   ·have e:(Lt z).length=0:=(by simpa using h:z.length=0)
    have e':Lt z=[]:=eq_nil_of_length_eq_zero e
    refine zKl ?_
    rw [Lt_T,e']
    simp
  ·refine zKl ?_
   show (List.foldl (fun x1 x2=>x1++x2) #[] (List.replicate n.toNat z.cps)).toList=_
   rw [zLv,List.map_replicate,Lt_T]
   simp
theorem zRP:OpR X (binaryOp .Mult) zTl:=by
 intro pins s σ H x y v u Q I rx ry h
 obtain ⟨z,n,rfl,rfl,h1,h2,h3,q⟩:=h
 obtain ⟨t,rfl⟩:=rx
 obtain ⟨t',rfl⟩:=ry
 refine SB.mul ⟨?_,fun h4 _=>?_,fun _ _=>?_⟩ fun t' k=>⟨.str _,H,I.tok _,⟨t',rfl⟩,by rw [zXm];exact q⟩
 ·rw [decide_eq_false (by omega),decide_eq_false (by omega)];rfl
 ·have e:((Lt z).length:Int)*n<=16777216:=by
   have:=Int.ofNat_le.mpr h3
   rw [Int.natCast_mul,Int.toNat_of_nonneg (by omega)] at this;exact this
  intro h5
  have h6:=Int.mul_le_of_le_ediv (c:=n) (by omega) (Int.le_refl ((2 ^ 63 - 1) / n))
  have h7:((2:Int) ^ 63 - 1) / n+1<=(Lt z).length:=h5
  have h8:=Int.mul_le_mul_of_nonneg_right h7 (show 0<=n by omega)
  have h9:=Int.lt_ediv_add_one_mul_self ((2:Int) ^ 63 - 1) (show 0 < n by omega)
  omega
 ·unfold Builtin.Str.tooLong
  exact decide_eq_false (by show ¬ (Lt z).length*n.toNat > 16777216;omega)
theorem zRH {c:Nat} {n:Int} (h1:n < 16777216) (h2 : -16777216 < n) (q:Q (.str (T (List.replicate n.toNat c))) H):zTl (.str (T [c])) (.int n) H Q:=
 ⟨T [c],n,rfl,rfl,h1,h2,by rw [Lt_T,length_singleton,Nat.one_mul];omega,by rw [Lt_T,List.flatten_replicate_singleton];exact q⟩
theorem zQa {i j:Str} (q:Q (.bl (!decide (i=j))) H):rNe (.str i) (.str j) H Q:=⟨rfl,by
 have e:decide (V.str i=V.str j)=decide (i=j):=by
  by_cases h:i=j
  ·rw [decide_eq_true h,decide_eq_true (congrArg V.str h)]
  ·rw [decide_eq_false h,decide_eq_false (fun z=>h (V.str.inj z))]
 rw [e];exact q⟩
theorem zTr {a b:List Nat} (hz:a.length+b.length<=16777216) (q:Q (.str (T (a++b))) H):zRW (.str (T a)) (.str (T b)) H Q:=zS4 hz q
theorem zVF {a:List Nat} (hz:a.length<=16777216) (q:Q (.int a.length) H):zSF [.str (T a)] H Q:=zS2 hz q
theorem zVw {a:List Nat} (hz:a.length<=16777216) (h0:0<=i) (h1:i < a.length) (q:Q (.str (T [a.getD i.toNat 0])) H):rIxS (.str (T a)) (.int i) H Q:=zRa hz h0 h1 q
theorem zUs {a:List Nat} (hz:a.length<=16777216) (h1:0 < a.length) (q:Q (.str (T [a.getD (a.length - 1) 0])) H):rIxS (.str (T a)) (.int (-1)) H Q:=zW0 hz h1 q
theorem zUq {a:List Nat} (hz:a.length<=16777216) (h:0<=j) (q:Q (.str (T (a.take j.toNat))) H):rSlS (.str (T a)) none (some j) H Q:=zVh hz h q
theorem zVL {a:List Nat} (hz:a.length<=16777216) (h:0<=i) (q:Q (.str (T (a.drop i.toNat))) H):rSlS (.str (T a)) (some i) none H Q:=zXB hz h q
theorem zSg {a:List Nat} (hz:a.length<=16777216) (h:0<=i) (h':0<=j) (q:Q (.str (T ((a.take j.toNat).drop i.toNat))) H):rSlS (.str (T a)) (some i) (some j) H Q:=zVJ hz h h' q
theorem zTG {a b:List Nat} (q:Q (.bl (decide (a=b))) H):rEq (.str (T a)) (.str (T b)) H Q:=zTU (by
 have e:decide (T a=T b)=decide (a=b):=decide_eq_decide.mpr T_eq
 rw [e];exact q)
theorem zSt {a b:List Nat} (q:Q (.bl (!decide (a=b))) H):rNe (.str (T a)) (.str (T b)) H Q:=zQa (by
 have e:decide (T a=T b)=decide (a=b):=decide_eq_decide.mpr T_eq
 rw [e];exact q)
theorem zUL (h:decide (x=y)=b) (q:Q (.bl (!b)) H):rNe (.str x) (.str y) H Q:=zQa (by rw [h];exact q)
theorem zE1 {p:Addr} (h:SqL K H p xs) (h0:0<=i) (h1:i < xs.length) (q : ∀ x,xs[i.toNat]? = some x->Q x H):rIxL K (.ref p) (.int i) H Q:=by
 have h2:i.toNat < xs.length:=by omega
 have e:atI xs ((i.toNat:Nat):Int)=some xs[i.toNat]:=zTh (getElem?_eq_getElem h2)
 rw [show ((i.toNat:Nat):Int)=i by omega] at e
 exact zVU h e (q _ (getElem?_eq_getElem h2))
def zQw:V->List V->Hp->VK->Prop:=fun x xs H Q=>∃ z y:Str,x = .str z/\xs=[.str y]/\Q (.int (Txt.find z y)) H
theorem zRf:MtR X "str.find" zQw:=by
 intro pins s σ H x xs v us Q I rx rv h
 obtain ⟨z,y,rfl,rfl,q⟩:=h
 obtain ⟨t,rfl⟩:=rx
 obtain ⟨u,rfl,ru⟩:=rv.one
 obtain ⟨t',rfl⟩:=ru
 exact SC.find ⟨.int _,H,I.tok _,⟨_,rfl⟩,q⟩
theorem zQO (q:Q (.int (Txt.find z y)) H):zQw (.str z) [.str y] H Q:=⟨z,y,rfl,rfl,q⟩
theorem zX9 {R:Prop} (q:R):tyV K "str" (.str z) H/\R:=⟨rfl,q⟩
end
def Its (x:Str):It:=⟨fun i _=>i < (Lt x).length,fun i H v H'=>H'=H /\ ∃ c,(Lt x)[i]? = some c/\v = .str (T [c]),fun i _=>i=(Lt x).length⟩
theorem zRg {K:PySem.W.Frag} {tg:Expr} (x:Str) (t:Tok) (it:Addr) (ty:String) (hty:ty = "str_ascii_iterator" \/ ty = "str_iterator"):Turn P w K tg (Its x) [it] it (fun i h=>h.IsStrIter it ty x t i) where
 mem:=by simp
 obj:=fun i h st b hb=>by
  have e:b=it:=by simpa using hb
  subst e
  obtain ⟨o,e,c,d⟩:=st
  exact ⟨o,e,fun v z=>by rw [d] at z;cases z⟩
 keep:=fun i h h' st k=>by
  obtain ⟨o,e,c,d⟩:=st
  exact ⟨o,k it (by simp) o e,c,d⟩
 item:=by
  intro X hP hw hK hc i pins s σ H E I hf st hg
  subst hP hw hK
  obtain ⟨f0,f1,f2,f3,f4,f5⟩:=hf it (by simp)
  have W:Walks X.prog X.w X.A it [it] [it] x.cps.size (SignAt x) (fun i h=>h.IsStrIter it ty x t i):=by
   rcases hty with rfl | rfl
   ·exact Walks.strAscii (I.ok.hd hc) it x t
   ·exact Walks.strWide (I.ok.hd hc) it x t
  refine W.item i s _ _ hg st fun v h' tk hv st' kk=>?_
  obtain ⟨c,u,hcu,rfl⟩:=hv
  have I1:Inv X pins σ H { s with heap:=h',toks:=tk }:=I.turned (fun b o hb e=>kk b o (by simpa using hb) e) f0 f1 f3 f4 f5
  obtain ⟨o,e,c1,d⟩:=id st'
  have hn:["enumerate", "zip", "dict_itemiterator", "dict_reverseitemiterator", "odict_iterator", "itertools.zip_longest", "itertools.pairwise"].contains ty=false:=by rcases hty with rfl | rfl <;> decide
  exact ⟨_,rfl,zP6 (s:={ s with heap:=h',toks:=tk }) e c1 d hn ⟨.str (T [c]),H,I1,⟨u,rfl⟩,⟨rfl,c,by simpa [Lt] using hcu,rfl⟩,st',fun b hb=>(hf b hb).1⟩⟩
 done:=by
  intro X hP hw hK hc i pins s σ H E I hf st hg
  subst hP hw hK
  obtain ⟨f0,f1,f2,f3,f4,f5⟩:=hf it (by simp)
  have W:Walks X.prog X.w X.A it [it] [it] x.cps.size (SignAt x) (fun i h=>h.IsStrIter it ty x t i):=by
   rcases hty with rfl | rfl
   ·exact Walks.strAscii (I.ok.hd hc) it x t
   ·exact Walks.strWide (I.ok.hd hc) it x t
  have hi:i=x.cps.size:=hg
  subst hi
  exact W.done s _ _ st fun h' tk kk=>⟨rfl,I.turned (fun b o hb e=>kk b o (by simpa using hb) e) f0 f1 f3 f4 f5⟩
 self:=fun _ _ _ _ _ st h=>by
  rcases hty with rfl | rfl
  ·exact wpAny_pyIter_striter_ascii st h
  ·exact wpAny_pyIter_striter_wide st h
section
variable {X : Cx} {tg : Expr}
def iStr (tl:TE):TI:=fun σ H R=>tl σ H fun x H1=>∃ z:Str,x = .str z/\R (Its z) H1
theorem zPk {l:Expr} {tl:TE} (hl:PE X l tl):PI X tg l (iStr tl):=by
 intro pins s σ H R I h
 refine thn (hl pins s σ H _ I h) fun v s1 ⟨x,H1,I1,r1,q1⟩=>?_
 obtain ⟨z,e,q⟩:=q1
 subst e
 obtain ⟨t,rfl⟩:=r1
 have hty:strIterType z = "str_ascii_iterator" \/ strIterType z = "str_iterator" := by unfold strIterType;split <;> simp
 refine wpAny_pyIter_strU ?_
 refine ⟨s1.heap.objs.size,[s1.heap.objs.size],_,_,H1,rfl,I1.kept (t':=s1.toks) fun b o e=>Heap.get?_push_of_some _ e,zRg z t _ _ hty,⟨_,Heap.get?_push_size _ rfl,rfl,rfl⟩,fun b hb=>?_,q⟩
 have e:b=s1.heap.objs.size:=by simpa using hb
 subst e
 exact I1.fpOk (Nat.le_refl _) (I1.hok.fresh (Nat.le_refl _))
end
section
variable {σ : St} {H : Hp} {Q : VK} {D : Ends} {K : W.Frag}
def zWG (g:TG) (tb:TS) (D:Ends) (σ:St) (x:V) (H:Hp):Prop:=∃ z:Str,x = .str z /\ ∃ W:Nat->Nat->St->Hp->Prop,(∃ m,W 0 m σ H) /\ ∀ i m σ H,W i m σ H ->
 ((Its z).stop i H/\D.nx σ H)\/((Its z).go i H /\ ∃ N:St->Hp->Prop,(∀ σ' H',N σ' H' -> ∃ m',m' < m/\W (i+1) m' σ' H') /\ ∀ x H',(Its z).yld i H x H'->g x σ H' fun σ2 H2=>tb { D with nx:=N,ct:=N,bk:=D.nx } σ2 H2)
theorem zVj {tl:TE} {g:TG} {tb:TS} (h:tl σ H (zWG g tb D σ)):tFor (iStr tl) g tb D σ H:=h
theorem zUw {g:TG} {tb:TS} {a:List Nat} (Pv:Nat->St->Hp->Prop) (h0:Pv 0 σ H)
  (hs : ∀ i c σ H,a[i]? = some c->Pv i σ H->g (.str (T [c])) σ H fun σ2 H2=>tb { D with nx:=Pv (i+1),ct:=Pv (i+1),bk:=D.nx } σ2 H2) (hd : ∀ σ H,Pv a.length σ H->D.nx σ H):zWG g tb D σ (.str (T a)) H:=by
 refine ⟨T a,rfl,fun i m σ H=>i+m=a.length/\Pv i σ H,⟨a.length,by omega,h0⟩,?_⟩
 rintro i m σ H ⟨hm,hp⟩
 rcases lt_or_ge i a.length with h | h
 ·refine .inr ⟨h,Pv (i+1),fun σ' H' hp'=>⟨m - 1,by omega,by omega,hp'⟩,?_⟩
  rintro x H' ⟨rfl,c,hc,rfl⟩
  exact hs i c σ H' hc hp
 ·have e:i=a.length:=by omega
  subst e
  exact .inl ⟨rfl,hd σ H hp⟩
end
def fv (c:Nat):Int:=if 48<=c/\c<=57 then (c:Int) - 48 else if 97<=c/\c<=102 then (c:Int) - 87 else -1
theorem zRl : ∀ c ∈ List.range 127,Txt.find "0123456789abcdef" (T [c])=fv c:=by decide +kernel
theorem zVY {c:Nat} (h:c < 127):Txt.find "0123456789abcdef" (T [c])=fv c:=zRl c (List.mem_range.mpr h)
def fc (d:Nat):Nat:=(Lt "0123456789abcdef").getD d 0
theorem zWP : ∀ d ∈ List.range 16,fc d < 127/\fv (fc d)=d/\(fc d=48->d=0):=by decide +kernel
variable {d:Nat}
theorem zSj (h:d < 16):fc d < 127/\fv (fc d)=d/\(fc d=48->d=0):=zWP d (List.mem_range.mpr h)
def val (b:Int) (l:List Nat):Int:=l.foldl (fun n c=>n*b+fv c) 0
theorem zIs (b:Int) (l:List Nat) (c:Nat):val b (l++[c])=val b l*b+fv c:=by unfold val;rw [List.foldl_append];rfl
theorem zKH (b:Int) (l:List Nat) : ∀ m:Nat,val b (List.replicate m 48++l)=val b l
 | 0=>by simp
 | m+1=>by
  have ih:=zKH b l m
  unfold val at ih ⊢
  rw [replicate_succ,List.cons_append,foldl_cons]
  have:(0:Int)*b+fv 48=0:=by rw [Int.zero_mul];decide
  rw [this];exact ih
def FigB (b:Int) (l:List Nat):Prop:=∀ c ∈ l,c < 127/\0<=fv c/\fv c < b
theorem FigB.mono {b b':Int} {l:List Nat} (h:FigB b l) (hb:b<=b'):FigB b' l:=fun c hc=>⟨(h c hc).1,(h c hc).2.1,by have:=(h c hc).2.2;omega⟩
theorem FigB.app {b:Int} {l m:List Nat} (h:FigB b l) (h':FigB b m):FigB b (l++m):=fun c hc=>(List.mem_append.mp hc).elim (h c) (h' c)
theorem FigB.noughts {b:Int} (hb:2<=b) (m:Nat):FigB b (List.replicate m 48):=fun c hc=>by
 rw [List.eq_of_mem_replicate hc];exact ⟨by decide,by decide,by show (0:Int) < b;omega⟩
theorem FigB.one {b:Nat} (hb:b<=16) (h:d < b):FigB b [fc d]:=fun c hc=>by
 rw [List.mem_singleton.mp hc]
 have:=zSj (d:=d) (by omega)
 exact ⟨this.1,by omega,by omega⟩
def figs (b n:Nat):List Nat:=if h:n < b\/b < 2 then [fc n] else figs b (n / b)++[fc (n % b)]
termination_by n
decreasing_by exact Nat.div_lt_self (by omega) (by omega)
theorem zHp {b:Nat} (h:n < b):figs b n=[fc n]:=by rw [figs];simp [h]
theorem zM8 {b:Nat} (h2:2<=b) (h:b<=n):figs b n=figs b (n / b)++[fc (n % b)]:=by rw [figs];simp [show ¬ n < b by omega,show ¬ b < 2 by omega]
theorem zGi {b:Nat} (h2:2<=b) (h16:b<=16) : ∀ (m n:Nat),n<=m->FigB b (figs b n)/\val b (figs b n)=n/\figs b n≠[]/\((figs b n).getD 0 0=48->n=0):=by
 intro m
 induction m with
 | zero =>
  intro n hn
  rw [zHp (by omega)]
  have e:=zSj (d:=n) (by omega)
  exact ⟨FigB.one h16 (by omega),by unfold val;simp [e.2.1],by simp,fun _=>by omega⟩
 | succ m ih =>
  intro n hn
  rcases lt_or_ge n b with h | h
  ·rw [zHp h]
   have e:=zSj (d:=n) (by omega)
   exact ⟨FigB.one h16 (by omega),by unfold val;simp [e.2.1],by simp,fun q=>e.2.2 (by simpa using q)⟩
  ·have hd:n / b < n:=Nat.div_lt_self (by omega) (by omega)
   obtain ⟨i1,i2,i3,i4⟩:=ih (n / b) (by omega)
   have hm:=Nat.mod_lt n (show b > 0 by omega)
   rw [zM8 h2 h]
   refine ⟨i1.app (FigB.one h16 hm),?_,by simp,fun q=>?_⟩
   ·rw [zIs,i2,(zSj (d:=n % b) (by omega)).2.1]
    have:=Nat.div_add_mod n b
    rw [Nat.mul_comm] at this
    omega
   ·rw [zFX (List.length_pos_iff.mpr i3)] at q
    have:=i4 q
    have p:0 < n / b:=Nat.div_pos h (by omega)
    omega
theorem zJT {b:Nat} (h2:2<=b) : ∀ (k n:Nat),n < b ^ (k+1)->(figs b n).length<=k+1
 | 0,n,h=>by rw [Nat.pow_one] at h;rw [zHp h];simp
 | k+1,n,h=>by
  rcases lt_or_ge n b with h' | h'
  ·rw [zHp h'];simp
  ·rw [zM8 h2 h',length_append]
   have:=zJT h2 k (n / b) (Nat.div_lt_of_lt_mul (by rw [Nat.pow_succ,Nat.mul_comm] at h;exact h))
   simp;omega
theorem zSD {b:Nat} (h2:2<=b) (h:n < 1766847064778384329583297500742918515827483896875618958121606201292619776):(figs b n).length<=240:=by
 refine zJT h2 239 n (lt_of_lt_of_le h ?_)
 have e:(1766847064778384329583297500742918515827483896875618958121606201292619776:Nat)=2 ^ 240:=by decide +kernel
 rw [e];exact Nat.pow_le_pow_left h2 240
variable {m:Nat}
theorem zMD {b:Nat} (h2:2<=b) (l:List Nat):figs b m++l=if m / b=0 then fc (m % b)::l else figs b (m / b)++fc (m % b)::l:=by
 rcases lt_or_ge m b with h' | h'
 ·rw [if_pos (Nat.div_eq_of_lt h'),zHp h',mod_eq_of_lt h'];rfl
 ·have p:0 < m / b:=Nat.div_pos h' (by omega)
  rw [if_neg (by omega),zM8 h2 h',append_assoc];rfl
variable {Q:VK}
theorem zTu (hz:xs.length<=sizeLine) (h : ∀ p,H p=none->Q (.ref p) (upd H p (.lst xs))):kLst Q xs H:=⟨hz,h⟩
theorem zBi (g:Same H H') (n:H l=none):Same H (upd H' l o):=fun b u q=>by rw [zBY (zB8 q n)];exact g b u q
variable {σ:St}
theorem zV4 {T:String} {r:V->List V->Hp->VK->Prop} {to:TE} (h:to σ H fun x H1=>tyV K T x H1/\r x [] H1 Q):tBM0 K T r to σ H Q:=h
theorem zMA (h:H l=some (.lst xs)) (q:Q .non (upd H l (.lst xs.reverse))):zNs (.ref l) [] H Q:=⟨l,xs,rfl,rfl,h,q⟩
def jn (m:List Nat):List (List Nat)->List Nat
 | []=>[]
 | x::xs=>x++(xs.map (m ++ ·)).flatten
theorem zL5 (m:Str) : ∀ (xs:List (List Nat)) (a:Array Nat),((xs.map T).foldl (fun acc p=>acc++m.cps++p.cps) a).toList=a.toList++(xs.map (Lt m ++ ·)).flatten
 | [],a=>by simp
 | x::xs,a=>by
  rw [map_cons,foldl_cons,zL5 m xs,map_cons,List.flatten_cons]
  simp [T]
theorem zVx (m:Str) (xs:List (List Nat)):Txt.join m (xs.map T)=T (jn (Lt m) xs):=by
 refine zKl ?_
 rw [Lt_T]
 unfold Txt.join Builtin.Str.glued
 cases xs with
 | nil=>rfl
 | cons x xs =>
  show (List.foldl (fun acc p=>acc++m.cps++p.cps) (T x).cps (xs.map T)).toList=_
  rw [zL5];rfl
theorem zU2 (m:List Nat) {xs:List (List Nat)} (h:xs≠[]) (y:List Nat):jn m (xs++[y])=jn m xs++(m++y):=by
 cases xs with
 | nil=>exact absurd rfl h
 | cons x xs=>unfold jn;simp
theorem zSp (xs:List (List Nat)):jn [] xs=xs.flatten:=by
 cases xs with
 | nil=>rfl
 | cons x xs=>unfold jn;simp
theorem zXL {m:Str} {xs:List (List Nat)} (h:xs.flatten.length+xs.length*(Lt m).length<=16777216):JoinOk m (xs.map T)=true:=by
 have e : ∀ (xs:List (List Nat)) (n:Nat),(xs.map T).foldl (fun x1 x2=>x1+x2.length+m.length) n=n+xs.flatten.length+xs.length*(Lt m).length:=by
  intro xs
  induction xs with
  | nil=>intro n;simp
  | cons x xs ih =>
   intro n
   rw [map_cons,foldl_cons,ih,List.flatten_cons,length_append,length_cons,Nat.add_mul]
   have e1:(T x).length=x.length:=rfl
   have e2:m.length=(Lt m).length:=rfl
   rw [e1,e2];omega
 unfold JoinOk Builtin.Str.tooLong
 rw [List.foldl_toArray,e,decide_eq_false (by show ¬ 0+xs.flatten.length+xs.length*(Lt m).length > 16777216;omega)]
 rfl
def zSr (K:W.Frag):V->List V->Hp->VK->Prop:=fun x vs H Q=>∃ (m:Str) (p:Addr) (xs:List (List Nat)),x = .str m/\vs=[.ref p]/\H p=some (.lst (xs.map fun l=>V.str (T l)))/\xs.flatten.length+xs.length*(Lt m).length<=16777216/\Q (.str (T (jn (Lt m) xs))) H
theorem zLy : ∀ {xs:List (List Nat)} {us:List Value},Vals (xs.map fun l=>V.str (T l)) us -> ∃ ts:List (Str × Tok),us=strValues ts/\ts.map (fun x=>x.1)=xs.map T
 | [],_,.nil=>⟨[],rfl,rfl⟩
 | x::xs,_,.cons r t=>by
  obtain ⟨ts,rfl,e⟩:=zLy t
  obtain ⟨u,rfl⟩:=r
  exact ⟨(T x,u)::ts,rfl,by rw [map_cons,map_cons,e]⟩
theorem zLL:MtR X "str.join" (zSr X.K):=by
 intro pins s σ H x vs v us Q I rx rv h
 obtain ⟨m,p,xs,rfl,rfl,hH,hz,q⟩:=h
 obtain ⟨t,rfl⟩:=rx
 obtain ⟨u,rfl,ru⟩:=rv.one
 cases ru
 obtain ⟨its,r,pl,_⟩:=I.list (SqL.of hH)
 obtain ⟨ts,rfl,e⟩:=zLy r
 exact SC.join pl.isList e (zXL hz) fun t' k=>⟨.str _,H,I.tok _,⟨t',rfl⟩,by rw [zVx];exact q⟩
theorem zNU {m:Str} {p:Addr} {xs:List (List Nat)} (h:H p=some (.lst (xs.map fun l=>V.str (T l)))) (hz:xs.flatten.length+xs.length*(Lt m).length<=16777216) (q:Q (.str (T (jn (Lt m) xs))) H):zSr K (.str m) [.ref p] H Q:=⟨m,p,xs,rfl,rfl,h,hz,q⟩
def pcs (a:List Nat) (z g e:Nat):List (List Nat):=if h:e=0\/z=0 then [] else pcs a z g (e - z - g)++[(a.take e).drop (e - z)]
termination_by e
decreasing_by omega
theorem zBv (a:List Nat) (z g:Nat):pcs a z g 0=[]:=by rw [pcs];simp
variable {z:Nat}
theorem zE5 {a:List Nat} {g e:Nat} (hz:0 < z) (h:0 < e):pcs a z g e=pcs a z g (e - z - g)++[(a.take e).drop (e - z)]:=by
 rw [pcs];rw [dif_neg (by omega)]
theorem zN7 {a:List Nat} {z g:Nat} (hz:0 < z) : ∀ (m e:Nat),e<=m->(pcs a z g e).flatten.length<=e/\(pcs a z g e).length<=e
 | 0,e,h=>by rw [show e=0 by omega,zBv];simp
 | m+1,e,h=>by
  rcases eq_zero_or_pos e with p | p
  ·rw [p,zBv];simp
  ·obtain ⟨i1,i2⟩:=zN7 (a:=a) (g:=g) hz m (e - z - g) (by omega)
   rw [zE5 hz p]
   simp only [List.flatten_append,length_append,List.flatten_cons,List.flatten_nil,List.append_nil,length_drop,length_take,length_cons,List.length_nil]
   omega
def RJ (z m:Nat) (b:List Nat):List Nat:=if h:b.length<=z\/z=0 then b else b.take z++m::RJ z m (b.drop z)
termination_by b.length
decreasing_by rw [length_drop];omega
theorem zFn {b:List Nat} (h:b.length<=z):RJ z m b=b:=by rw [RJ];simp [h]
theorem zJs {b:List Nat}:RJ 0 m b=b:=by rw [RJ];simp
theorem zKW {b:List Nat} (hz:0 < z) (h:z < b.length):RJ z m b=b.take z++m::RJ z m (b.drop z):=by
 rw [RJ];rw [dif_neg (by omega)]
theorem zTF {z m:Nat} : ∀ (k:Nat) (b:List Nat),b.length<=k->b.length<=(RJ z m b).length/\(RJ z m b).length<=2*b.length
 | 0,b,h=>by rw [zFn (by omega)];omega
 | k+1,b,h=>by
  rcases eq_zero_or_pos z with p | p
  ·subst p;rw [zJs];omega
  ·rcases lt_or_ge z b.length with q | q
   ·have ih:=zTF (z:=z) (m:=m) k (b.drop z) (by rw [length_drop];omega)
    rw [length_drop] at ih
    rw [zKW p q,length_append,length_take,length_cons]
    omega
   ·rw [zFn q];omega
theorem zP9 {z m x:Nat} (hz:0 < z) : ∀ (k:Nat) (c:List Nat),c.length<=k->RJ z m (c++[x])=RJ z m c++((if 0 < c.length/\c.length % z=0 then [m] else [])++[x])
 | 0,c,h=>by
  have e:c=[]:=eq_nil_of_length_eq_zero (by omega)
  subst e
  rw [zFn (by simp;omega),zFn (by simp)];simp
 | k+1,c,h=>by
  rcases Nat.lt_trichotomy c.length z with p | p | p
  ·rw [zFn (by simp;omega),zFn (by omega),if_neg (by
    intro q;rw [mod_eq_of_lt p] at q;omega)];simp
  ·rw [zKW hz (by simp;omega),zFn (b:=c) (by omega),if_pos ⟨by omega,by rw [p];exact Nat.mod_self z⟩]
   rw [take_append_of_le_length (by omega),take_of_length_le (by omega),List.drop_append_of_le_length (by omega),drop_of_length_le (by omega),zFn (by simp;omega)]
   simp
  ·rw [zKW hz (by simp;omega),zKW (b:=c) hz p]
   rw [take_append_of_le_length (by omega),List.drop_append_of_le_length (by omega),zP9 hz k (c.drop z) (by rw [length_drop];omega),length_drop]
   have e:(c.length - z) % z=c.length % z:=(Nat.mod_eq_sub_mod (by omega)).symm
   rw [e,append_assoc,List.cons_append]
   have e2:(0 < c.length - z/\c.length % z=0)=(0 < c.length/\c.length % z=0):=propext ⟨fun q=>⟨by omega,q.2⟩,fun q=>⟨by omega,q.2⟩⟩
   simp only [e2]
theorem zTA {a:List Nat} {z m:Nat} (hz:0 < z) : ∀ (k e:Nat),e<=k->e<=a.length->(jn [m] (pcs a z 0 e)).reverse=RJ z m (a.take e).reverse
 | 0,e,h,_=>by rw [show e=0 by omega,zBv,zFn (by simp)];simp [jn]
 | k+1,e,h,ha=>by
  rcases eq_zero_or_pos e with p | p
  ·rw [p,zBv,zFn (by simp)];simp [jn]
  ·rw [zE5 hz p,Nat.sub_zero]
   have le:(a.take e).length=e:=by rw [length_take];omega
   rcases lt_or_ge z e with q | q
   ·have ih:=zTA (a:=a) (m:=m) hz k (e - z) (by omega) (by omega)
    have ne:pcs a z 0 (e - z)≠[]:=by rw [zE5 hz (by omega)];simp
    rw [zU2 _ ne,List.reverse_append,List.reverse_append,ih,zKW (b:=(a.take e).reverse) hz (by rw [length_reverse];omega),List.take_reverse,List.drop_reverse,le]
    rw [take_take,Nat.min_eq_left (show e - z<=e by omega)]
    simp
   ·rw [show e - z=0 by omega,zBv,zFn (by rw [length_reverse];omega)]
    simp [jn]
def gr (z m:Nat) (a:List Nat):List Nat:=(RJ z m a.reverse).reverse
theorem zVQ {a:List Nat} (hz:0 < z):jn [m] (pcs a z 0 a.length)=gr z m a:=by
 have:=zTA (m:=m) hz a.length a.length (Nat.le_refl _) (Nat.le_refl _)
 rw [take_length] at this
 unfold gr
 rw [<- this,reverse_reverse]
theorem zPy {a:List Nat}:a.length<=(gr z m a).length/\(gr z m a).length<=2*a.length:=by
 have:=zTF (z:=z) (m:=m) a.reverse.length a.reverse (Nat.le_refl _)
 unfold gr;rw [length_reverse] at this ⊢;exact this
def UJ (z:Nat) (c:List Nat):List Nat:=if h:c.length=0\/z=0 then [] else c.take z++UJ z (c.drop (z+1))
termination_by c.length
decreasing_by rw [length_drop];omega
theorem zFD:UJ z []=[]:=by rw [UJ];simp
theorem zHV {c:List Nat} (hz:0 < z) (h:0 < c.length):UJ z c=c.take z++UJ z (c.drop (z+1)):=by rw [UJ];rw [dif_neg (by omega)]
theorem zVt {z m:Nat} (hz:0 < z) : ∀ (k:Nat) (b:List Nat),b.length<=k->UJ z (RJ z m b)=b
 | 0,b,h=>by rw [eq_nil_of_length_eq_zero (show b.length=0 by omega),zFn (by simp),zFD]
 | k+1,b,h=>by
  rcases eq_zero_or_pos b.length with p | p
  ·rw [eq_nil_of_length_eq_zero p,zFn (by simp),zFD]
  ·rcases lt_or_ge z b.length with q | q
   ·rw [zKW hz q,zHV hz (by rw [length_append,length_cons];omega)]
    have l1:(b.take z).length=z:=by rw [length_take];omega
    rw [take_append_of_le_length (by omega),take_of_length_le (by omega),List.drop_append,l1,drop_of_length_le (by omega)]
    rw [show z+1 - z=1 by omega]
    show b.take z++UJ z (RJ z m (b.drop z))=b
    rw [zVt hz k (b.drop z) (by rw [length_drop];omega),take_append_drop]
   ·rw [zFn q,zHV hz p,take_of_length_le q,drop_of_length_le (by omega),zFD,List.append_nil]
theorem zTY {a:List Nat} {z:Nat} (hz:0 < z) : ∀ (k e:Nat),e<=k->e<=a.length->(pcs a z 1 e).flatten.reverse=UJ z (a.take e).reverse
 | 0,e,h,_=>by rw [show e=0 by omega,zBv];simp [zFD]
 | k+1,e,h,ha=>by
  rcases eq_zero_or_pos e with p | p
  ·rw [p,zBv];simp [zFD]
  ·have le:(a.take e).length=e:=by rw [length_take];omega
   have ih:=zTY (a:=a) hz k (e - z - 1) (by omega) (by omega)
   rw [zE5 hz p,List.flatten_append,List.reverse_append,ih,zHV (c:=(a.take e).reverse) hz (by rw [length_reverse];omega),List.take_reverse,List.drop_reverse,le,take_take,Nat.min_eq_left (show e - (z+1)<=e by omega)]
   simp
   rw [show e - (z+1)=e - z - 1 by omega]
def ug (z:Nat) (a:List Nat):List Nat:=if z=0 then a else (UJ z a.reverse).reverse
theorem zVc {a:List Nat} (hz:0 < z):(pcs a z 1 a.length).flatten=ug z a:=by
 have:=zTY hz a.length a.length (Nat.le_refl _) (Nat.le_refl _)
 rw [take_length] at this
 unfold ug
 rw [if_neg (by omega),<- this,reverse_reverse]
theorem zMu (z m:Nat) (a:List Nat):ug z (gr z m a)=a:=by
 unfold ug gr
 split
 ·rename_i h;subst h;rw [zJs,reverse_reverse]
 ·rename_i h
  rw [reverse_reverse,zVt (by omega) a.reverse.length a.reverse (Nat.le_refl _),reverse_reverse]
theorem zGf {a:List Nat}:gr 0 m a=a:=by unfold gr;rw [zJs,reverse_reverse]
theorem zUB {a:List Nat} (hk:k < a.length):gr z m (a.drop (a.length - (k+1)))=a.getD (a.length - 1 - k) 0::((if 0 < z/\0 < k/\k % z=0 then [m] else [])++gr z m (a.drop (a.length - k))):=by
 have e:a.drop (a.length - (k+1))=a.getD (a.length - 1 - k) 0::a.drop (a.length - k):=by
  rw [List.drop_eq_getElem_cons (by omega),getD_eq_getElem?_getD,getElem?_eq_getElem (by omega)]
  congr 2 <;> omega
 have lk:(a.drop (a.length - k)).length=k:=by rw [length_drop];omega
 rcases eq_zero_or_pos z with p | p
 ·subst p;rw [zGf,zGf,e,if_neg (by omega)];rfl
 ·rw [e]
  unfold gr
  rw [List.reverse_cons,zP9 p _ _ (Nat.le_refl _),length_reverse,lk]
  by_cases q:0 < k/\k % z=0
  ·rw [if_pos q,if_pos ⟨p,q⟩];simp
  ·rw [if_neg q,if_neg (fun h=>q h.2)];simp
variable {ts:List (List Nat)}
theorem zXW {p:Addr} (h:SqL K H p (ts.map fun l=>V.str (T l))) (h0:0<=i) (h1:i < ts.length) (q:Q (.str (T (ts.getD i.toNat []))) H):rIxL K (.ref p) (.int i) H Q:=by
 refine zE1 h h0 (by rw [length_map];exact h1) fun x hx=>?_
 have h2:i.toNat < ts.length:=by omega
 rw [getElem?_map,getElem?_eq_getElem h2] at hx
 cases hx
 rw [getD_eq_getElem?_getD,getElem?_eq_getElem h2] at q
 exact q
section
variable {X : Cx} {H : Hp} {Q : VK} {K : W.Frag}
inductive NT (H:Hp):V->Prop where
 | int (i:Int):NT H (.int i)
 | non:NT H .non
 | bl (b:Bool):NT H (.bl b)
 | lst {p:Addr} {xs:List V} (e:H p=some (.lst xs)):NT H (.ref p)
 | tup {p:Addr} {xs:List V} (e:H p=some (.tup xs)):NT H (.ref p)
 | dct {p:Addr} (e:H p=some (dctO p)):NT H (.ref p)
theorem NT.same {v:V} (h:NT H v) (g:Same H H'):NT H' v:=by
 cases h with
 | int i=>exact .int i
 | non=>exact .non
 | bl b=>exact .bl b
 | lst e=>exact .lst (g _ _ e)
 | tup e=>exact .tup (g _ _ e)
 | dct e=>exact .dct (g _ _ e)
def Asc (l:List Nat):Prop:=∀ c ∈ l,c < 127
theorem Asc.nil:Asc []:=fun _ h=>nomatch h
theorem Asc.app {l m:List Nat} (h:Asc l) (h':Asc m):Asc (l++m):=fun c hc=>(List.mem_append.mp hc).elim (h c) (h' c)
theorem Asc.one {c:Nat} (h:c < 127):Asc [c]:=fun d hd=>by rw [List.mem_singleton.mp hd];exact h
theorem Asc.take {l:List Nat} (h:Asc l) (n:Nat):Asc (l.take n):=fun c hc=>h c (List.mem_of_mem_take hc)
theorem Asc.drop {l:List Nat} (h:Asc l) (n:Nat):Asc (l.drop n):=fun c hc=>h c (List.mem_of_mem_drop hc)
theorem Asc.rep {l:List Nat} (h:Asc l) (n:Nat):Asc (List.replicate n l).flatten:=fun c hc=>by
 obtain ⟨m,hm,hc⟩:=List.mem_flatten.mp hc
 rw [List.eq_of_mem_replicate hm] at hc
 exact h c hc
theorem FigB.asc {b:Int} {l:List Nat} (h:FigB b l):Asc l:=fun c hc=>(h c hc).1
theorem FigB.snoc {b:Int} {l:List Nat} {i c:Nat} (h:FigB b (l.take i)) (hi:l[i]? = some c) (h1:c < 127) (h2:0<=fv c) (h3:fv c < b):FigB b (l.take (i+1)):=by
 rw [take_succ,hi]
 refine h.app fun d hd=>?_
 rw [List.mem_singleton.mp hd];exact ⟨h1,h2,h3⟩
end
theorem zF7 {l:List Nat} {j:Nat} (e:x=T l):PE X (.Constant (.str x) j pos) (tC (.str (T l))):=by
 rw [<- e];exact zA2
theorem zPo {z x:Nat} (hz:0 < z) : ∀ (k:Nat) (c:List Nat),c.length<=k->UJ z (c++[x])=UJ z c++(if c.length % (z+1)=z then [] else [x])
 | 0,c,h=>by
  have e:c=[]:=eq_nil_of_length_eq_zero (by omega)
  subst e
  rw [zHV hz (by simp),zFD,if_neg (by simp;omega),List.nil_append,take_of_length_le (by simp;omega),drop_of_length_le (by simp),zFD];simp
 | k+1,c,h=>by
  rcases eq_zero_or_pos c.length with p0 | p0
  ·have e:c=[]:=eq_nil_of_length_eq_zero p0
   subst e
   rw [zHV hz (by simp),zFD,if_neg (by simp;omega),List.nil_append,take_of_length_le (by simp;omega),drop_of_length_le (by simp),zFD];simp
  rw [zHV hz (by simp),zHV hz p0]
  rcases Nat.lt_trichotomy c.length z with p | p | p
  ·rw [take_of_length_le (by simp;omega),take_of_length_le (by omega),drop_of_length_le (by simp;omega),drop_of_length_le (by omega),zFD,if_neg (by rw [mod_eq_of_lt (by omega)];omega)];simp
  ·rw [take_append_of_le_length (by omega),drop_of_length_le (by simp;omega),drop_of_length_le (by omega),zFD,if_pos (by rw [mod_eq_of_lt (by omega)];exact p)];simp
  ·rw [take_append_of_le_length (by omega),List.drop_append_of_le_length (by omega),zPo hz k (c.drop (z+1)) (by rw [length_drop];omega),length_drop,<- Nat.mod_eq_sub_mod (by omega),append_assoc]
theorem zJl {z m:Nat} (hz:0 < z) : ∀ (k:Nat) (b:List Nat),b.length<=k->1<=b.length->(RJ z m b).length=b.length+(b.length - 1) / z
 | 0,b,h,h1=>by omega
 | k+1,b,h,h1=>by
  rcases lt_or_ge z b.length with q | q
  ·have ih:=zJl (m:=m) hz k (b.drop z) (by rw [length_drop];omega) (by rw [length_drop];omega)
   rw [length_drop] at ih
   rw [zKW hz q,length_append,length_take,length_cons,ih]
   have e:(b.length - 1) / z=(b.length - z - 1) / z+1:=by
    rw [Nat.div_eq_sub_div hz (by omega),show b.length - 1 - z=b.length - z - 1 by omega]
   omega
  ·rw [zFn q,Nat.div_eq_of_lt (by omega)];omega
theorem zKo {c:List Nat} (hz:0 < z) (h:0 < c.length):0 < (UJ z c).length:=by
 rw [zHV hz h,length_append,length_take];omega
theorem zWr {z m:Nat} (hz:0 < z) : ∀ (k:Nat) (c:List Nat),c.length<=k->c.length % (z+1)≠0->(∀ j,j < c.length->j % (z+1)=z->c.getD j 0=m)->RJ z m (UJ z c)=c
 | 0,c,h,h0,_=>by rw [show c.length=0 by omega] at h0;simp at h0
 | k+1,c,h,h0,hm=>by
  have p0:0 < c.length:=by
   rcases eq_zero_or_pos c.length with p | p
   ·rw [p] at h0;simp at h0
   ·exact p
  rcases Nat.lt_trichotomy c.length (z+1) with q | q | q
  ·rw [zHV hz p0,take_of_length_le (by omega),drop_of_length_le (by omega),zFD,List.append_nil,zFn (by omega)]
  ·rw [q,Nat.mod_self] at h0;exact absurd rfl h0
  ·have l1:(c.take z).length=z:=by rw [length_take];omega
   have l2:(c.drop (z+1)).length=c.length - (z+1):=length_drop ..
   have ih:=zWr (m:=m) hz k (c.drop (z+1)) (by omega) (by rw [l2,<- Nat.mod_eq_sub_mod (by omega)];exact h0) (fun j hj he=>by
    have z1:=hm (z+1+j) (by omega) (by rw [Nat.add_mod_left];exact he)
    rw [getD_eq_getElem?_getD] at z1 ⊢
    rw [List.getElem?_drop];exact z1)
   have up:=zKo (c:=c.drop (z+1)) hz (by omega)
   rw [zHV hz p0,zKW hz (by rw [length_append,l1];omega),take_append_of_le_length (by omega),take_of_length_le (by omega),List.drop_append_of_le_length (by omega),drop_of_length_le (by omega),List.nil_append,ih]
   have cz:=hm z (by omega) (mod_eq_of_lt (by omega))
   rw [getD_eq_getElem?_getD,getElem?_eq_getElem (by omega)] at cz
   have cz':c[z]=m:=cz
   rw [<- cz',<- List.drop_eq_getElem_cons,take_append_drop]
def GG (z m:Nat) (t:List Nat):Prop:=1<=(ug z t).length/\(ug z t).length<=40/\gr z m (ug z t)=t
theorem GG.len {t:List Nat} (h:GG z m t):(ug z t).length+(if 0 < z then ((ug z t).length - 1) / z else 0)=t.length:=by
 have e:=congrArg List.length h.2.2
 rcases eq_zero_or_pos z with p | p
 ·subst p;rw [zGf] at e;simp;exact e
 ·unfold gr at e
  rw [length_reverse,zJl p _ _ (Nat.le_refl _) (by rw [length_reverse];exact h.1),length_reverse] at e
  rw [if_pos p];exact e
theorem zLY {l:List Nat} {j:Nat} (h:j < l.length):l.reverse.getD j 0=l.getD (l.length - 1 - j) 0:=by
 rw [getD_eq_getElem?_getD,getD_eq_getElem?_getD,List.getElem?_reverse h]
theorem zSB {a b:Nat} (h1:1<=a) (h2:1<=b) (h:a+(a - 1) / z=b+(b - 1) / z):a=b:=by
 rcases Nat.lt_trichotomy a b with p | p | p
 ·have:=Nat.div_le_div_right (c:=z) (show a - 1<=b - 1 by omega);omega
 ·exact p
 ·have:=Nat.div_le_div_right (c:=z) (show b - 1<=a - 1 by omega);omega
theorem GG.of {many:Nat} {t:List Nat} (h1:1<=many) (h2:many<=40) (hl:many+(if 0 < z then (many - 1) / z else 0)=t.length) (hm:0 < z -> ∀ k,k < t.length->(t.length - 1 - k) % (z+1)=z->t.getD k 0=m):GG z m t:=by
 rcases eq_zero_or_pos z with p | p
 ·subst p
  have e:ug 0 t=t:=rfl
  unfold GG;rw [e,zGf];simp at hl;exact ⟨by omega,by omega,rfl⟩
 ·rw [if_pos p] at hl
  have hn:t.length % (z+1)≠0:=by
   have d:=Nat.div_add_mod (many - 1) z
   have r:=Nat.mod_lt (many - 1) p
   generalize (many - 1) / z=q at *
   generalize (many - 1) % z=r' at *
   have e:t.length=r'+1+(z+1)*q:=by rw [Nat.add_mul,Nat.one_mul];omega
   rw [e,Nat.add_mul_mod_self_left,mod_eq_of_lt (by omega)];omega
  have rj:=zWr (m:=m) p _ t.reverse (Nat.le_refl _) (by rw [length_reverse];exact hn) (fun j hj he=>by
   rw [length_reverse] at hj
   rw [zLY hj]
   exact hm p _ (by omega) (by rw [show t.length - 1 - (t.length - 1 - j)=j by omega];exact he))
  have e:ug z t=(UJ z t.reverse).reverse:=by unfold ug;rw [if_neg (by omega)]
  have tp:0 < t.length:=lt_of_lt_of_le (show 0 < many by omega) (by rw [<- hl];exact Nat.le_add_right _ _)
  have up:=zKo (c:=t.reverse) p (by rw [length_reverse];exact tp)
  have ln:=zJl (m:=m) p _ (UJ z t.reverse) (Nat.le_refl _) up
  rw [rj,length_reverse] at ln
  have em:=zSB (z:=z) (a:=(UJ z t.reverse).length) (b:=many) up h1 (by omega)
  refine ⟨by rw [e,length_reverse];omega,by rw [e,length_reverse];omega,?_⟩
  rw [e];unfold gr;rw [reverse_reverse,rj,reverse_reverse]
theorem zWS {t:List Nat}:(ug z t).length<=t.length:=by
 rcases eq_zero_or_pos z with p | p
 ·subst p;exact Nat.le_refl _
 ·rw [<- zVc p];exact (zN7 p _ _ (Nat.le_refl _)).1
section
variable {σ : St} {H : Hp} {Q : VK} {D : Ends} {K : W.Frag}
def zS0 (g:TG) (tb:TS) (D:Ends) (σ:St) (vs:List V) (H:Hp):Prop:=∃ i j:Int,vs=[.int i,.int j]/\(-(2 ^ 62)<=i/\i < 2 ^ 62 /\ -(2 ^ 62)<=j/\j < 2 ^ 62) /\ ∃ W:Nat->Nat->St->Hp->Prop,(∃ m,W 0 m σ H) /\ ∀ k m σ H,W k m σ H ->
 ((Itr i (j - i).toNat).stop k H/\D.nx σ H)\/((Itr i (j - i).toNat).go k H /\ ∃ N:St->Hp->Prop,(∀ σ' H',N σ' H' -> ∃ m',m' < m/\W (k+1) m' σ' H') /\ ∀ x H',(Itr i (j - i).toNat).yld k H x H'->g x σ H' fun σ2 H2=>tb { D with nx:=N,ct:=N,bk:=D.nx } σ2 H2)
theorem zVC {ta:TA} {g:TG} {tb:TS} (h:ta σ H (zS0 g tb D σ)):tFor (zU5 ta) g tb D σ H:=h
theorem zNz {g:TG} {tb:TS} (hb : -(2 ^ 62)<=i/\i < 2 ^ 62 /\ -(2 ^ 62)<=j/\j < 2 ^ 62) (Pv:Nat->St->Hp->Prop) (h0:Pv 0 σ H)
  (hs : ∀ k σ H,k < (j - i).toNat->Pv k σ H->g (.int (i+k)) σ H fun σ2 H2=>tb { D with nx:=Pv (k+1),ct:=Pv (k+1),bk:=D.nx } σ2 H2) (hd : ∀ σ H,Pv (j - i).toNat σ H->D.nx σ H):zS0 g tb D σ [.int i,.int j] H:=⟨i,j,rfl,hb,zL8 Pv h0 hs hd⟩
end
def KD (w:World) (K:W.Frag) (d:Addr) (z:Str) (v:Addr):Prop:=∃ (es:Array DictEntry) (n:Nat),K.lookup d=some { cls:=.type "dict", data:=.dict es n }/\(∀ e,e ∈ es -> ∃ k,Value.isStrOf k e.key=true/\e.hash=hashStr w k)/\findBy Value.isStrOf es z=some (.ref v)
def rIxD (w:World) (K:W.Frag):R2:=fun x y H Q=>∃ d z v,x = .ref d/\y = .str z/\KD w K d z v/\Q (.ref v) H
section
variable {X : Cx} {H : Hp} {Q : VK} {K : W.Frag} {w : World}
theorem zVd:IxR X (rIxD X.w X.K):=by
 intro value slice pins s σ H x y v u Q I rx ry h hs
 obtain ⟨d,z,p,rfl,rfl,⟨es,n,lk,ks,f⟩,q⟩:=h
 cases rx
 obtain ⟨t,rfl⟩:=ry
 have ho:=I.kIn d _ lk
 have fin : ∀ k,EP X pins σ Q (.ref p) { s with toks:=k }:=fun k=>⟨.ref p,H,I.tok _,rfl,q⟩
 exact subscriptTail_builtinR (x:=.ref p) ⟨_,ho,rfl⟩ slot_dict_getitem.lookup
  (wpAny_getItem_of (knd:=PySem.strKind X.prog X.w) (k:=z) (f:=fun k=>findBy Value.isStrOf es k) (Q:=fun r s'=>r = .ref p/\EP X pins σ Q r s') (by simp [PySem.strKind,Value.isStrOf]) ⟨_,es,n,ho,⟨rfl,rfl,rfl⟩,rfl,ks,fun k=>rfl⟩ f ⟨rfl,fin _⟩) hs
theorem zXR {d v:Addr} {z:Str} (h:KD w K d z v) (q:Q (.ref v) H):rIxD w K (.ref d) (.str z) H Q:=⟨d,z,v,rfl,rfl,h,q⟩
theorem zUP {p:Addr} {v:V} (h:SqT K H p xs) (e:atI xs i=some v) (q:Q v H):rIxT K (.ref p) (.int i) H Q:=⟨p,xs,i,v,rfl,rfl,h,e,q⟩
theorem SqT.same {p:Addr} (h:SqT K H p xs) (e:Same H H'):SqT K H' p xs:=by
 rcases h with h | h
 ·rcases h with h | ⟨o,h⟩
  ·exact .inl (.inl (e _ _ h))
  ·exact .inl (.inr ⟨o,e _ _ h⟩)
 ·exact .inr h
theorem SqT.mod {p:Addr} {its:List Value} (lk:K.lookup p=some { cls:=.type "tuple", data:=.seq its.toArray n }) (hz:its.length<=1000) (r:Vals xs its):SqT K H p xs:=.inr ⟨_,its.toArray,n,lk,rfl,rfl,small (by simpa using hz),by simpa using r⟩
end
def stL (x:Str) (b:Bool):List Nat:=if x = "minus" then (if b then [45] else []) else if x = "plus" then (if b then [45] else [43]) else if x = "blank" then (if b then [45] else [32]) else if x = "brackets" then (if b then [40] else []) else []
def stT (x:Str) (b:Bool):List Nat:=if x = "minus" then [] else if x = "plus" then [] else if x = "blank" then [] else if x = "brackets" then (if b then [41] else []) else (if b then [45] else [])
def zEN (x:Str):Prop:=x = "minus" \/ x = "plus" \/ x = "blank" \/ x = "brackets" \/ x = "behind"
theorem zCs (b:Bool):stL "minus" b=(if b then [45] else [])/\stT "minus" b=[]:=by unfold stL stT;cases b <;> decide +kernel
theorem zDv (b:Bool):stL "plus" b=(if b then [45] else [43])/\stT "plus" b=[]:=by unfold stL stT;cases b <;> decide +kernel
theorem zCo (b:Bool):stL "blank" b=(if b then [45] else [32])/\stT "blank" b=[]:=by unfold stL stT;cases b <;> decide +kernel
theorem zBf (b:Bool):stL "brackets" b=(if b then [40] else [])/\stT "brackets" b=(if b then [41] else []):=by unfold stL stT;cases b <;> decide +kernel
theorem zCJ (b:Bool):stL "behind" b=[]/\stT "behind" b=(if b then [45] else []):=by unfold stL stT;cases b <;> decide +kernel
theorem zIz (h:zEN x) (b:Bool):(stL x b).length<=1/\(stT x b).length<=1:=by
 rcases h with rfl | rfl | rfl | rfl | rfl
 ·rw [(zCs b).1,(zCs b).2];cases b <;> decide
 ·rw [(zDv b).1,(zDv b).2];cases b <;> decide
 ·rw [(zCo b).1,(zCo b).2];cases b <;> decide
 ·rw [(zBf b).1,(zBf b).2];cases b <;> decide
 ·rw [(zCJ b).1,(zCJ b).2];cases b <;> decide
def Sty (w:World) (K:W.Frag) (d:Addr):Prop:=∀ (x:Str),zEN x -> ∃ p a b:Addr,KD w K d x p /\ ∀ H:Hp,SqT K H p [.ref a,.ref b]/\SqT K H a [.str (T (stL x false)),.str (T (stT x false))]/\SqT K H b [.str (T (stL x true)),.str (T (stT x true))]
theorem sty_mk {d:Addr} {n0:Nat} {t0:Tok} {p0 a0 b0:Addr} {n01 n02 n03:Nat} {u01 u02 u03 u04:Tok} {t1:Tok} {p1 a1 b1:Addr} {n11 n12 n13:Nat} {u11 u12 u13 u14:Tok} {t2:Tok} {p2 a2 b2:Addr} {n21 n22 n23:Nat} {u21 u22 u23 u24:Tok} {t3:Tok} {p3 a3 b3:Addr} {n31 n32 n33:Nat} {u31 u32 u33 u34:Tok} {t4:Tok} {p4 a4 b4:Addr} {n41 n42 n43:Nat} {u41 u42 u43 u44:Tok}
  (hd:K.lookup d=some { cls:=.type "dict", data:=.dict #[⟨PyData.keyHash w.params "minus", .str "minus" t0,.ref p0⟩,⟨PyData.keyHash w.params "plus", .str "plus" t1,.ref p1⟩,⟨PyData.keyHash w.params "blank", .str "blank" t2,.ref p2⟩,⟨PyData.keyHash w.params "brackets", .str "brackets" t3,.ref p3⟩,⟨PyData.keyHash w.params "behind", .str "behind" t4,.ref p4⟩] n0 })
  (hp0:K.lookup p0=some { cls:=.type "tuple", data:=.seq #[.ref a0,.ref b0] n01 })
  (ha0:K.lookup a0=some { cls:=.type "tuple", data:=.seq #[.str "" u01,.str "" u02] n02 })
  (hb0:K.lookup b0=some { cls:=.type "tuple", data:=.seq #[.str "-" u03,.str "" u04] n03 })
  (hp1:K.lookup p1=some { cls:=.type "tuple", data:=.seq #[.ref a1,.ref b1] n11 })
  (ha1:K.lookup a1=some { cls:=.type "tuple", data:=.seq #[.str "+" u11,.str "" u12] n12 })
  (hb1:K.lookup b1=some { cls:=.type "tuple", data:=.seq #[.str "-" u13,.str "" u14] n13 })
  (hp2:K.lookup p2=some { cls:=.type "tuple", data:=.seq #[.ref a2,.ref b2] n21 })
  (ha2:K.lookup a2=some { cls:=.type "tuple", data:=.seq #[.str " " u21,.str "" u22] n22 })
  (hb2:K.lookup b2=some { cls:=.type "tuple", data:=.seq #[.str "-" u23,.str "" u24] n23 })
  (hp3:K.lookup p3=some { cls:=.type "tuple", data:=.seq #[.ref a3,.ref b3] n31 })
  (ha3:K.lookup a3=some { cls:=.type "tuple", data:=.seq #[.str "" u31,.str "" u32] n32 })
  (hb3:K.lookup b3=some { cls:=.type "tuple", data:=.seq #[.str "(" u33,.str ")" u34] n33 })
  (hp4:K.lookup p4=some { cls:=.type "tuple", data:=.seq #[.ref a4,.ref b4] n41 })
  (ha4:K.lookup a4=some { cls:=.type "tuple", data:=.seq #[.str "" u41,.str "" u42] n42 })
  (hb4:K.lookup b4=some { cls:=.type "tuple", data:=.seq #[.str "" u43,.str "-" u44] n43 }):Sty w K d:=by
 have ks : ∀ e,e ∈ (#[⟨PyData.keyHash w.params "minus", .str "minus" t0,.ref p0⟩,⟨PyData.keyHash w.params "plus", .str "plus" t1,.ref p1⟩,⟨PyData.keyHash w.params "blank", .str "blank" t2,.ref p2⟩,⟨PyData.keyHash w.params "brackets", .str "brackets" t3,.ref p3⟩,⟨PyData.keyHash w.params "behind", .str "behind" t4,.ref p4⟩]:Array DictEntry) -> ∃ k,Value.isStrOf k e.key=true/\e.hash=hashStr w k:=by
  intro e he
  simp only [List.mem_toArray,mem_cons,List.not_mem_nil,or_false] at he
  rcases he with rfl | rfl | rfl | rfl | rfl
  ·exact ⟨"minus", by simp [Value.isStrOf],rfl⟩
  ·exact ⟨"plus", by simp [Value.isStrOf],rfl⟩
  ·exact ⟨"blank", by simp [Value.isStrOf],rfl⟩
  ·exact ⟨"brackets", by simp [Value.isStrOf],rfl⟩
  ·exact ⟨"behind", by simp [Value.isStrOf],rfl⟩
 intro x hx
 rcases hx with rfl | rfl | rfl | rfl | rfl
 ·refine ⟨p0,a0,b0,⟨_,_,hd,ks,?_⟩,fun H=>⟨.mod hp0 (by simp) (.cons rfl (.cons rfl .nil)),.mod ha0 (by simp) (.cons ⟨u01,?_⟩ (.cons ⟨u02,?_⟩ .nil)),.mod hb0 (by simp) (.cons ⟨u03,?_⟩ (.cons ⟨u04,?_⟩ .nil))⟩⟩
  ·unfold findBy
   simp only [find?_toArray,find?_cons]
   rfl
  ·exact congrArg (fun z=>Value.str z _) (by rw [(zCs _).1];decide +kernel)
  ·exact congrArg (fun z=>Value.str z _) (by rw [(zCs _).2];decide +kernel)
  ·exact congrArg (fun z=>Value.str z _) (by rw [(zCs _).1];decide +kernel)
  ·exact congrArg (fun z=>Value.str z _) (by rw [(zCs _).2];decide +kernel)
 ·refine ⟨p1,a1,b1,⟨_,_,hd,ks,?_⟩,fun H=>⟨.mod hp1 (by simp) (.cons rfl (.cons rfl .nil)),.mod ha1 (by simp) (.cons ⟨u11,?_⟩ (.cons ⟨u12,?_⟩ .nil)),.mod hb1 (by simp) (.cons ⟨u13,?_⟩ (.cons ⟨u14,?_⟩ .nil))⟩⟩
  ·unfold findBy
   simp only [find?_toArray,find?_cons]
   rfl
  ·exact congrArg (fun z=>Value.str z _) (by rw [(zDv _).1];decide +kernel)
  ·exact congrArg (fun z=>Value.str z _) (by rw [(zDv _).2];decide +kernel)
  ·exact congrArg (fun z=>Value.str z _) (by rw [(zDv _).1];decide +kernel)
  ·exact congrArg (fun z=>Value.str z _) (by rw [(zDv _).2];decide +kernel)
 ·refine ⟨p2,a2,b2,⟨_,_,hd,ks,?_⟩,fun H=>⟨.mod hp2 (by simp) (.cons rfl (.cons rfl .nil)),.mod ha2 (by simp) (.cons ⟨u21,?_⟩ (.cons ⟨u22,?_⟩ .nil)),.mod hb2 (by simp) (.cons ⟨u23,?_⟩ (.cons ⟨u24,?_⟩ .nil))⟩⟩
  ·unfold findBy
   simp only [find?_toArray,find?_cons]
   rfl
  ·exact congrArg (fun z=>Value.str z _) (by rw [(zCo _).1];decide +kernel)
  ·exact congrArg (fun z=>Value.str z _) (by rw [(zCo _).2];decide +kernel)
  ·exact congrArg (fun z=>Value.str z _) (by rw [(zCo _).1];decide +kernel)
  ·exact congrArg (fun z=>Value.str z _) (by rw [(zCo _).2];decide +kernel)
 ·refine ⟨p3,a3,b3,⟨_,_,hd,ks,?_⟩,fun H=>⟨.mod hp3 (by simp) (.cons rfl (.cons rfl .nil)),.mod ha3 (by simp) (.cons ⟨u31,?_⟩ (.cons ⟨u32,?_⟩ .nil)),.mod hb3 (by simp) (.cons ⟨u33,?_⟩ (.cons ⟨u34,?_⟩ .nil))⟩⟩
  ·unfold findBy
   simp only [find?_toArray,find?_cons]
   rfl
  ·exact congrArg (fun z=>Value.str z _) (by rw [(zBf _).1];decide +kernel)
  ·exact congrArg (fun z=>Value.str z _) (by rw [(zBf _).2];decide +kernel)
  ·exact congrArg (fun z=>Value.str z _) (by rw [(zBf _).1];decide +kernel)
  ·exact congrArg (fun z=>Value.str z _) (by rw [(zBf _).2];decide +kernel)
 ·refine ⟨p4,a4,b4,⟨_,_,hd,ks,?_⟩,fun H=>⟨.mod hp4 (by simp) (.cons rfl (.cons rfl .nil)),.mod ha4 (by simp) (.cons ⟨u41,?_⟩ (.cons ⟨u42,?_⟩ .nil)),.mod hb4 (by simp) (.cons ⟨u43,?_⟩ (.cons ⟨u44,?_⟩ .nil))⟩⟩
  ·unfold findBy
   simp only [find?_toArray,find?_cons]
   rfl
  ·exact congrArg (fun z=>Value.str z _) (by rw [(zCJ _).1];decide +kernel)
  ·exact congrArg (fun z=>Value.str z _) (by rw [(zCJ _).2];decide +kernel)
  ·exact congrArg (fun z=>Value.str z _) (by rw [(zCJ _).1];decide +kernel)
  ·exact congrArg (fun z=>Value.str z _) (by rw [(zCJ _).2];decide +kernel)
section
variable {X : Cx} {σ : St} {H : Hp} {Q : VK} {D : Ends} {K : W.Frag}
def zVu (K:PySem.W.Frag) (g:TG) (tb:TS) (D:Ends) (σ:St) (x:V) (H:Hp):Prop:=∃ a,x = .ref a/\(∃ xs,SqT K H a xs) /\ ∃ W:Nat->Nat->St->Hp->Prop,(∃ m,W 0 m σ H) /\ ∀ i m σ H,W i m σ H ->
 ((Itt K a).stop i H/\D.nx σ H)\/((Itt K a).go i H /\ ∃ N:St->Hp->Prop,(∀ σ' H',N σ' H' -> ∃ m',m' < m/\W (i+1) m' σ' H') /\ ∀ x H',(Itt K a).yld i H x H'->g x σ H' fun σ2 H2=>tb { D with nx:=N,ct:=N,bk:=D.nx } σ2 H2)
theorem zWd {tl:TE} {g:TG} {tb:TS} (h:tl σ H (zVu K g tb D σ)):tFor (iTup K tl) g tb D σ H:=h
theorem zUG {g:TG} {tb:TS} (hx:SqT K H a xs) (Pv:Nat->St->Hp->Prop) (h0:Pv 0 σ H) (hl : ∀ i σ H,i<=xs.length->Pv i σ H->SqT K H a xs)
  (hs : ∀ i x σ H,xs[i]? = some x->Pv i σ H->g x σ H fun σ2 H2=>tb { D with nx:=Pv (i+1),ct:=Pv (i+1),bk:=D.nx } σ2 H2) (hd : ∀ σ H,Pv xs.length σ H->D.nx σ H):zVu K g tb D σ (.ref a) H:=⟨a,rfl,⟨xs,hx⟩,zVV Pv h0 hl hs hd⟩
theorem zW3 : ∀ c ∈ List.range 127,(!(Builtin.Str.occurrences "0123456789abcdef" (T [c]) 0 (Str.ofString "0123456789abcdef").length 1).isEmpty)=decide (0<=fv c):=by decide +kernel
theorem zYA {c:Nat} (h:c < 127) (q:Q (.bl (decide (0<=fv c))) H):rInS (.str (T [c])) (.str "0123456789abcdef") H Q:=zWE (by rw [zW3 c (List.mem_range.mpr h)];exact q)
theorem zT9 {lo hi:Option Int} (q:Q (.str (T [])) H):rSlS (.str (T [])) lo hi H Q:=by
 refine zRj (by decide) ?_
 rw [zLO,Lt_T];simpa using q
end
def bod (x:Str) (b:Bool) (t:List Nat):List Nat:=(t.take (t.length - (stT x b).length)).drop (stL x b).length
def Fg (l:List Nat):Prop:=l≠[]/\0<=fv (l.getD 0 0)/\0<=fv (l.getD (l.length - 1) 0)
def Sgd (x:Str) (b:Bool) (t:List Nat):Prop:=Fg (bod x b t)/\stL x b++bod x b t++stT x b=t
theorem zUi {t:List Nat}:(bod x b t).length=t.length - (stT x b).length - (stL x b).length:=by
 unfold bod;rw [length_drop,length_take];omega
theorem zUl {t:List Nat} (h:Asc t):Asc (bod x b t):=(h.take _).drop _
theorem zOW {t:List Nat} {i:Nat} (h:Asc t) (hi:i < t.length):t.getD i 0 < 127:=by
 rw [getD_eq_getElem?_getD,getElem?_eq_getElem hi];exact h _ (getElem_mem hi)
theorem zKL {c:Nat} (h:0<=fv c) (e:c=d) (hd:fv d = -1):False:=by rw [e,hd] at h;omega
theorem zFf (hx:zEN x) {t:List Nat} (h0:Sgd x false t) (h1:Sgd x true t):False:=by
 have b0:=List.length_pos_iff.mpr h0.1.1
 have b1:=List.length_pos_iff.mpr h1.1.1
 have e0:=h0.2
 have e1:=h1.2
 have f0:=h0.1.2
 generalize hB:bod x false t=B at *
 generalize hC:bod x true t=C at *
 have e:=e0.trans e1.symm
 rcases hx with rfl | rfl | rfl | rfl | rfl
 ·rw [(zCs _).1,(zCs _).2,(zCs _).1,(zCs _).2] at e
  have z1:=congrArg (fun l=>l.getD 0 0) e
  exact zKL f0.1 (by simpa using z1) (by decide)
 ·rw [(zDv _).1,(zDv _).2,(zDv _).1,(zDv _).2] at e
  have z1:=congrArg (fun l=>l.getD 0 0) e
  simp at z1
 ·rw [(zCo _).1,(zCo _).2,(zCo _).1,(zCo _).2] at e
  have z1:=congrArg (fun l=>l.getD 0 0) e
  simp at z1
 ·rw [(zBf _).1,(zBf _).2,(zBf _).1,(zBf _).2] at e
  have z1:=congrArg (fun l=>l.getD 0 0) e
  exact zKL f0.1 (by simpa using z1) (by decide)
 ·rw [(zCJ _).1,(zCJ _).2,(zCJ _).1,(zCJ _).2] at e
  have e':B=C++[45]:=by simpa using e
  have z1:B.getD (B.length - 1) 0=45:=by
   rw [e',length_append,length_singleton,Nat.add_sub_cancel,zL6 (Nat.le_refl _),Nat.sub_self];rfl
  exact zKL f0.2 z1 (by decide)
theorem zMC (h:zEN x) (b:Bool):Asc (stL x b)/\Asc (stT x b):=by
 unfold Asc
 rcases h with rfl | rfl | rfl | rfl | rfl
 ·rw [(zCs b).1,(zCs b).2];cases b <;> decide
 ·rw [(zDv b).1,(zDv b).2];cases b <;> decide
 ·rw [(zCo b).1,(zCo b).2];cases b <;> decide
 ·rw [(zBf b).1,(zBf b).2];cases b <;> decide
 ·rw [(zCJ b).1,(zCJ b).2];cases b <;> decide
section
variable {X : Cx} {H : Hp} {Q : VK} {K : W.Frag} {σ : St}
def rRjT:V->List V->Hp->VK->Prop:=fun x vs H Q=>∃ (a:List Nat) (i:Int) (c:Nat),x = .str (T a)/\vs=[.int i,.str (T [c])]/\0<=i/\i<=1000/\Q (.str (T (List.replicate (i.toNat - a.length) c++a))) H
theorem zQ9:MtR X "str.rjust" rRjT:=by
 intro pins s σ H x vs v us Q I rx rv h
 obtain ⟨a,i,c,rfl,rfl,h0,h1,q⟩:=h
 obtain ⟨t,rfl⟩:=rx
 obtain ⟨u1,u2,rfl,r1,r2⟩:=zSe rv
 obtain ⟨t1,rfl⟩:=r1
 obtain ⟨t2,rfl⟩:=r2
 have pk:PadOk i=true:=by
  unfold PadOk Builtin.Str.tooLong fitsSsize
  have : ¬ i.toNat > sizeLine:=by show ¬ i.toNat > 16777216;omega
  rw [decide_eq_false this]
  simp
  omega
 refine rjust_fill pk rfl fun t' k=>⟨.str _,H,I.tok _,⟨t',rfl⟩,?_⟩
 have e:Txt.rjustF (T a) i ((T [c]).cps.getD 0 0)=T (List.replicate (i.toNat - a.length) c++a):=zKl (rjustF_list (T a) i c)
 rw [e];exact q
theorem zXY {a:List Nat} {c:Nat} (h0:0<=i) (h1:i<=1000) (q:Q (.str (T (List.replicate (i.toNat - a.length) c++a))) H):rRjT (.str (T a)) [.int i,.str (T [c])] H Q:=⟨a,i,c,rfl,rfl,h0,h1,q⟩
end
def dgs (b p n:Nat):List Nat:=List.replicate (p+1 - (figs b n).length) 48++figs b n
theorem zEn {b p:Nat} (h2:2<=b) (h16:b<=16) (hp:p<=6) (h:n < b ^ (40+p)):FigB b (dgs b p n)/\val b (dgs b p n)=n/\p+1<=(dgs b p n).length/\(dgs b p n).length<=40+p/\((dgs b p n).getD 0 0=48->(dgs b p n).length=p+1):=by
 have s:=zGi h2 h16 n n (Nat.le_refl _)
 have ln:=zJT h2 (39+p) n (by rw [show 39+p+1=40+p by omega];exact h)
 have ps:=List.length_pos_iff.mpr s.2.2.1
 have ld:(dgs b p n).length=p+1 - (figs b n).length+(figs b n).length:=by unfold dgs;rw [length_append,length_replicate]
 refine ⟨(FigB.noughts (by omega) _).app s.1,?_,by omega,by omega,fun z=>?_⟩
 ·unfold dgs;rw [zKH];exact s.2.1
 ·rcases lt_or_ge (p+1) (figs b n).length with q | q
  ·have e:dgs b p n=figs b n:=by unfold dgs;rw [show p+1 - (figs b n).length=0 by omega];rfl
   rw [e] at z
   have:=s.2.2.2 z
   subst this
   rw [zHp (by omega)] at q
   simp at q
  ·omega
def whl (b p n:Nat):List Nat:=(dgs b p n).take ((dgs b p n).length - p)
def rst (b p n:Nat):List Nat:=(dgs b p n).drop ((dgs b p n).length - p)
def bdy (b p pt z m n:Nat):List Nat:=if p=0 then gr z m (whl b p n) else gr z m (whl b p n)++[pt]++rst b p n
theorem zLc (b p n:Nat):whl b p n++rst b p n=dgs b p n:=take_append_drop _ _
theorem zJR {b p:Nat} (h2:2<=b) (h16:b<=16) (hp:p<=6) (h:n < b ^ (40+p)):1<=(whl b p n).length/\(whl b p n).length<=40/\(rst b p n).length=p/\((whl b p n).getD 0 0=48->(whl b p n).length=1):=by
 have s:=zEn h2 h16 hp h
 have lw:(whl b p n).length=(dgs b p n).length - p:=by unfold whl;rw [length_take];omega
 refine ⟨by omega,by omega,by unfold rst;rw [length_drop];omega,fun z=>?_⟩
 have e:(whl b p n).getD 0 0=(dgs b p n).getD 0 0:=by
  rw [<- zLc b p n,zFX (by omega)]
 rw [e] at z
 have:=s.2.2.2.2 z
 omega
theorem zN4 {b:Nat}:rst b 0 n=[]:=by unfold rst;rw [Nat.sub_zero,List.drop_length]
theorem zRU {a:List Nat} (hk:k < a.length):gr z m (a.drop k)=a.getD k 0::((if 0 < z/\0 < a.length - (k+1)/\(a.length - (k+1)) % z=0 then [m] else [])++gr z m (a.drop (k+1))):=by
 have t:=zUB (z:=z) (m:=m) (a:=a) (k:=a.length - (k+1)) (by omega)
 rw [show a.length - (a.length - (k+1)+1)=k by omega,show a.length - 1 - (a.length - (k+1))=k by omega,show a.length - (a.length - (k+1))=k+1 by omega] at t
 exact t
section
variable {X : Cx} {H : Hp} {Q : VK} {K : W.Frag} {σ : St}
theorem zXA {a:Bool} (q:Q (.bl (!decide (a=b))) H):rNe (.bl a) (.bl b) H Q:=⟨rfl,by
 have e:decide (V.bl a=V.bl b)=decide (a=b):=by
  by_cases h:a=b
  ·rw [decide_eq_true h,decide_eq_true (congrArg V.bl h)]
  ·rw [decide_eq_false h,decide_eq_false (fun z=>h (V.bl.inj z))]
 rw [e];exact q⟩
end
theorem zTR {z m:Nat} : ∀ (k:Nat) (b:List Nat),b.length<=k -> ∀ c ∈ RJ z m b,c ∈ b\/c=m
 | 0,b,h,c,hc=>by rw [zFn (by omega)] at hc;exact .inl hc
 | k+1,b,h,c,hc=>by
  rcases eq_zero_or_pos z with p | p
  ·subst p;rw [zJs] at hc;exact .inl hc
  ·rcases lt_or_ge z b.length with q | q
   ·rw [zKW p q] at hc
    rcases List.mem_append.mp hc with hc | hc
    ·exact .inl (List.mem_of_mem_take hc)
    ·rcases List.mem_cons.mp hc with hc | hc
     ·exact .inr hc
     ·rcases zTR k (b.drop z) (by rw [length_drop];omega) c hc with hc | hc
      ·exact .inl (List.mem_of_mem_drop hc)
      ·exact .inr hc
   ·rw [zFn q] at hc;exact .inl hc
theorem zVb {a:List Nat} (h:Asc a) (hm:m < 127):Asc (gr z m a):=fun c hc=>by
 unfold gr at hc
 rcases zTR _ a.reverse (Nat.le_refl _) c (List.mem_reverse.mp hc) with z | z
 ·exact h c (List.mem_reverse.mp z)
 ·rw [z];exact hm
theorem zUn {b:List Nat} (h:0 < b.length):(RJ z m b).getD 0 0=b.getD 0 0:=by
 rcases eq_zero_or_pos z with p | p
 ·subst p;rw [zJs]
 ·rcases lt_or_ge z b.length with q | q
  ·rw [zKW p q,zFX (by rw [length_take];omega),getD_eq_getElem?_getD,List.getElem?_take,if_pos p,<- getD_eq_getElem?_getD]
  ·rw [zFn q]
theorem zUk {a:List Nat} (h:0 < a.length):(gr z m a).getD ((gr z m a).length - 1) 0=a.getD (a.length - 1) 0:=by
 have l:=zPy (z:=z) (m:=m) (a:=a)
 have e1:(RJ z m a.reverse).getD 0 0=a.reverse.getD 0 0:=zUn (by rw [length_reverse];exact h)
 rw [zLY h] at e1
 have e2:(gr z m a).reverse=RJ z m a.reverse:=by unfold gr;rw [reverse_reverse]
 rw [<- e2,zLY (by omega)] at e1
 rw [show (gr z m a).length - 1=(gr z m a).length - 1 - 0 by omega,e1];rfl
theorem zRE {a:List Nat} (h:0 < a.length):(gr z m a).getD 0 0=a.getD 0 0:=by
 have f:=zRU (z:=z) (m:=m) (a:=a) (k:=0) h
 rw [drop_zero] at f
 rw [f];rfl
theorem FigB.get {b:Int} {l:List Nat} (h:FigB b l) {i:Nat} (hi:i < l.length):0<=fv (l.getD i 0):=by
 rw [getD_eq_getElem?_getD,getElem?_eq_getElem hi];exact (h _ (getElem_mem hi)).2.1
theorem zJM {b p pt:Nat} (h2:2<=b) (h16:b<=16) (hp:p<=6) (h:n < b ^ (40+p)) (hpt:pt < 127) (hm:m < 127):Fg (bdy b p pt z m n)/\Asc (bdy b p pt z m n)/\(bdy b p pt z m n).length<=100:=by
 have ds:=zEn h2 h16 hp h
 have ws:=zJR h2 h16 hp h
 have wr:=zLc b p n
 have fw:FigB b (whl b p n):=fun c hc=>ds.1 c (by rw [<- wr];exact mem_append_left _ hc)
 have fr:FigB b (rst b p n):=fun c hc=>ds.1 c (by rw [<- wr];exact mem_append_right _ hc)
 have gl:=zPy (z:=z) (m:=m) (a:=whl b p n)
 have ag:=zVb (z:=z) (m:=m) fw.asc hm
 unfold bdy Fg
 rcases eq_zero_or_pos p with q | q
 ·rw [if_pos q]
  refine ⟨⟨List.length_pos_iff.mp (by omega),?_,?_⟩,ag,by omega⟩
  ·rw [zRE (by omega)];exact fw.get (by omega)
  ·rw [zUk (by omega)];exact fw.get (by omega)
 ·rw [if_neg (by omega)]
  refine ⟨⟨by simp,?_,?_⟩,(ag.app (Asc.one hpt)).app fr.asc,by simp only [length_append,length_singleton];omega⟩
  ·rw [append_assoc,zFX (by omega),zRE (by omega)];exact fw.get (by omega)
  ·rw [zL6 (by simp only [length_append,length_singleton];omega)]
   exact fr.get (by simp only [length_append,length_singleton];omega)
theorem zUz {b p pt n':Nat} (h2:2<=b) (h16:b<=16) (hp:p<=6) (h:n < b ^ (40+p)) (h':n' < b ^ (40+p)) (e:bdy b p pt z m n=bdy b p pt z m n'):n=n':=by
 have ds:=zEn h2 h16 hp h
 have ds':=zEn h2 h16 hp h'
 have ws:=zJR h2 h16 hp h
 have ws':=zJR h2 h16 hp h'
 have fin:whl b p n=whl b p n'->rst b p n=rst b p n'->n=n':=fun e1 e2=>by
  have v1:=ds.2.1
  have v2:=ds'.2.1
  rw [<- zLc,e1,e2,zLc] at v1
  omega
 unfold bdy at e
 rcases eq_zero_or_pos p with q | q
 ·rw [if_pos q,if_pos q] at e
  have:=congrArg (ug z) e
  rw [zMu,zMu] at this
  refine fin this ?_
  subst q;rw [zN4,zN4]
 ·rw [if_neg (by omega),if_neg (by omega)] at e
  have e3:=List.append_inj_right' e (by omega)
  have e4:=List.append_inj_left' e (by omega)
  have e5:=List.append_inj_left' e4 rfl
  have:=congrArg (ug z) e5
  rw [zMu,zMu] at this
  exact fin this e3
theorem zQm {B:List Nat}:bod x b (stL x b++B++stT x b)=B:=by
 unfold bod
 rw [show (stL x b++B++stT x b).length - (stT x b).length=(stL x b++B).length by simp only [length_append];omega,take_append_of_le_length (Nat.le_refl _),take_length,List.drop_append,drop_of_length_le (Nat.le_refl _),Nat.sub_self];rfl
def zS6 (X:Cx) (E:XK):Prop:=∀ (pins:List (Addr × Obj)) (σ:St) (e:Value) (s':Shared),XP X pins σ E e s'->X.xe e s'
section
variable {P : Program} {w : World} {K : W.Frag} {mg : Str -> Option Value} {base : Heap} {N : List Str} {qual : Str} {scope : Scope} {f : Addr} {cd : Value} {A : Around} {outer : List Env} {s : Shared} {H : Hp} {E : XK}
theorem zL2:zS6 (cxOf (CXE P w) P w K mg base N qual scope f cd A outer s H E) E:=by
 intro pins σ e s' h
 obtain ⟨H1,s1,I1,fl⟩:=h
 obtain ⟨x,C,a0,H',B,rfl,hos,hbare,fly,clo,hx1,hx2,q⟩:=fl
 refine wpAny_leaves_onW I1.ok.frames rfl fly fun h2 fly2 sm=>?_
 refine ⟨x,C,a0,H',B,rfl,hos.trans I1.os,hbare,fly2,fun h3 st sm3=>?_,?_,hx2,q⟩
 ·have cl:=clo h3 st (sm.trans sm3)
  have I3:=I1.call' (s':={ s' with heap:=h3 }) hos cl.1 cl.2 hbare (fun b z=>nomatch z)
  exact ⟨I3.base,I3.hok⟩
 ·cases z:s.heap.get? x with
  | none=>rfl
  | some o =>
   obtain ⟨o',e1⟩:=I1.base.there x o z (fun h=>nomatch h)
   rw [hx1] at e1;cases e1
end
theorem zRV (F:HasX X.prog X.w X.K X.mg X.base x k ps sp) (pp:zS6 X E) (hr:Room n X.A) (hg:Gl X x) (ha:PA X (e::es) t)
  (hk:k<=n:=by decide)
  (hdb:(x == ("__debug__" : Str))=false:=by decide) (he:starEach (e::es) X.env=(false,eval e X.env)::starEach es X.env:=by rfl) (hpl:(backTo pos (starEach es X.env)).any (·.1)=false:=by rfl) :
  PE X (.Call (.Name x p) (e::es) [] pos) (zNK sp [] E t):=by
 intro pins s σ H Q I h
 obtain ⟨f,fd,G,hm,kp,hb⟩:=F
 refine wpAny_Call_Name_kw (zDH I hg hm ?_ hdb)
 refine W.callWith_K (h₀:=X.base) I.ok.mod.kin kp (thn (ha pos pins s σ H _ I h) fun us s1 ⟨vs,H1,I1,r,q⟩=>⟨I1.kIn,?_⟩) he hpl
 have r2:Vals (vs++[]) (us++[]):=r.append .nil
 have hl:(us++[]).length=ps.length:=by rw [<- r2.length];exact G.len _ _ _ _ q
 refine wpAny_call (codeAny_mono (G.run X.A X.stack s1 H1 ⟨us,[]⟩ (us++[]) (vs++[]) Q E (hr.mono hk) I1.env0 (hb s1 us I1.kIn hl) r2 q) fun r s' hq=>?_)
 cases r with
 | error e=>exact pp pins σ e s' ⟨H1,s1,I1,hq⟩
 | ok fl =>
  cases fl with
  | ret u=>exact I1.after hq
  | next=>exact hq.elim
  | brk=>exact hq.elim
  | cont=>exact hq.elim
variable {N:List Str} {qual:Str} {f:Addr}
theorem zQS {base:Heap} {scope:Scope} {cd:Value} {A:Around} {outer:List Env} {s:Shared}:zF8 (CXE P w) (cxOf (CXE P w) P w K mg base N qual scope f cd A outer s H E) E:=fun pins σ H1 s1 e s' I h=>zL2 pins σ e s' ⟨H1,s1,I,h⟩
abbrev tsV (ts:List (List Nat)):List V:=ts.map fun l=>V.str (T l)
theorem zQB (ts:List (List Nat)):(tsV ts).all zKU=true:=by
 rw [List.all_eq_true];intro x hx
 obtain ⟨l,_,rfl⟩:=List.mem_map.mp hx
 rfl
theorem zXM (a b:List Nat):eqV (.str (T a)) (.str (T b))=decide (a=b):=by
 show (T a == T b)=_
 rw [Bool.eq_iff_iff,beq_iff_eq,decide_eq_true_iff,T_eq]
section
variable {X : Cx} {H : Hp} {Q : VK} {K : W.Frag}
theorem zSx (t:List Nat) (ts:List (List Nat)):inV (.str (T t)) (tsV ts)=decide (t ∈ ts):=by
 unfold inV
 rw [Bool.eq_iff_iff,List.any_eq_true,decide_eq_true_iff]
 constructor
 ·rintro ⟨y,hy,e⟩
  obtain ⟨l,hl,rfl⟩:=List.mem_map.mp hy
  rw [zXM,decide_eq_true_iff] at e
  exact e ▸ hl
 ·intro h
  exact ⟨_,List.mem_map.mpr ⟨t,h,rfl⟩,by rw [zXM,decide_eq_true_iff]⟩
theorem zWm {p:Addr} {t:List Nat} (h:SqL K H p (tsV ts)) (q:Q (.bl (decide (t ∈ ts))) H):rIn K false (.str (T t)) (.ref p) H Q:=⟨p,_,rfl,.inl h,rfl,zQB ts,by rw [zSx];exact q⟩
theorem zUu {p:Addr} {t:List Nat} (h:SqL K H p (tsV ts)) (q:Q (.bl (!decide (t ∈ ts))) H):rIn K true (.str (T t)) (.ref p) H Q:=⟨p,_,rfl,.inl h,rfl,zQB ts,by rw [zSx];exact q⟩
theorem zU0 {p:Addr} (h:SqL K H p (tsV ts)) (h0:0 < ts.length) (q:Q (.str (T (ts.getD (ts.length - 1) []))) H):rIxL K (.ref p) (.int (-1)) H Q:=by
 refine zVU h (v:=.str (T (ts.getD (ts.length - 1) []))) ?_ q
 unfold atI ixN
 rw [length_map,if_neg (show ¬ (0:Int) <= -1 by decide),if_pos (show -(ts.length:Int) <= -1 by omega)]
 show (tsV ts)[((-1:Int)+ts.length).toNat]? = _
 rw [show ((-1:Int)+ts.length).toNat=ts.length - 1 by omega,getElem?_map,getD_eq_getElem?_getD,getElem?_eq_getElem (by omega)]
 rfl
def zRJ (K:W.Frag):List V->Hp->VK->Prop:=fun xs H Q=>∃ p ys,xs=[.ref p]/\(SqL K H p ys\/SqT K H p ys) /\ ∀ l,H l=none->Q (.ref l) (upd H l (.lst ys))
theorem zJr:zFV X (.type "list") (zRJ X.K):=zLt
theorem zOS {p:Addr} {ys:List V} (h:SqL K H p ys) (q : ∀ l H',Same H H'->H l=none->H' l=some (.lst ys)->Q (.ref l) H'):zRJ K [.ref p] H Q:=⟨p,ys,rfl,.inl h,fun l hl=>q l _ (zBi (Same.refl _) hl) hl zAU⟩
theorem zIa (hz:xs.length<=sizeLine) (q : ∀ l H',Same H H'->H l=none->H' l=some (.lst xs)->Q (.ref l) H'):kLst Q xs H:=⟨hz,fun l hl=>q l _ (zBi (Same.refl _) hl) hl zAU⟩
def zP3:V->List V->Hp->VK->Prop:=fun x xs H Q=>∃ a b:List Nat,x = .str (T a)/\xs=[.str (T b)]/\Q (.bl (decide (a.take b.length=b))) H
theorem zT7 (a b:List Nat):Txt.startswith (T a) (T b)=decide (a.take b.length=b):=by
 have la:(T a).length=a.length:=rfl
 have lb:(T b).length=b.length:=rfl
 unfold Txt.startswith
 rw [StrLaws.subAt_eq,drop_zero,la,lb]
 show (decide (0+b.length<=a.length) && (a.take b.length == b))=_
 rw [Bool.eq_iff_iff,Bool.and_eq_true,decide_eq_true_iff,decide_eq_true_iff,beq_iff_eq]
 constructor
 ·exact fun h=>h.2
 ·intro h
  have:=congrArg List.length h
  rw [length_take] at this
  exact ⟨by omega,h⟩
theorem zKb:MtR X "str.startswith" zP3:=by
 intro pins s σ H x xs v us Q I rx rv h
 obtain ⟨a,b,rfl,rfl,q⟩:=h
 obtain ⟨t,rfl⟩:=rx
 obtain ⟨u,rfl,ru⟩:=rv.one
 obtain ⟨t',rfl⟩:=ru
 exact SC.startswith ⟨.bl _,H,I,rfl,by rw [zT7];exact q⟩
theorem zR2 {a b:List Nat} (q:Q (.bl (decide (a.take b.length=b))) H):zP3 (.str (T a)) [.str (T b)] H Q:=⟨a,b,rfl,rfl,q⟩
end
def lk (n w:Int):Int:=if n < w then w - n else 0
def Side (x:Str):Prop:=x = "left" \/ x = "right" \/ x = "middle"
def pA (x:Str) (n w:Int):Int:=if x = "left" then 0 else if x = "right" then lk n w else lk n w / 2
def pB (x:Str) (n w:Int):Int:=lk n w - pA x n w
theorem zIj (n w:Int) (h0:0<=n) (hw:w<=40):0<=lk n w/\lk n w<=40/\(w<=n->lk n w=0)/\(n<=w->lk n w=w - n):=by unfold lk;split <;> omega
theorem pAl (n w:Int):pA "left" n w=0:=by unfold pA;rw [if_pos rfl]
theorem pAr (n w:Int):pA "right" n w=lk n w:=by unfold pA;rw [if_neg (by decide +kernel),if_pos rfl]
theorem pAm (n w:Int):pA "middle" n w=lk n w / 2:=by unfold pA;rw [if_neg (by decide +kernel),if_neg (by decide +kernel)]
def zPi (x:Str) (n w:Int):Prop:=0<=pA x n w/\0<=pB x n w/\pA x n w+pB x n w=lk n w/\(x = "left" -> pA x n w=0)/\(x = "right" -> pB x n w=0)/\(x = "middle" -> pB x n w=pA x n w\/pB x n w=pA x n w+1)
theorem zDa {n w:Int} (hs:Side x) (h0:0<=n) (hw:w<=40):zPi x n w:=by
 have b:=zIj n w h0 hw
 unfold zPi pB
 rcases hs with rfl | rfl | rfl
 ·rw [pAl];exact ⟨by omega,by omega,by omega,fun _=>rfl,fun h=>absurd h (by decide +kernel),fun h=>absurd h (by decide +kernel)⟩
 ·rw [pAr];exact ⟨by omega,by omega,by omega,fun h=>absurd h (by decide +kernel),fun _=>by omega,fun h=>absurd h (by decide +kernel)⟩
 ·rw [pAm];exact ⟨by omega,by omega,by omega,fun h=>absurd h (by decide +kernel),fun h=>absurd h (by decide +kernel),fun _=>by omega⟩
def pad (t:List Nat) (w:Int) (f:Nat) (x:Str):List Nat:=List.replicate (pA x t.length w).toNat f++t++List.replicate (pB x t.length w).toNat f
theorem zJc {t:List Nat} {w:Int} {f:Nat} (h:zPi x t.length w):((pad t w f x).length:Int)=t.length+lk t.length w:=by
 unfold pad;obtain ⟨h1,h2,h3,_⟩:=h
 simp only [length_append,length_replicate];omega
theorem zOL {t:List Nat} {w:Int} {f:Nat} (h:zPi x t.length w) (h1:w<=t.length) (h2:w<=40):pad t w f x=t:=by
 have b:=zIj t.length w (by omega) h2
 obtain ⟨a1,a2,a3,_⟩:=h
 unfold pad
 rw [show (pA x t.length w).toNat=0 by omega,show (pB x t.length w).toNat=0 by omega];simp
def sl (t:List Nat) (w:Int) (x:Str) (n:Nat):List Nat:=(t.take ((pA x n w)+n).toNat).drop (pA x n w).toNat
def gd (t:List Nat) (w:Int) (f:Nat) (x:Str) (n:Nat):Bool:=decide (pad (sl t w x n) w f x=t)
def zBs (t:List Nat) (w:Int) (f:Nat) (x:Str):List (List Nat):=if w < t.length then [t] else ((List.range (w+1).toNat).filter (gd t w f x)).map (sl t w x)
theorem zJ8 {p:Nat->Bool} : ∀ N:Nat,(∀ n,n+1 < N->p n=true->p (n+1)=true) -> ∃ m,m<=N/\(List.range N).filter p=List.range' m (N - m)/\(∀ n,n < m->p n=false) /\ ∀ n,m<=n->n < N->p n=true
 | 0,_=>⟨0,Nat.le_refl _,rfl,fun n h=>absurd h (Nat.not_lt_zero n),fun n _ h=>absurd h (Nat.not_lt_zero n)⟩
 | N+1,h=>by
  obtain ⟨m,hm,e,h1,h2⟩:=zJ8 N (fun n hn=>h n (by omega))
  cases hp:p N with
  | true =>
   refine ⟨m,by omega,?_,h1,fun n a b=>?_⟩
   ·rw [List.range_succ,List.filter_append,e,List.filter_cons,if_pos hp,List.filter_nil,show N+1 - m=N - m+1 by omega,List.range'_concat]
    congr 2;omega
   ·rcases lt_or_ge n N with q | q
    ·exact h2 n a q
    ·rw [show n=N by omega];exact hp
  | false =>
   have hmN:m=N:=by
    rcases lt_or_ge m N with q | q
    ·have:=h (N - 1) (by omega) (h2 (N - 1) (by omega) (by omega))
     rw [show N - 1+1=N by omega,hp] at this;cases this
    ·omega
   refine ⟨N+1,Nat.le_refl _,?_,fun n a=>?_,fun n a b=>absurd b (by omega)⟩
   ·rw [List.range_succ,List.filter_append,e,hmN,List.filter_cons,hp];simp
   ·rcases lt_or_ge n N with q | q
    ·exact h1 n (by omega)
    ·rw [show n=N by omega];exact hp
theorem zH7 {w:Int} (hs:Side x) (h:(n:Int)<=w) (hw:w<=40) : ∃ a b:Nat,pA x n w=a/\pB x n w=b/\(a+b+n:Int)=w/\(x = "left" -> a=0)/\(x = "right" -> b=0)/\(x = "middle" -> a=(w.toNat - n) / 2):=by
 have b:=zDa (n:=n) hs (by omega) hw
 have l:=zIj n w (by omega) hw
 obtain ⟨b1,b2,b3,b4,b5,b6⟩:=b
 refine ⟨(pA x n w).toNat,(pB x n w).toNat,by omega,by omega,by omega,fun h=>by have:=b4 h;omega,fun h=>by have:=b5 h;omega,fun h=>by have:=b6 h;omega⟩
theorem zIu {t:List Nat} {w:Int} {a:Nat} (e:pA x n w=a):sl t w x n=(t.take (a+n)).drop a:=by
 unfold sl;rw [e];congr 1
theorem zMI {t:List Nat} {w:Int} (hs:Side x) (h:(n:Int)<=w) (hw:w<=40) (ht:(t.length:Int)=w):(sl t w x n).length=n:=by
 obtain ⟨a,b,e1,e2,e3,_⟩:=zH7 hs h hw
 rw [zIu e1,length_drop,length_take];omega
theorem zNt {t:List Nat} {w:Int} {f:Nat} {a b:Nat} (e1:pA x n w=a) (e2:pB x n w=b) (e3:(a+b+n:Int)=w) (ht:(t.length:Int)=w):gd t w f x n=true↔t.take a=List.replicate a f/\t.drop (a+n)=List.replicate b f:=by
 have hl:(sl t w x n).length=n:=by rw [zIu e1,length_drop,length_take];omega
 unfold gd pad
 rw [decide_eq_true_iff,hl,e1,e2,Int.toNat_natCast,Int.toNat_natCast,zIu e1]
 have k:t=t.take a++(t.take (a+n)).drop a++t.drop (a+n):=by
  have h1:t.take a++(t.take (a+n)).drop a=t.take (a+n):=by
   rw [show t.take a=(t.take (a+n)).take a by rw [take_take,Nat.min_eq_left (by omega)],take_append_drop]
  rw [h1,take_append_drop]
 constructor
 ·intro h
  have h1:=congrArg (List.take a) h
  have h2:=congrArg (List.drop (a+n)) h
  rw [append_assoc,List.take_left' (by rw [length_replicate])] at h1
  rw [List.drop_left' (by rw [length_append,length_replicate,length_drop,length_take];omega)] at h2
  exact ⟨h1.symm,h2.symm⟩
 ·rintro ⟨h1,h2⟩
  rw [<- h1,<- h2];exact k.symm
theorem zTx {a b a' b':Nat} {w:Int} (hs:Side x) (e3:(a+b+n:Int)=w) (e3':(a'+b'+(n+1:Nat):Int)=w) (l:x = "left" -> a=0) (l':x = "left" -> a'=0) (r:x = "right" -> b=0) (r':x = "right" -> b'=0) (m:x = "middle" -> a=(w.toNat - n) / 2) (m':x = "middle" -> a'=(w.toNat - (n+1)) / 2) :
  (a'=a/\b=b'+1/\(x = "left" \/ (x = "middle" /\ (w - n) % 2=1)))\/(a=a'+1/\b=b' /\ ¬ (x = "left" \/ (x = "middle" /\ (w - n) % 2=1))):=by
 rcases hs with h | h | h
 ·have:=l h;have:=l' h;exact .inl ⟨by omega,by omega,.inl h⟩
 ·have:=r h;have:=r' h;refine .inr ⟨by omega,by omega,?_⟩
  rintro (h2 | ⟨h2,_⟩)
  ·rw [h] at h2;exact absurd h2 (by decide +kernel)
  ·rw [h] at h2;exact absurd h2 (by decide +kernel)
 ·have:=m h;have:=m' h
  by_cases o:(w - n) % 2=1
  ·exact .inl ⟨by omega,by omega,.inr ⟨h,o⟩⟩
  ·refine .inr ⟨by omega,by omega,?_⟩
   rintro (h2 | ⟨_,h2⟩)
   ·rw [h] at h2;exact absurd h2 (by decide +kernel)
   ·exact o h2
def nxt (t:List Nat) (w:Int) (f:Nat) (x:Str):List Nat:=if x = "left" \/ (x = "middle" /\ (w - t.length) % 2=1) then t++[f] else [f]++t
theorem zM5 {t:List Nat} {w:Int} {f:Nat} (hs:Side x) (h:((n+1:Nat):Int)<=w) (hw:w<=40) (ht:(t.length:Int)=w) (g:gd t w f x n=true):gd t w f x (n+1)=true/\sl t w x (n+1)=nxt (sl t w x n) w f x:=by
 obtain ⟨a,b,e1,e2,e3,l,r,m⟩:=zH7 (n:=n) hs (by omega) hw
 obtain ⟨a',b',e1',e2',e3',l',r',m'⟩:=zH7 (n:=n+1) hs h hw
 have hl:(sl t w x n).length=n:=zMI hs (by omega) hw ht
 obtain ⟨g1,g2⟩:=(zNt e1 e2 e3 ht).mp g
 rw [zNt e1' e2' e3' ht,zIu e1',nxt,hl,zIu e1]
 rcases zTx hs e3 e3' l l' r r' m m' with ⟨rfl,rfl,c⟩ | ⟨rfl,rfl,c⟩
 ·rw [if_pos c]
  have e:t.drop (a'+n+1)=List.replicate b' f:=by rw [<- List.drop_drop,g2,replicate_succ];rfl
  refine ⟨⟨g1,e⟩,?_⟩
  have k:t.take (a'+(n+1))=t.take (a'+n)++[f]:=by
   rw [<- Nat.add_assoc,take_succ]
   congr 1
   have:(t.drop (a'+n))[0]? = some f:=by rw [g2,replicate_succ];rfl
   rw [List.getElem?_drop,Nat.add_zero] at this
   rw [this];rfl
  rw [k,List.drop_append_of_le_length (by rw [length_take];omega)]
 ·rw [if_neg c]
  have e:t.take a'=List.replicate a' f:=by
   have:=congrArg (List.take a') g1
   rw [take_take,Nat.min_eq_left (by omega),List.take_replicate,Nat.min_eq_left (by omega)] at this;exact this
  refine ⟨⟨e,by rw [show a'+(n+1)=a'+1+n by omega];exact g2⟩,?_⟩
  have k:t[a']? = some f:=by
   have:=congrArg (fun z:List Nat=>z[a']?) g1
   simpa [List.getElem?_take] using this
  rw [show a'+(n+1)=a'+1+n by omega]
  have hk:a' < (t.take (a'+1+n)).length:=by rw [length_take];omega
  rw [List.drop_eq_getElem_cons hk]
  have:(t.take (a'+1+n))[a']=f:=by
   have q:(t.take (a'+1+n))[a']? = some f:=by rw [List.getElem?_take,if_pos (by omega)];exact k
   rw [getElem?_eq_getElem hk] at q;exact Option.some.inj q
  rw [this];rfl
theorem zXP {t:List Nat} {w:Int} (hs:Side x) (h0:0<=w) (hw:w<=40) (ht:(t.length:Int)=w):sl t w x w.toNat=t:=by
 obtain ⟨a,b,e1,e2,e3,_⟩:=zH7 (n:=w.toNat) hs (by omega) hw
 rw [zIu e1,show a=0 by omega,drop_zero,take_of_length_le (by omega)]
theorem zWp {t:List Nat} {w:Int} {f:Nat} (hs:Side x) (h0:0<=w) (hw:w<=40) (ht:(t.length:Int)=w):gd t w f x w.toNat=true:=by
 obtain ⟨a,b,e1,e2,e3,_⟩:=zH7 (n:=w.toNat) hs (by omega) hw
 rw [zNt e1 e2 e3 ht,show a=0 by omega,show b=0 by omega]
 exact ⟨rfl,drop_of_length_le (by omega)⟩
theorem zKi {t:List Nat} {w:Int} {f:Nat} (hs:Side x) (hw:w<=40) (ht:(t.length:Int)=w) : ∃ m,m<=w.toNat/\zBs t w f x=(List.range' m (w.toNat+1 - m)).map (sl t w x)/\(∀ n,n < m->gd t w f x n=false) /\ ∀ n,m<=n->n<=w.toNat->gd t w f x n=true:=by
 obtain ⟨m,hm,e,h1,h2⟩:=zJ8 (p:=gd t w f x) (w.toNat+1) (fun n hn g=>(zM5 hs (by omega) hw ht g).1)
 have hm':m<=w.toNat:=by
  rcases lt_or_ge w.toNat m with q | q
  ·have:=h1 _ q;rw [zWp hs (by omega) hw ht] at this;cases this
  ·exact q
 refine ⟨m,hm',?_,h1,fun n a b=>h2 n a (by omega)⟩
 unfold zBs
 rw [if_neg (by omega),show (w+1).toNat=w.toNat+1 by omega,e]
theorem zFb {t:List Nat} {w:Int} {f:Nat} (h:w < t.length):zBs t w f x=[t]:=by unfold zBs;rw [if_pos h]
theorem zIw {t:List Nat} {w:Int} {f:Nat} (hs:Side x) (hw:w<=40) (h:(t.length:Int) < w):zBs t w f x=[]:=by
 unfold zBs
 rw [if_neg (by omega),List.filter_eq_nil_iff.mpr,List.map_nil]
 intro n _ g
 unfold gd at g
 have g':=congrArg List.length (of_decide_eq_true g)
 have b:=zDa (n:=(sl t w x n).length) hs (by omega) hw
 have l:=zJc (f:=f) b
 have c:=zIj (sl t w x n).length w (by omega) hw
 omega
theorem zWF {t:List Nat} {w:Int} {f:Nat} (hs:Side x) (hw:w<=40) (h:(t.length:Int)<=w):sl (pad t w f x) w x t.length=t/\gd (pad t w f x) w f x t.length=true/\((pad t w f x).length:Int)=w:=by
 obtain ⟨a,b,e1,e2,e3,_⟩:=zH7 (n:=t.length) hs h hw
 have hl:sl (pad t w f x) w x t.length=t:=by
  rw [zIu e1];unfold pad
  rw [e1,e2,Int.toNat_natCast,Int.toNat_natCast,List.take_left' (by rw [length_append,length_replicate]),List.drop_left' (by rw [length_replicate])]
 refine ⟨hl,?_,?_⟩
 ·unfold gd;rw [hl,decide_eq_true_iff]
 ·have l:=zJc (f:=f) (zDa (n:=t.length) hs (by omega) hw)
  have c:=zIj t.length w (by omega) hw
  omega
def Fst (t:List Nat) (w:Int) (f:Nat) (x:Str):Prop:=w < t.length\/((x = "left" -> t.drop (t.length - 1)≠[f])/\(x = "right" -> t.take 1≠[f])/\(x = "middle" -> t.take 1≠[f]/\t.drop (t.length - 1)≠[f]))
theorem zSZ {g:Nat->List Nat} (h:k < n):((List.range' m n).map g).getD k []=g (m+k):=by
 rw [getD_eq_getElem?_getD,getElem?_map,List.getElem?_range' h];simp
structure Fnd (t:List Nat) (w:Int) (f:Nat) (x:Str) (W:List Nat) (F:List (List Nat)):Prop where
 has:t ∈ F
 pos:0 < F.length
 last:F.getD (F.length - 1) []=W
 each : ∀ k,k < F.length->pad (F.getD k []) w f x=W
 len : ∀ k,k < F.length->(F.getD k []).length<=W.length
 next : ∀ k,0 < k->k < F.length->F.getD k []=nxt (F.getD (k - 1) []) w f x
 first:Fst t w f x->F.getD 0 []=t
theorem fnd {t:List Nat} {w:Int} {f:Nat} (hs:Side x) (hw:w<=40):Fnd t w f x (pad t w f x) (zBs (pad t w f x) w f x):=by
 rcases Int.lt_or_le w t.length with q | q
 ·have e:pad t w f x=t:=zOL (zDa hs (by omega) hw) (by omega) hw
  rw [e,zFb q]
  exact ⟨by simp,by simp,rfl,fun k hk=>by rw [show k=0 by simpa using hk];exact e,fun k hk=>by rw [show k=0 by simpa using hk];exact Nat.le_refl _,fun k h1 h2=>by simp at h2;omega,fun _=>rfl⟩
 ·have h0:0<=w:=by omega
  obtain ⟨p1,p2,p3⟩:=zWF (f:=f) hs hw q
  obtain ⟨m,hm,e,g1,g2⟩:=zKi (f:=f) hs hw p3
  have hmt:m<=t.length:=by
   rcases lt_or_ge t.length m with r | r
   ·have:=g1 _ r;rw [p2] at this;cases this
   ·exact r
  generalize pad t w f x=W at *
  have hl:(zBs W w f x).length=w.toNat+1 - m:=by rw [e,length_map,List.length_range']
  have hg : ∀ k,k < (zBs W w f x).length->(zBs W w f x).getD k []=sl W w x (m+k):=fun k hk=>by
   rw [hl] at hk;rw [e,zSZ hk]
  refine ⟨?_,by omega,?_,fun k hk=>?_,fun k hk=>?_,fun k h1 h2=>?_,fun hf=>?_⟩
  ·rw [e,List.mem_map]
   refine ⟨t.length,?_,p1⟩
   rw [List.mem_range'];exact ⟨t.length - m,by omega,by omega⟩
  ·rw [hg _ (by omega),hl,show m+(w.toNat+1 - m - 1)=w.toNat by omega,zXP hs h0 hw p3]
  ·rw [hg k hk]
   have:=g2 (m+k) (by omega) (by omega)
   exact of_decide_eq_true this
  ·rw [hg k hk,zMI hs (by omega) hw p3];omega
  ·rw [hg k h2,hg (k - 1) (by omega),show m+k=m+(k - 1)+1 by omega]
   exact (zM5 hs (by omega) hw p3 (g2 _ (by omega) (by omega))).2
  ·rw [hg 0 (by omega),Nat.add_zero]
   rcases lt_or_ge m t.length with r | r
   ·exfalso
    have gg:=g2 (t.length - 1) (by omega) (by omega)
    have st:=(zM5 hs (by omega) hw p3 gg).2
    rw [show t.length - 1+1=t.length by omega,p1] at st
    have hl2:(sl W w x (t.length - 1)).length=t.length - 1:=zMI hs (by omega) hw p3
    generalize sl W w x (t.length - 1)=z at *
    rcases hf with hf | ⟨f1,f2,f3⟩
    ·omega
    ·unfold nxt at st
     split at st
     ·have c:t.drop (t.length - 1)=[f]:=by rw [st,show (z++[f]).length - 1=z.length by simp,List.drop_left]
      rename_i hc
      rcases hc with hc | ⟨hc,_⟩
      ·exact f1 hc c
      ·exact (f3 hc).2 c
     ·have c:t.take 1=[f]:=by rw [st];rfl
      rcases hs with h | h | h
      ·rename_i hc;exact hc (.inl h)
      ·exact f2 h c
      ·exact (f3 h).1 c
   ·rw [show m=t.length by omega];exact p1
def fa (f:Nat):List Nat->Nat
 | []=>0
 | c::t=>if c=f then fa f t+1 else 0
theorem zVg (f:Nat) : ∀ t:List Nat,fa f t<=t.length
 | []=>Nat.le_refl _
 | c::t=>by have:=zVg f t;unfold fa;split <;> simp <;> omega
theorem zNC {f:Nat} : ∀ {t:List Nat} {a:Nat},a<=t.length->(t.take a=List.replicate a f↔a<=fa f t)
 | t,0,_=>by simp
 | [],a+1,h=>by simp at h
 | c::t,a+1,h=>by
  have ih:=zNC (f:=f) (t:=t) (a:=a) (by simpa using h)
  rw [List.take_succ_cons,replicate_succ,List.cons.injEq,ih]
  show (c=f/\a<=fa f t)↔a+1<=(if c=f then fa f t+1 else 0)
  by_cases hc:c=f
  ·rw [if_pos hc];simp [hc]
  ·rw [if_neg hc];simp [hc]
theorem zTc {f:Nat} : ∀ {t:List Nat} {k:Nat},k < fa f t->t.getD k 0=f
 | [],k,h=>by simp [fa] at h
 | c::t,k,h=>by
  unfold fa at h
  split at h
  ·rename_i hc
   cases k with
   | zero=>simpa using hc
   | succ k=>simpa using zTc (t:=t) (k:=k) (by omega)
  ·omega
theorem zXo {t:List Nat} {w:Int} {f:Nat} (hs:Side x) (h:(n:Int)<=w) (hw:w<=40) (ht:(t.length:Int)=w):gd t w f x n=decide (pA x n w<=fa f t/\w - n - pA x n w<=fa f t.reverse):=by
 obtain ⟨a,b,e1,e2,e3,_⟩:=zH7 hs h hw
 rw [Bool.eq_iff_iff,zNt e1 e2 e3 ht,decide_eq_true_iff,zNC (by omega)]
 have k:t.drop (a+n)=List.replicate b f↔b<=fa f t.reverse:=by
  rw [<- zNC (t:=t.reverse) (a:=b) (by rw [length_reverse];omega),List.take_reverse,show t.length - b=a+n by omega]
  constructor
  ·intro h;rw [h,List.reverse_replicate]
  ·intro h;have:=congrArg List.reverse h;rw [reverse_reverse,List.reverse_replicate] at this;exact this
 rw [k]
 constructor <;> intro h <;> omega
theorem zL9 {t:List Nat} {w:Int} {f:Nat} (hw:w<=40) (ht:(t.length:Int)=w):zBs t w f "right" = (List.range (fa f t+1)).map fun k=>t.drop (fa f t - k):=by
 have hs:Side "right" := .inr (.inl rfl)
 have hf:=zVg f t
 obtain ⟨m,hm,e,g1,g2⟩:=zKi (f:=f) hs hw ht
 have gg : ∀ n:Nat,n<=w.toNat->(gd t w f "right" n=true↔w.toNat - n<=fa f t):=fun n hn=>by
  obtain ⟨a,b,e1,e2,e3,_,r,_⟩:=zH7 (x:="right") (n:=n) hs (by omega) hw
  have:=r rfl
  rw [zXo hs (by omega) hw ht,decide_eq_true_iff,e1]
  constructor <;> intro h <;> omega
 have hmm:m=w.toNat - fa f t:=by
  have h1:=(gg m hm).mp (g2 m (Nat.le_refl _) hm)
  rcases lt_or_ge (w.toNat - fa f t) m with q | q
  ·have:=g1 _ q
   rw [(gg _ (by omega)).mpr (by omega)] at this;cases this
  ·omega
 rw [e,hmm,show w.toNat+1 - (w.toNat - fa f t)=fa f t+1 by omega]
 apply List.ext_getElem
 ·simp
 ·intro i h1 h2
  have hi:i < fa f t+1:=by simpa using h2
  simp only [List.getElem_map,List.getElem_range',List.getElem_range,Nat.one_mul]
  obtain ⟨a,b,e1,e2,e3,_,r,_⟩:=zH7 (x:="right") (n:=w.toNat - fa f t+i) hs (by omega) hw
  have:=r rfl
  rw [zIu e1,take_of_length_le (by omega),show a=fa f t - i by omega]
structure FunD (K:W.Frag) (x qual:Str) (st:Stmt) (f:Addr) (fd:FuncData):Prop where
 ex : ∃ (oc:Value) (od:Option Addr) (dV kV doc pm:Value) (an:Option Addr) (cdv ct:Value) (osl:Array (Option Value)),
  fd=W.fnOf x qual (zAy st) (zAi st) (zAH st) dV kV doc pm an cdv ct/\K.lookup f=some ⟨oc,od,.func fd,osl⟩/\W.codeIn K cdv qual=true
 kp:W.keepIn K (.ref f)=true
section
variable {P : Program} {w : World} {K : W.Frag} {mg : Str -> Option Value} {base : Heap}
variable {st:Stmt}
theorem FunD.ok (F:FunD K x qual st f fd) (S:zAP N ps (zAH st)) (len : ∀ vs H Q E,sp vs H Q E->vs.length=ps.length)
  (hbody : ∀ (cdv:Value) (A:Around) (outer:List Env) (s:Shared) (H:Hp) (vs:List V) (Q:VK) (E:XK),Room k (A.deeper (envOfC qual (zAH st) s.heap.objs.size f cdv))->sp vs H Q E ->
   ∃ t,PSs (cxOf CX0 P w K mg base N qual (zAH st) f cdv A outer s H E).nox (zAi st) t/\t { nx:=fun _ H'=>Q .non H',rt:=Q } (start N vs) H):FnOk P w K mg base CX0 (k+1) f fd ps sp:=by
 obtain ⟨oc,od,dV,kV,doc,pm,an,cdv,ct,osl,rfl,lk,hcd⟩:=F.ex
 refine zQx lk hcd S len fun A outer s H vs Q E hr hsp=>?_
 obtain ⟨t,h,q⟩:=hbody cdv A outer s H vs Q E hr hsp
 exact ⟨t,h.nox,q⟩
theorem FunD.okX (F:FunD K x qual st f fd) (S:zAP N ps (zAH st)) (len : ∀ vs H Q E,sp vs H Q E->vs.length=ps.length)
  (hbody : ∀ (cdv:Value) (A:Around) (outer:List Env) (s:Shared) (H:Hp) (vs:List V) (Q:VK) (E:XK),Room k (A.deeper (envOfC qual (zAH st) s.heap.objs.size f cdv))->sp vs H Q E ->
   zRp (cxOf (CXE P w) P w K mg base N qual (zAH st) f cdv A outer s H E) E->zF8 (CXE P w) (cxOf (CXE P w) P w K mg base N qual (zAH st) f cdv A outer s H E) E -> ∃ t,PSs (cxOf (CXE P w) P w K mg base N qual (zAH st) f cdv A outer s H E) (zAi st) t/\t { nx:=fun _ H'=>Q .non H',rt:=Q } (start N vs) H):FnOk P w K mg base (CXE P w) (k+1) f fd ps sp:=by
 obtain ⟨oc,od,dV,kV,doc,pm,an,cdv,ct,osl,rfl,lk,hcd⟩:=F.ex
 exact zQx lk hcd S len fun A outer s H vs Q E hr hsp=>hbody cdv A outer s H vs Q E hr hsp (fun pins σ H s h' x C args I hm q=>zJi I hm q) zQS
theorem FunD.binds (F:FunD K x qual st f fd)
  (h : ∀ (dV kV doc pm:Value) (an:Option Addr) (cdv ct:Value) (us:List Value),us.length=ps.length->bindArgs (W.fnOf x qual (zAy st) (zAi st) (zAH st) dV kV doc pm an cdv ct) ⟨us,[]⟩=pure (ps.zip us)):zCI K fd ps []:=by
 obtain ⟨oc,od,dV,kV,doc,pm,an,cdv,ct,osl,rfl,lk,hcd⟩:=F.ex
 exact .all (h dV kV doc pm an cdv ct)
theorem zB5 {oc:Value} {od an:Option Addr} {osl:Array (Option Value)} {dV kV doc pm cdv ct:Value} (l:K.lookup f=some ⟨oc,od,.func (W.fnOf x qual (zAy st) (zAi st) (zAH st) dV kV doc pm an cdv ct),osl⟩)
  (c:W.codeIn K cdv qual=true) (k:W.keepIn K (.ref f)=true):FunD K x qual st f (W.fnOf x qual (zAy st) (zAi st) (zAH st) dV kV doc pm an cdv ct):=⟨⟨oc,od,dV,kV,doc,pm,an,cdv,ct,osl,rfl,l,c⟩,k⟩
end
def HasM (P:Program) (w:World) (K:W.Frag) (mg:Str->Option Value) (base:Heap) (CX:CXT) (C:Addr) (m:Str) (k:Nat) (ps:List Str) (sp:Sp):Prop:=
 ∃ (f:Addr) (fd:FuncData),FnOk P w K mg base CX k f fd ps sp/\Meth K C m f/\zCI K fd ps []
def HasI (P:Program) (w:World) (K:W.Frag) (mg:Str->Option Value) (base:Heap) (CX:CXT) (C:Addr) (k:Nat) (ps:List Str) (sp:Sp):Prop:=
 ∃ (f:Addr) (fd:FuncData),FnOk P w K mg base CX k f fd ps sp/\Mk K C f/\zCI K fd ps []
structure zX2 (K:W.Frag) (C:Addr) (m:Str) (f:Addr):Prop where
 sp:W.specialIn K (.ref C) "__getattribute__" = some (some (.builtin "type.__getattribute__"))
 rd:W.readsIn K C (.type "type")=true
 fc:W.findCls K (.ref C) (.type "type") m=some (.val (.ref f))
 kp:W.keepIn K (.ref f)=true
def HasC (P:Program) (w:World) (K:W.Frag) (mg:Str->Option Value) (base:Heap) (CX:CXT) (C:Addr) (m:Str) (k:Nat) (ps:List Str) (sp:Sp):Prop:=
 ∃ (f:Addr) (fd:FuncData),FnOk P w K mg base CX k f fd ps sp/\zX2 K C m f/\zCI K fd ps []
section
variable {X : Cx} {CX : CXT} {k n : Nat} {C : Addr} {ps : List Str} {sp : Sp} {E : XK} {x m : Str} {p np pos apos : Pos} {e o : Expr} {es : List Expr} {ta : TE} {t : TA}
theorem zAV {pl:Sem Bool} (F:HasM X.prog X.w X.K X.mg X.base CX C m k ps sp) (c:Cls X.K C) (hx:zF8 CX X E) (hr:Room n X.A) (he:PE X o ta) (ha:PA X (e::es) t) (hk:k<=n:=by decide)
  (hst:starEach (e::es) X.env=(false,eval e X.env)::starEach es X.env:=by rfl) (hpl:(backTo pos (starEach es X.env)).any (·.1)=false:=by rfl)
  (ht:eval (.Call (.Attribute o m apos) (e::es) [] pos) X.env=(do
   let ov <- eval o X.env
   standAt apos.atName
   let (f,first) <- holding [ov] (getMethod ov m pl)
   callWith pos f first (backTo pos (starEach (e::es) X.env)) (backToKw pos (keywordEach [] X.env))):=by rfl) :
  PE X (.Call (.Attribute o m apos) (e::es) [] pos) (zJB C m sp [] E ta t):=by
 obtain ⟨f,fd,G,M,b⟩:=F
 exact zTy (pl:=pl) he c M (G.mono hk) hr b .nil hx ha hst hpl ht
theorem zLZ (F:HasI X.prog X.w X.K X.mg X.base CX C k ps sp) (hx:zF8 CX X E) (hr:Room n X.A) (hg:Gl X x) (hm:X.mg x=some (.ref C)) (ha:PA X (e::es) t) (hk:k+1<=n:=by decide)
  (hdb:(x == ("__debug__" : Str))=false:=by decide) (he:starEach (e::es) X.env=(false,eval e X.env)::starEach es X.env:=by rfl) (hpl:(backTo pos (starEach es X.env)).any (·.1)=false:=by rfl) :
  PE X (.Call (.Name x p) (e::es) [] pos) (zTd C sp [] E t):=by
 obtain ⟨f,fd,G,M,b⟩:=F
 exact zT4 M G (hr.mono hk) hg hm b .nil hx ha hdb he hpl
theorem zKM {pl:Sem Bool} (F:HasC X.prog X.w X.K X.mg X.base CX C m k ps sp) (hx:zF8 CX X E) (hr:Room n X.A) (hg:Gl X x) (hm:X.mg x=some (.ref C)) (ha:PA X (e::es) t) (hk:k<=n:=by decide)
  (hdb:(x == ("__debug__" : Str))=false:=by decide) (hst:starEach (e::es) X.env=(false,eval e X.env)::starEach es X.env:=by rfl) (hpl:(backTo pos (starEach es X.env)).any (·.1)=false:=by rfl)
  (ht:eval (.Call (.Attribute (.Name x np) m apos) (e::es) [] pos) X.env=(do
   let ov <- eval (.Name x np) X.env
   standAt apos.atName
   let (f,first) <- holding [ov] (getMethod ov m pl)
   callWith pos f first (backTo pos (starEach (e::es) X.env)) (backToKw pos (keywordEach [] X.env))):=by rfl) :
  PE X (.Call (.Attribute (.Name x np) m apos) (e::es) [] pos) (zNK sp [] E t):=by
 intro pins s σ H Q I h
 obtain ⟨f,fd,G,M,b⟩:=F
 refine W.methodCall_KW (pl:=pl) (zDH I hg hm ?_ hdb) ht
 refine W.method_cls I.kIn M.sp (W.cls_value I.kIn M.rd M.fc rfl ?_)
 have I1:=I.tok (s.toks+1)
 refine W.callWith_K (first:=[]) (h₀:=X.base) I.ok.mod.kin M.kp (thn (ha pos pins _ σ H _ I1 h) fun us s2 ⟨vs,H2,I2,r,q2⟩=>⟨I2.kIn,?_⟩) hst hpl
 exact zON (us:=us) (vs:=vs) (G.mono hk) hr b .nil hx I2 r q2
end
section
variable {σ : St} {H : Hp} {Q : VK} {D : Ends} {K : W.Frag} {C : Addr} {m f : Str} {sp : Sp} {E : XK} {ta tv : TE} {t : TA} {a : Addr}
def InsM (H:Hp) (a C:Addr) (m:Str):Prop:=∃ dx fs,H a=some (.ins C dx fs)/\fs.lookup m=none
def zEJ (K:W.Frag) (H:Hp) (a:Addr) (f:Str) (v:V):Prop:=∃ C dx fs,H a=some (.ins C dx fs)/\Cls K C/\zF9 K C f/\fs.lookup f=some v
theorem InsM.same (g:Same H H') (h:InsM H a C m):InsM H' a C m:=by obtain ⟨dx,fs,e,l⟩:=h;exact ⟨dx,fs,g _ _ e,l⟩
variable {v:V}
theorem zEJ.same (g:Same H H') (h:zEJ K H a f v):zEJ K H' a f v:=by obtain ⟨C,dx,fs,e,l⟩:=h;exact ⟨C,dx,fs,g _ _ e,l⟩
def zWu (C:Addr) (m:Str) (sp:Sp) (dvs:List V) (E:XK) (t:TA) (σ:St) (Q:VK):VK:=fun x H1=>∃ a dx fs,x = .ref a/\H1 a=some (.ins C dx fs)/\fs.lookup m=none/\t σ H1 fun vs H2=>sp (x::(vs++dvs)) H2 Q E
variable {dvs:List V}
theorem zHS (h:ta σ H (zWu C m sp dvs E t σ Q)):zJB C m sp dvs E ta t σ H Q:=h
theorem zE4 (hi:InsM H a C m) (h:t σ H fun vs H2=>sp (.ref a::(vs++dvs)) H2 Q E):zWu C m sp dvs E t σ Q (.ref a) H:=by
 obtain ⟨dx,fs,e,l⟩:=hi
 exact ⟨a,dx,fs,rfl,e,l,h⟩
def kFld (K:W.Frag) (f:Str) (Q:VK):VK:=fun x H1=>∃ a C dx fs v,x = .ref a/\H1 a=some (.ins C dx fs)/\Cls K C/\zF9 K C f/\fs.lookup f=some v/\Q v H1
theorem zXr (h:ta σ H (kFld K f Q)):tFld K ta f σ H Q:=h
theorem zWY (hi:zEJ K H a f v) (q:Q v H):kFld K f Q (.ref a) H:=by
 obtain ⟨C,dx,fs,e,c,n,l⟩:=hi
 exact ⟨a,C,dx,fs,v,rfl,e,c,n,l,q⟩
def kSet (K:W.Frag) (f:Str) (y:V) (D:Ends) (σ:St):VK:=fun x H2=>∃ a C dx fs,x = .ref a/\H2 a=some (.ins C dx fs)/\Cls K C/\zF9 K C f/\fs.length < 1000/\D.nx σ (upd H2 a (.ins C dx (putF f y fs)))
theorem zXI (h:tv σ H fun y H1=>ta σ H1 (kSet K f y D σ)):sFld K ta tv f D σ H:=h
theorem zD0 {dx:Addr} {fs:List (Str × V)} {y:V} (e:H a=some (.ins C dx fs)) (c:Cls K C) (n:zF9 K C f) (l:fs.length < 1000) (q:D.nx σ (upd H a (.ins C dx (putF f y fs)))):kSet K f y D σ (.ref a) H:=⟨a,C,dx,fs,rfl,e,c,n,l,q⟩
def zXf (C:Addr) (sp:Sp) (dvs:List V) (E:XK) (Q:VK):List V->Hp->Prop:=fun vs H1=>∀ x dx,H1 x=none->H1 dx=none->dx≠x ->
 sp (.ref x::(vs++dvs)) (upd (upd H1 dx (.own x)) x (.ins C dx [])) (fun v H2=>v = .non/\Q (.ref x) H2) E
theorem zWz (h:t σ H (zXf C sp dvs E Q)):zTd C sp dvs E t σ H Q:=h
theorem zB4 (f:Str) (v:V):putF f v []=[(f,v)]:=rfl
variable {r:List (Str × V)}
theorem zAm {k:Str} {x:V} (h:k≠f):putF f v ((k,x)::r)=(k,x)::putF f v r:=by
 rw [show putF f v ((k,x)::r)=(if k=f then (k,v)::r else (k,x)::putF f v r) from rfl,if_neg h]
theorem zHL {k:Str} {x:V}:((k,x)::r).lookup k=some x:=by simp [List.lookup]
theorem zBb {k:Str} {x:V} (h:f≠k):((k,x)::r).lookup f=r.lookup f:=by
 have:(f == k)=false:=by simpa using h
 simp [List.lookup,this]
end
def Wk (σc σ:St):Prop:=σc.length=σ.length /\ ∀ (i:Nat) v,σc[i]? = some (some v)->σ[i]? = some (some v)
theorem Wk.nil:Wk [] []:=⟨rfl,fun i v h=>h⟩
theorem Wk.one {a b:St} {x:Option V} (h:Wk a b):Wk (x::a) (x::b):=⟨by rw [length_cons,length_cons,h.1],fun i v e=>by
 cases i with
 | zero=>exact e
 | succ i=>exact h.2 i v e⟩
theorem Wk.any {a b:St} {x:Option V} (h:Wk a b):Wk (none::a) (x::b):=⟨by rw [length_cons,length_cons,h.1],fun i v e=>by
 cases i with
 | zero=>exact absurd (Option.some.inj e) (by simp)
 | succ i=>exact h.2 i v e⟩
def Cx.tr (X:Cx) (pins:List (Addr × Obj)) (σc:St) (E:XK):Cx:={ X with pn:=X.pn++pins,xe:=XP X pins σc E }
section
variable {X : Cx} {pins pins0 : List (Addr × Obj)} {σ σc : St} {H : Hp} {s : Shared} {E : XK}
theorem Cx.Ok.tr (ok:X.Ok):(X.tr pins σc E).Ok:=⟨ok.mod,ok.kind,ok.glob,ok.blt,ok.above,ok.inj,ok.has,ok.cab,ok.hd,ok.frames,ok.stk,ok.exf,ok.bs,ok.bsz,ok.noex,ok.exfs,ok.funs,ok.frf⟩
theorem Cx.Ok.untr (ok:(X.tr pins σc E).Ok):X.Ok:=⟨ok.mod,ok.kind,ok.glob,ok.blt,ok.above,ok.inj,ok.has,ok.cab,ok.hd,ok.frames,ok.stk,ok.exf,ok.bs,ok.bsz,ok.noex,ok.exfs,ok.funs,ok.frf⟩
theorem Inv.tr (I:Inv X pins σ H s):Inv (X.tr pins σc E) [] σ H s:=⟨I.ok.tr,I.os,I.bare,I.base,I.loc,I.cell,I.free,I.freeC,fun p hp=>I.pin p (by simpa [Cx.tr] using hp),I.hok,I.len⟩
theorem Inv.untr (I:Inv (X.tr pins0 σc E) pins σ H s):Inv X pins0 σ H s:=⟨I.ok.untr,I.os,I.bare,I.base,I.loc,I.cell,I.free,I.freeC,fun p hp=>I.pin p (mem_append_left _ hp),I.hok,I.len⟩
theorem SP.untr {D:Ends} {f:Flow} {s':Shared} (h:SP (X.tr pins0 σc E) pins D f s'):SP X pins0 D f s':=by
 cases f with
 | next=>obtain ⟨σ',H',I,q⟩:=h;exact ⟨σ',H',I.untr,q⟩
 | brk=>obtain ⟨σ',H',I,q⟩:=h;exact ⟨σ',H',I.untr,q⟩
 | cont=>obtain ⟨σ',H',I,q⟩:=h;exact ⟨σ',H',I.untr,q⟩
 | ret u=>obtain ⟨v,σ',H',I,r,q⟩:=h;exact ⟨v,σ',H',I.untr,r,q⟩
theorem SP.outExc {y:Addr} {D:Ends} {f:Flow} {s':Shared} (ok:X.Ok) (h:SP (X.inExc y) pins D f s'):SP X pins D f s':=by
 cases f with
 | next=>obtain ⟨σ',H',I,q⟩:=h;exact ⟨σ',H',I.outExc ok,q⟩
 | brk=>obtain ⟨σ',H',I,q⟩:=h;exact ⟨σ',H',I.outExc ok,q⟩
 | cont=>obtain ⟨σ',H',I,q⟩:=h;exact ⟨σ',H',I.outExc ok,q⟩
 | ret u=>obtain ⟨v,σ',H',I,r,q⟩:=h;exact ⟨v,σ',H',I.outExc ok,r,q⟩
end
def PHs (X:Cx) (hs:List ExceptHandler) (th:Addr->TS):Prop:=
 ∀ (pins:List (Addr × Obj)) (s:Shared) (σ:St) (H:Hp) (D:Ends) (y C:Addr) (B:Heap) (a0:Value),Heap.FlyingW B (X.env::X.outer) y (.ref C) a0 s.heap->Inv X pins σ H s ->
  (∀ h',B.StaysIn h'->s.heap.UpToSlots h'->Inv X pins σ H { s with heap:=h' })->th C D σ H->wpAny (model X.prog X.w) X.A (handleBy (.ref y) X.env hs) (SP X pins D) X.xe s
section
variable {X : Cx} {cx : Str} {C' : Addr} {ts : TS} {th : Addr -> TS} {np hpos pos : Pos} {b₀ : Stmt} {suite body : List Stmt} {rest hs : List ExceptHandler} {h₀ : ExceptHandler} {tb : St -> XK -> TS}
theorem isx {B:Heap} {l:List Env} {y:Addr} {a0:Value} (fl:Heap.FlyingW B l y (.ref C) a0 h):ExAt y C h:=by
 obtain ⟨_,_,_,oe,vs,_,_,_,h1,⟨h2,_⟩,h3,_⟩:=fl
 exact ⟨oe,h1,h2,vs,h3⟩
def zWK (tb:St->XK->TS) (th:Addr->TS):TS:=fun D σ H=>∃ σc,tb σc (fun cls _ H2=>∃ C,cls = .ref C/\th C D σc H2) D σ H
theorem zU3 (hst:X.stack=X.env::X.outer) (hfr:X.env.frame=some X.env.locals) (hb : ∀ pins σc E,PSs (X.tr pins σc E) body (tb σc E)) (hh:PHs X (h₀::hs) th):PS X (.Try body (h₀::hs) [] [] pos) (zWK tb th):=by
 intro pins s σ H D I h
 obtain ⟨σc,h⟩:=h
 refine wpAny_Try_except (wpAny_mono (hb pins σc _ [] s σ H D I.tr h) (fun f s1 q=>?_) fun er s' z=>?_)
 ·cases f with
  | next=>exact wpAny_execs_nil q.untr
  | ret u=>exact q.untr
  | brk=>exact q.untr
  | cont=>exact q.untr
 ·obtain ⟨H1,s1,I1,fl⟩:=z
  obtain ⟨y,C,a0,H2,B,rfl,hos,hbare,fly,clo,hy0,hy2,C0,z0,q⟩:=fl
  cases z0
  rw [hst] at fly
  refine wpAny_looks_onW (I.ok.frames.trans (congrArg some hst)) hfr fly fun h1 held sm1=>?_
  refine wpAny_landsW held fun h2 fly2 sm2=>?_
  have cl : ∀ h',B.StaysIn h'->h2.UpToSlots h'->Inv X pins σc H2 { s' with heap:=h' }:=fun h' st sm=>by
   have c:=clo h' st ((sm1.trans sm2).trans sm)
   exact I1.call' (s':={ s' with heap:=h' }) hos c.1 c.2 hbare (fun b z=>nomatch z)
  have c2:=clo h2 fly2.1 (sm1.trans sm2)
  have I2:Inv X pins σc H2 { s' with heap:=h2 }:=I1.call' (s':={ s' with heap:=h2 }) hos c2.1 c2.2 hbare (fun b z=>nomatch z)
  exact hh pins { s' with heap:=h2 } σc H2 D y C B a0 fly2 I2 cl q
theorem zWg {D:Ends} (σc:St) (h:tb σc (fun cls _ H2=>∃ C,cls = .ref C/\th C D σc H2) D σ H):zWK tb th D σ H:=⟨σc,h⟩
end
section
variable {X : Cx} {pins0 : List (Addr × Obj)} {σc : St} {k n : Nat} {C : Addr} {ps : List Str} {sp : Sp} {E : XK} {x m : Str} {p np pos apos : Pos} {e o : Expr} {es : List Expr} {ta : TE} {t : TA}
def zQE (sp:Sp) (E:XK) (σc:St) (t:TA):TE:=fun σ H Q=>t σ H fun vs H1=>Wk σc σ/\sp (vs++[]) H1 Q E
theorem zTz {pins:List (Addr × Obj)} {s:Shared} {us:List Value} {vs:List V} (F:FnOk X.prog X.w X.K X.mg X.base (CXE X.prog X.w) k f fd ps sp) (hr:Room k X.A) (hb:zCI X.K fd ps [])
  (I:Inv (X.tr pins0 σc E) pins σ H s) (r:Vals vs us) (wk:Wk σc σ) (h:sp (vs++[]) H Q E):wpAny (model X.prog X.w) X.A (call (.ref f) us) (EP (X.tr pins0 σc E) pins σ Q) (X.tr pins0 σc E).xe s:=by
 have r2:Vals (vs++[]) (us++[]):=r.append .nil
 have hl:(us++[]).length=ps.length:=by rw [<- r2.length];exact F.len _ _ _ _ h
 have e0:Env0 X.prog X.w X.K X.mg X.base X.A X.stack s H:=I.env0
 refine wpAny_call (codeAny_mono (F.run X.A X.stack s H ⟨us,[]⟩ (us++[]) (vs++[]) Q E hr e0 (hb s us I.kIn hl) r2 h) fun r s' hq=>?_)
 cases r with
 | error e=>exact ⟨H,s,I.untr.weak wk.1 wk.2,hq⟩
 | ok fl =>
  cases fl with
  | ret u=>exact I.after hq
  | next=>exact False.elim hq
  | brk=>exact False.elim hq
  | cont=>exact False.elim hq
theorem zOY (F:HasX X.prog X.w X.K X.mg X.base x k ps sp) (hr:Room n X.A) (hg:Gl X x) (ha:PA (X.tr pins0 σc E) (e::es) t) (hk:k<=n:=by decide)
  (hdb:(x == ("__debug__" : Str))=false:=by decide) (he:starEach (e::es) X.env=(false,eval e X.env)::starEach es X.env:=by rfl) (hpl:(backTo pos (starEach es X.env)).any (·.1)=false:=by rfl) :
  PE (X.tr pins0 σc E) (.Call (.Name x p) (e::es) [] pos) (zQE sp E σc t):=by
 intro pins s σ H Q I h
 obtain ⟨f,fd,G,hm,kp,b⟩:=F
 refine wpAny_Call_Name_kw (zDH I hg hm ?_ hdb)
 refine W.callWith_K (h₀:=X.base) I.ok.mod.kin kp (thn (ha pos pins s σ H _ I h) fun us s1 ⟨vs,H1,I1,r,q⟩=>⟨I1.kIn,?_⟩) he hpl
 exact zTz (G.mono hk) hr b I1 r q.1 q.2
variable {σ : St} {H : Hp} {Q : VK}
theorem zUA (h:t σ H fun vs H1=>Wk σc σ/\sp (vs++[]) H1 Q E):zQE sp E σc t σ H Q:=h
theorem r_wk {R:Prop} (h:Wk σc σ) (q:R):Wk σc σ/\R:=⟨h,q⟩
end
section
variable {X : Cx} {tg : Expr}
def zL4 (z:Str) (lo hi:Option Int) (st:Int):List Nat:=(Builtin.Str.strSliceIndices lo hi st z.length).filterMap ((Lt z)[·]?)
def rSl3:V->Option Int->Option Int->Int->Hp->VK->Prop:=fun x lo hi st H Q=>∃ z:Str,x = .str z/\st≠0/\z.length<=sizeLine/\(zL4 z lo hi st).length<=sizeLine /\ ∀ y,(y=T (zL4 z lo hi st)\/(st=1/\y=z))->Q (.str y) H
def tSl3 (r:V->Option Int->Option Int->Int->Hp->VK->Prop) (te:TE) (tl th:TO) (ts:TE):TE:=fun σ H Q=>te σ H fun x H1=>tl σ H1 fun l H2=>th σ H2 fun u H3=>ts σ H3 fun s H4=>∃ i,s = .int i/\r x l u i H4 Q
theorem zQs {v:Value} {o:Option Int} (p:IsPart v o) : ∃ l:Option (Int × Tok),v=partValue l/\l.map (·.1)=o:=by
 cases p with
 | none=>exact ⟨none,rfl,rfl⟩
 | int i t=>exact ⟨some (i,t),rfl,rfl⟩
variable {te:TE}
theorem zQ6 {st:Expr} {lo hi:Option Expr} {ts:TE} {tl th:TO} {p2:Pos} (he:PE X e te) (hl:PO X lo tl) (hu:PO X hi th) (hs:PE X st ts):PE X (.Subscript e (.Slice lo hi (some st) p2) pos) (tSl3 rSl3 te tl th ts):=by
 intro pins s σ H Q I h
 refine Subscript_ (thn (he pins s σ H _ I h) fun v s1 ⟨x,H1,I1,r1,q1⟩=>?_)
 refine wpAny_Slice (thn (hl pins s1 σ H1 _ I1 q1) fun vl s2 ⟨l,H2,I2,pl,q2⟩=>thn (hu pins s2 σ H2 _ I2 q2) fun vu s3 ⟨u,H3,I3,pu,q3⟩=>?_)
 refine thn (hs pins s3 σ H3 _ I3 q3) fun vs s4 ⟨y,H4,I4,r4,i,ey,z,ex,hst,hz,hzp,q4⟩=>?_
 subst ey ex
 obtain ⟨t,rfl⟩:=r1
 obtain ⟨t4,rfl⟩:=r4
 obtain ⟨l',rfl,hl'⟩:=zQs pl
 obtain ⟨u',rfl,hu'⟩:=zQs pu
 have I5:Inv X pins σ H4 { s4 with heap:=s4.heap.push { cls:=.type "slice", data:=.fields #[partValue l',partValue u',.int i t4] } }:=I4.kept (t':=s4.toks) fun b ob q=>Heap.get?_push_of_some _ q
 show wpAny (model X.prog X.w) X.A (subscriptTail e (.Slice lo hi (some st) p2) (.str z t) (.ref s4.heap.objs.size)) (EP X pins σ Q) X.xe { s4 with heap:=s4.heap.push { cls:=.type "slice", data:=.fields #[partValue l',partValue u',.int i t4] } }
 refine tail_any (ops:=[.ref s4.heap.objs.size,.str z t]) (typeIs_str _ _ _) PySem.F.slot_str_getitem.lookup ?_ (by with_unfolding_all rfl)
 refine wpAny_getItem_str_slice (l:=l') (u:=u') (st:=some (i,t4)) ⟨_,Heap.get?_push_size _ rfl,rfl,rfl⟩ (by simpa using hst) ?_
 have e:slicePicked z l' u' (some (i,t4))=Builtin.Str.strSliceIndices l u i z.length:=by unfold slicePicked;rw [hl',hu'];rfl
 unfold sliceMade
 rw [e]
 have ep:(⟨((Builtin.Str.strSliceIndices l u i z.length).filterMap (z.cps[·]?)).toArray⟩:Str)=T (zL4 z l u i):=by
  unfold zL4 T;congr 3;funext k;simp [Lt]
 rw [ep]
 refine post_val_or_str ⟨?_,fun t' k=>⟨.str _,H4,I5.tok _,⟨t',rfl⟩,q4 _ ?_⟩⟩
 ·split
  ·exact hz
  ·exact hzp
 ·split
  ·rename_i hc
   rw [Bool.and_eq_true] at hc
   exact .inr ⟨by simpa using hc.1,rfl⟩
  ·exact .inl rfl
theorem zXh {r:V->Option Int->Option Int->Int->Hp->VK->Prop} {ts:TE} {tl th:TO} (h:te σ H fun x H1=>tl σ H1 fun l H2=>th σ H2 fun u H3=>ts σ H3 fun s H4=>∃ i,s = .int i/\r x l u i H4 Q):tSl3 r te tl th ts σ H Q:=h
theorem zKI {is:List Nat} {tt:TT} (h1 : -(2 ^ 62)<=j) (h2:j < 2 ^ 62) (hz:j.toNat<=sizeLine) (Pv:Nat->List V->Hp->Prop) (h0:Pv 0 [] H) (hl : ∀ i ys H,i<=j.toNat->Pv i ys H->ys.length<=i)
  (hs : ∀ i ys H,i < j.toNat->Pv i ys H->tt (some (.int (0+i))::is.map fun j=>(σ[j]?).getD none) H fun ok H2=>if ok=true then te (some (.int (0+i))::is.map fun j=>(σ[j]?).getD none) H2 fun y H3=>NxC j.toNat Pv i (ys++[y]) H3 else NxC j.toNat Pv i ys H2)
  (hd : ∀ ys H,Pv j.toNat ys H -> ∀ p H',Same H H'->H p=none->H' p=some (.lst ys)->Q (.ref p) H'):zTP is tt te σ Q [.int j] H:=by
 refine ⟨j,rfl,h1,h2,fun i m ys H=>m=j.toNat - i/\i<=j.toNat/\Pv i ys H,⟨j.toNat,by simp,Nat.zero_le _,h0⟩,?_⟩
 rintro i m ys H ⟨rfl,hi,p⟩
 have ly:=hl i ys H hi p
 refine ⟨by omega,?_⟩
 by_cases hlt:i < j.toNat
 ·refine .inr ⟨hlt,by omega,fun x H' y=>?_⟩
  obtain ⟨e,y⟩:=y
  subst e y
  exact hs i ys _ hlt p
 ·have e:i=j.toNat:=by omega
  subst e
  exact .inl ⟨Nat.le_refl _,fun p' hp=>hd ys H p p' _ (zDk hp _) hp zAU⟩
end
def zCd (K:W.Frag) (C:Addr):List Str->Prop
 | []=>True
 | f::r=>zF9 K C f/\zCd K C r
theorem zCd.at {f:Str} : ∀ {l:List Str},zCd K C l->f ∈ l->zF9 K C f
 | [],_,h=>by cases h
 | g::r,n,h=>by
  rcases List.mem_cons.mp h with rfl | h
  ·exact n.1
  ·exact n.2.at h
def bfs (wd:Int) (f:Nat) (x:Str) (st:Bool) (more:List (Str × V)):List (Str × V):=("width", .int wd)::("fill", .str (T [f]))::("side", .str x)::("strict", .bl st)::more
def bns:List Str:=["width", "fill", "side", "strict"]
structure zAT (K:W.Frag) (H:Hp) (a C:Addr) (wd:Int) (f:Nat) (x:Str) (st:Bool) (more:List (Str × V)):Prop where
 at_ : ∃ dx,H a=some (.ins C dx (bfs wd f x st more))
 cl:Cls K C
 na:zCd K C (bns++more.map (·.1))
section
variable {K : W.Frag} {H H' : Hp} {a C : Addr} {wd : Int} {f : Nat} {x : Str} {st : Bool} {more : List (Str × V)} {g m : Str} {v : V}
theorem zAT.same (s:Same H H') (F:zAT K H a C wd f x st more):zAT K H' a C wd f x st more:=⟨F.at_.imp fun _ e=>s _ _ e,F.cl,F.na⟩
theorem zPv:(bfs wd f x st more).lookup ("width" : Str)=some (.int wd):=zHL
theorem zRY:(bfs wd f x st more).lookup ("fill" : Str)=some (.str (T [f])):=(zBb (by decide +kernel)).trans zHL
theorem zSN:(bfs wd f x st more).lookup ("side" : Str)=some (.str x):=(zBb (by decide +kernel)).trans ((zBb (by decide +kernel)).trans zHL)
theorem zOn:(bfs wd f x st more).lookup ("strict" : Str)=some (.bl st):=(zBb (by decide +kernel)).trans ((zBb (by decide +kernel)).trans ((zBb (by decide +kernel)).trans zHL))
theorem zN0 (h:g ∉ bns):(bfs wd f x st more).lookup g=more.lookup g:=by
 simp only [bns,mem_cons,List.not_mem_nil,or_false,not_or] at h
 exact (zBb h.1).trans ((zBb h.2.1).trans ((zBb h.2.2.1).trans (zBb h.2.2.2)))
theorem zAT.fld (F:zAT K H a C wd f x st more) (n:g ∈ bns++more.map (·.1)) (l:(bfs wd f x st more).lookup g=some v):zEJ K H a g v:=by
 obtain ⟨dx,e⟩:=F.at_
 exact ⟨C,dx,_,e,F.cl,F.na.at n,l⟩
theorem zAT.width (F:zAT K H a C wd f x st more):zEJ K H a "width" (.int wd):=F.fld (mem_append_left _ (by decide +kernel)) zPv
theorem zAT.fill (F:zAT K H a C wd f x st more):zEJ K H a "fill" (.str (T [f])):=F.fld (mem_append_left _ (by decide +kernel)) zRY
theorem zAT.side (F:zAT K H a C wd f x st more):zEJ K H a "side" (.str x):=F.fld (mem_append_left _ (by decide +kernel)) zSN
theorem zAT.strict (F:zAT K H a C wd f x st more):zEJ K H a "strict" (.bl st):=F.fld (mem_append_left _ (by decide +kernel)) zOn
theorem zAT.own (F:zAT K H a C wd f x st more) (h:g ∉ bns) (l:more.lookup g=some v) (n:g ∈ more.map (·.1)):zEJ K H a g v:=F.fld (mem_append_right _ n) ((zN0 h).trans l)
theorem zAT.meth (F:zAT K H a C wd f x st more) (h:m ∉ bns) (l:more.lookup m=none):InsM H a C m:=by
 obtain ⟨dx,e⟩:=F.at_
 exact ⟨dx,_,e,(zN0 h).trans l⟩
theorem zDu (h:g ∉ bns):putF g v (bfs wd f x st more)=bfs wd f x st (putF g v more):=by
 simp only [bns,mem_cons,List.not_mem_nil,or_false,not_or] at h
 unfold bfs
 rw [zAm (Ne.symm h.1),zAm (Ne.symm h.2.1),zAm (Ne.symm h.2.2.1),zAm (Ne.symm h.2.2.2)]
end
theorem zE6 {f:Str} {ta:TE} (hK:X.K=K) (he:PE X e ta) (hb:attributeBase e f X.env (eval e X.env)=eval e X.env):PE X (.Attribute e f pos) (tFld K ta f):=hK ▸ zAg he hb
section
variable {X : Cx} {K : W.Frag} {σ : St} {H : Hp} {Q : VK} {is : List Nat} {tt : TT} {te : TE}
theorem zO3 (bs:List Bool):((List.range bs.length).all fun i=>(bs[i]?).getD true)=bs.all id:=by
 rw [Bool.eq_iff_iff,List.all_eq_true,List.all_eq_true]
 constructor
 ·intro h b hb
  obtain ⟨i,hi,rfl⟩:=List.getElem_of_mem hb
  have:=h i (List.mem_range.mpr hi)
  simpa [getElem?_eq_getElem hi] using this
 ·intro h i hi
  have hi':=List.mem_range.mp hi
  have:=h _ (getElem_mem hi')
  simpa [getElem?_eq_getElem hi'] using this
def rAll (K:W.Frag):List V->Hp->VK->Prop:=fun xs H Q=>∃ (p:Addr) (bs:List Bool),xs=[.ref p]/\SqL K H p (bs.map V.bl)/\Q (.bl (bs.all id)) H
theorem zL7 (hc:X.calm=true):zFV X (.builtin "all") (rAll X.K):=by
 intro pins s σ H xs us Q I r h
 obtain ⟨p,bs,rfl,hp,q⟩:=h
 obtain ⟨u,rfl,ru⟩:=r.one
 cases ru
 obtain ⟨its,ri,pl,hz⟩:=I.list hp
 have hl:=pl.isList
 have hlt:p < s.heap.objs.size:=by obtain ⟨_,e,_⟩:=hl;exact Heap.lt_size e
 have hlen:its.length=bs.length:=by have:=ri.length;rw [length_map] at this;exact this.symm
 refine call_all_walk (wpAny_pyIter_list hl ?_)
 refine ⟨s.heap.objs.size,[s.heap.objs.size,p],[s.heap.objs.size],its.toArray.size,_,_,fun i=>(bs[i]?).getD true,rfl,Walks.list (A:=X.A.in1) (I.ok.hd hc) _ p (ne_of_lt hlt) its.toArray,
  ⟨⟨_,Heap.get?_push_size _ rfl,rfl,rfl⟩,hl.push _⟩,fun i v s' Q' E' hP hQ=>?_,fun h' tk hk=>?_⟩
 ·have hP':its[i]? = some v:=by simpa using hP
  have hi:i < bs.length:=by
   rcases lt_or_ge i its.length with z | z
   ·omega
   ·rw [List.getElem?_eq_none z] at hP';cases hP'
  obtain ⟨u,hu,ru⟩:=ri.get (i:=i) (x:=.bl bs[i]) (by rw [getElem?_map,getElem?_eq_getElem hi];rfl)
  rw [hP'] at hu;cases hu
  cases ru
  simp only [getElem?_eq_getElem hi,Option.getD_some] at hQ
  exact wpAny_truthy_bool hQ
 ·have e:((List.range its.toArray.size).all fun i=>(bs[i]?).getD true)=bs.all id:=by
   rw [List.size_toArray,hlen];exact zO3 bs
  rw [e]
  exact ⟨.bl _,H,I.kept fun b x eb=>hk b x (fun hm=>by rw [List.mem_singleton.mp hm] at eb;exact lt_irrefl _ (Heap.lt_size eb)) (Heap.get?_push_of_some _ eb),rfl,q⟩
theorem zXv {p:Addr} {bs:List Bool} (h:SqL K H p (bs.map V.bl)) (q:Q (.bl (bs.all id)) H):rAll K [.ref p] H Q:=⟨p,bs,rfl,h,q⟩
theorem zXN {c:Nat} {a:List Nat} (q:Q (.bl (decide (c ∈ a))) H):rInS (.str (T [c])) (.str (T a)) H Q:=zWE (by
 have e:=PySem.StrLaws.found_one (T a) c
 rw [show (T [c])=(⟨#[c]⟩:Str) from rfl,e];exact q)
theorem zTD:bootBuiltins "all" = some (.builtin "all"):=by decide +kernel
def zS7 (is:List Nat) (tt:TT) (te:TE) (σ:St) (Q:VK) (x:V) (H:Hp):Prop:=∃ z:Str,x = .str z/\zPU is tt te σ Q (Its z) H
theorem zVE {tl:TE} (h:tl σ H (zS7 is tt te σ Q)):zPY is (iStr tl) tt te σ H Q:=h
theorem zSC {a:List Nat} (hz:a.length<=sizeLine) (Pv:Nat->List V->Hp->Prop) (h0:Pv 0 [] H) (hl : ∀ i ys H,i<=a.length->Pv i ys H->ys.length<=i)
  (hs : ∀ i c ys H,a[i]? = some c->i < a.length->Pv i ys H->tt (some (.str (T [c]))::is.map fun j=>(σ[j]?).getD none) H fun ok H2=>if ok=true then te (some (.str (T [c]))::is.map fun j=>(σ[j]?).getD none) H2 fun y H3=>NxC a.length Pv i (ys++[y]) H3 else NxC a.length Pv i ys H2)
  (hd : ∀ ys H,Pv a.length ys H -> ∀ p H',Same H H'->H' p=some (.lst ys)->Q (.ref p) H'):zS7 is tt te σ Q (.str (T a)) H:=by
 refine ⟨T a,rfl,fun i m ys H=>m=a.length - i/\i<=a.length/\Pv i ys H,⟨a.length,by simp,Nat.zero_le _,h0⟩,?_⟩
 rintro i m ys H ⟨rfl,hi,p⟩
 have ly:=hl i ys H hi p
 refine ⟨by omega,?_⟩
 by_cases hlt:i < a.length
 ·refine .inr ⟨hlt,by omega,fun x H' y=>?_⟩
  obtain ⟨rfl,c,hc,rfl⟩:=y
  exact hs i c ys _ hc hlt p
 ·have e:i=a.length:=by omega
  subst e
  exact .inl ⟨rfl,fun p' hp=>hd ys H p p' _ (zDk hp _) zAU⟩
end
mutual
inductive Dt (K:W.Frag) (H:Hp):V->PyData->Prop
 | non:Dt K H .non .none
 | bl (b:Bool):Dt K H (.bl b) (.bool b)
 | int (i:Int):Dt K H (.int i) (.int i)
 | str (z:Str):Dt K H (.str z) (.str z)
 | lst {p:Addr} {xs:List V} {ds:List PyData}:SqL K H p xs->Dts K H xs ds->Dt K H (.ref p) (.list ds)
 | tup {p:Addr} {xs:List V} {ds:List PyData}:SqT K H p xs->Dts K H xs ds->Dt K H (.ref p) (.tuple ds)
inductive Dts (K:W.Frag) (H:Hp):List V->List PyData->Prop
 | nil:Dts K H [] []
 | cons {x:V} {d:PyData} {xs:List V} {ds:List PyData}:Dt K H x d->Dts K H xs ds->Dts K H (x::xs) (d::ds)
end
section
variable {X : Cx} {pins : List (Addr × Obj)} {σ : St} {H H' : Hp} {s : Shared} {K : W.Frag} {Q : VK}
mutual
theorem zG9 (I:Inv X pins σ H s) : ∀ {x:V} {d:PyData} {u:Value},Dt X.K H x d->RelV x u -> ∃ as,Reads s.heap u d as
 | _,_,_,.non,r=>by cases r;exact ⟨_,.none⟩
 | _,_,_,.bl b,r=>by cases r;exact ⟨_,.bool b⟩
 | _,_,_,.int i,r=>by obtain ⟨t,rfl⟩:=r;exact ⟨_,.int i t⟩
 | _,_,_,.str z,r=>by obtain ⟨t,rfl⟩:=r;exact ⟨_,.str z t⟩
 | _,_,_,.lst h hs,r=>by
  cases r
  obtain ⟨its,ri,pl,_⟩:=I.list h
  obtain ⟨as,q⟩:=zFZ I hs ri
  obtain ⟨o,e,c,n,d⟩:=pl.isList
  exact ⟨_,.list e c d (by simpa using q)⟩
 | _,_,_,.tup h hs,r=>by
  cases r
  obtain ⟨its,ri,pl,_⟩:=I.tuple h
  obtain ⟨as,q⟩:=zFZ I hs ri
  obtain ⟨o,e,c,n,d⟩:=pl
  exact ⟨_,.tuple e c d (by simpa using q)⟩
theorem zFZ (I:Inv X pins σ H s) : ∀ {xs:List V} {ds:List PyData} {us:List Value},Dts X.K H xs ds->Vals xs us -> ∃ as,ReadsAll s.heap us ds as
 | _,_,_,.nil,.nil=>⟨_,.nil⟩
 | _,_,_,.cons h hs,.cons r rs=>by
  obtain ⟨as,q⟩:=zG9 I h r
  obtain ⟨bs,qs⟩:=zFZ I hs rs
  exact ⟨_,.cons q qs⟩
end
mutual
theorem Dt.same (g:Same H H') : ∀ {x:V} {d:PyData},Dt K H x d->Dt K H' x d
 | _,_,.non=>.non
 | _,_,.bl b=>.bl b
 | _,_,.int i=>.int i
 | _,_,.str z=>.str z
 | _,_,.lst h hs=>.lst (g.seq h) (Dts.same g hs)
 | _,_,.tup h hs=>.tup (SqT.same h g) (Dts.same g hs)
theorem Dts.same (g:Same H H') : ∀ {xs:List V} {ds:List PyData},Dts K H xs ds->Dts K H' xs ds
 | _,_,.nil=>.nil
 | _,_,.cons h hs=>.cons (Dt.same g h) (Dts.same g hs)
end
def rEqD (K:W.Frag):R2:=fun x y H Q=>∃ d,Dt K H x d/\Dt K H y d/\d.canLay0=true/\d.depth<=20/\Q (.bl true) H
theorem zTE (hu:X.A.units+20 < cLine):OpR X (compareOp .Eq) (rEqD X.K):=by
 intro pins s σ H x y v u Q I rx ry h
 obtain ⟨d,h1,h2,c,dp,q⟩:=h
 obtain ⟨as,r1⟩:=zG9 I h1 rx
 obtain ⟨bs,r2⟩:=zG9 I h2 ry
 refine SeqAt.compareEq_reads r1 r2 c c (by rw [Nat.min_self];omega) ⟨.bl _,H,I,rfl,?_⟩
 rw [SeqAt.eqv_refl d c];exact q
theorem hu20 {A:Around} (hr:Room k A):A.units+20 < cLine:=Nat.lt_of_le_of_lt (Nat.add_le_add_left (by decide:20<=64) _) hr.units
theorem zXH {x y:V} {d:PyData} (h1:Dt K H x d) (h2:Dt K H y d) (c:d.canLay0=true) (dp:d.depth<=20) (q:Q (.bl true) H):rEqD K x y H Q:=⟨d,h1,h2,c,dp,q⟩
end
end L2
namespace L2
open PySem PySem.Spec PyProof.Rows
open List (length_append length_map map_map)
def RsA (H:Hp) (v:V) (d:PyData):Prop:=(∃ z:Str,v = .str z/\d = .str z) \/ ∃ (q:Addr) (z:Str),v = .ref q/\H q=some (.tup [.str z])/\d = .tuple [.str z]
section
variable {H H' : Hp} {v : V} {d : PyData} {K : W.Frag}
theorem RsA.same (g:Same H H') (h:RsA H v d):RsA H' v d:=by
 rcases h with ⟨z,a,b⟩ | ⟨q,z,a,e,b⟩
 ·exact .inl ⟨z,a,b⟩
 ·exact .inr ⟨q,z,a,g _ _ e,b⟩
theorem RsA.put {p:Addr} {xs ys:List V} (hp:H p=some (.lst xs)) (h:RsA H v d):RsA (upd H p (.lst ys)) v d:=by
 rcases h with ⟨z,a,b⟩ | ⟨q,z,a,e,b⟩
 ·exact .inl ⟨z,a,b⟩
 ·exact .inr ⟨q,z,a,by rw [zBY (zXk e hp (by intro z;cases z))];exact e,b⟩
end
variable {l:List Nat}
theorem ok_T (h:Asc l):PyData.strOk (T l)=true:=by
 unfold PyData.strOk
 show (l.toArray.all fun c=>decide (c < 0x110000))=true
 rw [Array.all_eq_true_iff_forall_mem]
 intro c hc
 have:=h c (by simpa using hc)
 exact decide_eq_true (by omega)
theorem zPM {a:List Nat} {s st:Int} (h0:0<=s) (h1:s < a.length) (h2:1<=st):zL4 (T a) (some s) none st≠[]/\(∀ c ∈ zL4 (T a) (some s) none st,c ∈ a)/\((zL4 (T a) (some s) none st).length:Int)<=a.length+st:=by
 have e:Builtin.Str.strSliceIndices (some s) none st (T a).length=(List.range (((a.length:Int) - s+st - 1) / st).toNat).map fun k:Nat=>(s+st*(k:Int)).toNat:=by
  have l:((T a).length:Int)=a.length:=rfl
  unfold Builtin.Str.strSliceIndices
  dsimp only
  rw [l,if_neg (show ¬ s < 0 by omega),if_pos (show st > 0 by omega),if_pos (show st > 0 by omega),Int.min_eq_left (by omega),Int.max_eq_right h0]
  unfold sliceRange
  rw [if_pos (show st > 0 by omega),if_pos h1]
 have hc:1<=((a.length:Int) - s+st - 1) / st:=Int.le_ediv_of_mul_le (by omega) (by omega)
 have hc2:((a.length:Int) - s+st - 1) / st<=(a.length:Int) - s+st - 1:=Int.ediv_le_self _ (by omega)
 unfold zL4
 rw [e,Lt_T]
 refine ⟨fun z=>?_,fun c hcm=>?_,?_⟩
 ·rw [List.filterMap_eq_nil_iff] at z
  have:=z (s+st*((0:Nat):Int)).toNat (List.mem_map.mpr ⟨0,List.mem_range.mpr (by omega),rfl⟩)
  rw [show (s+st*((0:Nat):Int)).toNat=s.toNat by simp,List.getElem?_eq_getElem (by omega)] at this
  cases this
 ·obtain ⟨i,_,hi⟩:=List.mem_filterMap.mp hcm
  exact List.mem_of_getElem? hi
 ·have:=List.length_filterMap_le (fun x=>a[x]?) ((List.range (((a.length:Int) - s+st - 1) / st).toNat).map fun k:Nat=>(s+st*(k:Int)).toNat)
  rw [length_map,List.length_range] at this
  omega
variable {X:Cx} {x:Str} {k n:Nat} {ps:List Str} {sp:Sp} {pos:Pos}
theorem zJZ {p:Pos} (F:Has X.prog X.w X.K X.mg X.base x k ps sp) (hr:Room n X.A) (hg:Gl X x) (hk:k<=n:=by decide) (hdb:(x == ("__debug__" : Str))=false:=by decide) :
  PE X (.Call (.Name x p) [] [] pos) (zNK sp [] E0 tNil):=by
 obtain ⟨f,fd,G,hm,kp,hb⟩:=F
 exact zR4 G (hr.mono hk) hg hm kp hb .nil zBV hdb
variable {K:W.Frag} {fd:FuncData}
theorem zIL {t:Addr} {oc:Value} {od:Option Addr} {it:Array Value} {osl:Array (Option Value)} (hl:K.lookup t=some ⟨oc,od,.seq it n,osl⟩) (hd:fd.defaults = .ref t)
  (h : ∀ us:List Value,us.length=ps.length -> ∃ k,bindArgs fd ⟨us,[]⟩=seqItems? fd.defaults >>= k/\k (some it)=pure (ps.zip us)):zCI K fd ps []:=fun s us hK hlen=>by
 rw [List.append_nil] at hlen ⊢
 obtain ⟨k,h1,h2⟩:=h us hlen
 exact .of_defaults hd (hK _ _ hl) rfl h1 h2
set_option maxHeartbeats 1000000
def C2 (h:Heap) (e:Addr):Prop:=∃ o vs,h.get? e=some o/\o.data = .fields vs/\vs[2]? = some .none
variable {h:Heap} {e:Addr} {oe:Obj} {vs:Array Value}
theorem zF1 {b:Addr} {o:Obj} (a:h.get? e=some oe) (d:oe.data = .fields vs) (q:h.get? b=some o) (n : ∀ us,o.data ≠ .fields us):b≠e:=by
 rintro rfl
 rw [a] at q
 cases q
 exact n vs d
variable {base:Heap} {a0:Value}
theorem zPG {g:Heap} {l:List Env} {ob:Obj} {ts:Array Value} {fl:Value} (FF:h.FunFrames base l) (sg:Heap.SlotsOnly (l.filterMap (·.frame)) h g) (a1:h.get? e=some oe)
  (a2:base.StaysIn h) (a3:base.get? e=none) (a4:oe.data = .fields vs) (a5:1 < vs.size) (a6:vs[0]? = some a0) (a7:vs[2]? = some .none) (b1:ob.data = .fields ts) (b2:ts[3]? = some fl) :
  Heap.NotedW base l e oe.cls a0 fl h ((g.push ob).update e (Obj.mapFields (·.setIfInBounds 1 (Value.ref g.objs.size))))/\C2 ((g.push ob).update e (Obj.mapFields (·.setIfInBounds 1 (Value.ref g.objs.size)))) e:=by
 have nf:e ∉ l.filterMap (·.frame):=fun m=>by
  obtain ⟨_,o,q,n⟩:=FF.mem m
  exact zF1 a1 a4 q n rfl
 have g1:g.get? e=some oe:=(sg.2.1 e nf).trans a1
 have ne:g.objs.size≠e:=fun z=>Nat.lt_irrefl _ (z ▸ Heap.lt_size g1)
 have d1:(Obj.mapFields (·.setIfInBounds 1 (Value.ref g.objs.size)) oe).data=_:=Obj.data_mapFields a4 _
 have self:((g.push ob).update e (Obj.mapFields (·.setIfInBounds 1 (Value.ref g.objs.size)))).get? e=some (Obj.mapFields (·.setIfInBounds 1 (Value.ref g.objs.size)) oe):=
  Heap.get?_update_self _ (Heap.get?_push_of_some _ g1) (Obj.isFreed_of_fields d1)
 have kp : ∀ {b:Addr} {o:Obj},b≠e->g.get? b=some o->((g.push ob).update e (Obj.mapFields (·.setIfInBounds 1 (Value.ref g.objs.size)))).get? b=some o:=fun {b o} n q=>by
  rw [Heap.get?_update_other _ _ (Ne.symm n)];exact Heap.get?_push_of_some _ q
 have new:((g.push ob).update e (Obj.mapFields (·.setIfInBounds 1 (Value.ref g.objs.size)))).get? g.objs.size=some ob:=by
  rw [Heap.get?_update_other _ _ (Ne.symm ne)];exact Heap.get?_push_size g (Obj.isFreed_of_fields b1)
 have bg:base.StaysIn g:=fun b o q=>(sg.2.1 b fun m=>by rw [(FF.mem m).1] at q;cases q).trans (a2 b o q)
 have oth : ∀ b o,h.get? b=some o->(∀ us,o.data ≠ .fields us) -> ∃ sl,((g.push ob).update e (Obj.mapFields (·.setIfInBounds 1 (Value.ref g.objs.size)))).get? b=some { o with slots:=sl }:=fun b o q n=>by
  obtain ⟨sl,q1⟩:=sg.2.2 b o q
  exact ⟨sl,kp (zF1 a1 a4 q n) q1⟩
 refine ⟨⟨fun b o q=>kp (fun z=>by rw [z,a3] at q;cases q) (bg b o q),FF.of_keeps fun b o q n=>?_,⟨_,_,g.objs.size,ob,ts,self,⟨Obj.cls_mapFields _ _,?_⟩,d1,?_,?_,ne,new,b1,b2⟩,oth⟩,⟨_,_,self,d1,?_⟩⟩
 ·obtain ⟨sl,q1⟩:=oth b o q n
  exact ⟨_,q1,rfl⟩
 ·rw [Array.getElem?_setIfInBounds_ne (by decide)];exact a6
 ·rw [Array.getElem?_setIfInBounds_self_of_lt a5]
 ·cases z:base.get? g.objs.size with
  | none=>rfl
  | some o=>exact absurd (Heap.lt_size (bg _ o z)) (Nat.lt_irrefl _)
 ·rw [Array.getElem?_setIfInBounds_ne (by decide)];exact a7
section
variable {M : Model} {A : Around} {E : Value -> Shared -> Prop} {s : Shared} {base : Heap} {env : Env} {outer : List Env} {L e : Addr} {Q : Unit -> Shared -> Prop}
theorem zTW {head:Value} {hadNext:Bool} (fr:A.frames=some (env::outer)) (FF:s.heap.FunFrames base (env::outer)) (ef:env.frame=some L) (a1:s.heap.get? e=some oe)
  (a2:base.StaysIn s.heap) (a3:base.get? e=none) (a4:oe.data = .fields vs) (a5:1 < vs.size) (a6:vs[0]? = some a0) (a7:vs[2]? = some .none)
  (k : ∀ h',Heap.NotedW base (env::outer) e oe.cls a0 (rawInt L) s.heap h'->C2 h' e->Q () { s with heap:=h' }) :
  wpAny M A (do let a <- frameOf env;let pl <- entryPlaceOf L hadNext;let b <- EntryCells.newEntry head a .none (rawInt L) .none pl;setField (.ref e) 1 b) Q E s:=by
 have nf:e ∉ (env::outer).filterMap (·.frame):=fun m=>by
  obtain ⟨_,o,q,n⟩:=FF.mem m
  exact zF1 a1 a4 q n rfl
 refine wpAny_bind (wpAny_frameOf_fun fr FF ef fun g sg=>wpAny_bind (wpAny_entryPlaceOf fun pl ip=>?_))
 unfold EntryCells.newEntry newFields
 refine wpAny_bind (wpAny_newObj_type (wpAny_setField (Heap.get?_push_of_some _ ((sg.2.1 e nf).trans a1)) a4 a5 ?_) (ip.sizeOk5 _ _ _ _ _))
 have nh:=zPG (ob:={ cls:=.type "traceback", dict:=none,data:=.fields ([head,.ref L,.none,rawInt L,.none]++(if pl.isEmpty then List.replicate 6 Value.none else pl)).toArray }) FF sg a1 a2 a3 a4 a5 a6 a7 rfl (fl:=rawInt L) (by simp)
 exact k _ nh.1 nh.2
variable {cls:Value}
theorem zNO {l:List Env} {fl:Value} (a2:base.StaysIn s.heap) (FF:s.heap.FunFrames base l) (tr:s.heap.TracedAtW base e cls a0 fl) (c2:C2 s.heap e)
  (k : ∀ h',base.StaysIn h'->h'.FunFrames base l->h'.TracedW base e cls a0->C2 h' e->s.heap.UpToSlots h'->Q () { s with heap:=h' }):wpAny M A (setFlight (.ref e) none) Q E s:=by
 obtain ⟨oe,vs,t,ot,ts,q1,q2,q3,q4,q5,q6,q7,q8,q9⟩:=tr
 obtain ⟨o',us,c1,c3,c4⟩:=c2
 rw [q1] at c1
 cases c1
 rw [q3] at c3
 cases c3
 unfold setFlight
 refine wpAny_bind (wpAny_field q1 q3 q4 ?_)
 have nn:(Value.ref t != Value.none)=true:=by simp
 rw [if_pos nn]
 have lt3:=(Array.getElem?_eq_some_iff.mp q9).1
 have ot' : ∀ {b:Addr},b≠t->(s.heap.update t (Obj.mapFields (·.setIfInBounds 3 ((none:Option Addr).elim Value.none fun f=>rawInt f)))).get? b=s.heap.get? b:=fun {b} n=>Heap.get?_update_other _ _ (Ne.symm n)
 have df:=Obj.data_mapFields q8 (·.setIfInBounds 3 ((none:Option Addr).elim Value.none fun f=>rawInt f))
 refine wpAny_setField q7 q8 lt3 (k _ (fun b o q=>(ot' fun z=>by rw [z,q5] at q;cases q).trans (a2 b o q)) (FF.of_keeps fun b o q n=>⟨o,(ot' (zF1 q7 q8 q n)).trans q,rfl⟩)
  ⟨oe,vs,t,_,_,(ot' (Ne.symm q6)).trans q1,q2,q3,q4,q5,q6,Heap.get?_update_self _ q7 (Obj.isFreed_of_fields df),df,?_⟩ ⟨oe,vs,(ot' (Ne.symm q6)).trans q1,q3,c4⟩ fun b o q n=>⟨o.slots,(ot' (zF1 q7 q8 q n)).trans q⟩)
 rw [Array.getElem?_setIfInBounds_self_of_lt lt3];rfl
theorem zMT {args:List Value} (fr:A.frames=some (env::outer)) (ef:env.frame=some L) (a2:base.StaysIn h) (FF:h.FunFrames base (env::outer)) (mk:Heap.MadeExcOf h s.heap e cls args)
  (k : ∀ h' a0,Heap.FlyingW base outer e cls a0 h'->C2 h' e->s.heap.UpToSlots h'->Q () { s with heap:=h' }):wpAny M A (leaving env (.ref e)) Q E s:=by
 obtain ⟨t,m1,m2,m3⟩:=mk.there
 have out:base.get? e=none:=by
  cases z:base.get? e with
  | none=>rfl
  | some o=>have:=a2 e o z;rw [mk.new] at this;cases this
 have FF1:s.heap.FunFrames base (env::outer):=FF.of_keeps fun b o q _=>⟨o,mk.keeps b o q,rfl⟩
 unfold leaving noteFrame
 simp only [ef]
 refine wpAny_bind (wpAny_bind (wpAny_field m1 rfl (x:=.none) rfl ?_))
 have nn : ¬ ((Value.none != Value.none)=true):=by decide
 rw [if_neg nn]
 refine zTW fr FF1 ef m1 (fun b o q=>mk.keeps b o (a2 b o q)) out rfl (by show 1 < 6;decide) (a0:=.ref t) rfl rfl fun h1 nd c1=>?_
 obtain ⟨n1,n2,n3,n4⟩:=nd
 exact zNO (s:={ s with heap:=h1 }) n1 n2 n3 c1 fun h2 w1 w2 w3 w4 w5=>k h2 _ ⟨w1,out,w2.2.2,w3⟩ w4 (Heap.UpToSlots.trans (h₂:=h1) n4 w5)
theorem zV1 (fr:A.frames=some (env::outer)) (ef:env.frame=some L) (fly:Heap.FlyingW base (env::outer) e cls a0 s.heap) (c2:C2 s.heap e)
  (k : ∀ h',Heap.HeldW base (env::outer) e cls a0 L h'->C2 h' e->s.heap.UpToSlots h'->Q () { s with heap:=h' }):wpAny M A (noteFrame (.ref e) env) Q E s:=by
 obtain ⟨f1,f2,f3,oe,vs,t,ot,ts,q1,⟨q2,q2'⟩,q3,q4,q5,q6,q7,q8,q9⟩:=fly
 obtain ⟨o',us,c1,c3,c4⟩:=c2
 rw [q1] at c1
 cases c1
 rw [q3] at c3
 cases c3
 subst q2
 unfold noteFrame
 simp only [ef]
 refine wpAny_bind (wpAny_field q1 q3 q4 ?_)
 have nn:(Value.ref t != Value.none)=true:=by simp
 have n3 : ¬ ((Value.none == rawInt L)=true):=by simp [rawInt]
 rw [if_pos nn]
 refine wpAny_bind (wpAny_field q7 q8 q9 ?_)
 rw [if_neg n3]
 have ot' : ∀ {b:Addr},b≠t->(s.heap.update t (Obj.mapFields (·.setIfInBounds 3 Value.none))).get? b=s.heap.get? b:=fun {b} n=>Heap.get?_update_other _ _ (Ne.symm n)
 refine wpAny_bind (wpAny_setField q7 q8 (Array.getElem?_eq_some_iff.mp q9).1 ?_)
 refine zTW fr (f3.of_keeps fun b o q n=>⟨o,(ot' (zF1 q7 q8 q n)).trans q,rfl⟩) ef ((ot' (Ne.symm q6)).trans q1) (fun b o q=>(ot' fun z=>by rw [z,q5] at q;cases q).trans (f1 b o q)) f2 q3 (Array.getElem?_eq_some_iff.mp q4).1 q2' c4 fun h1 nd cc=>?_
 exact k h1 ⟨nd.1,f2,nd.2.1,nd.2.2.1⟩ cc fun b o q n=>nd.2.2.2 b o ((ot' (zF1 q7 q8 q n)).trans q) n
theorem zXS {l:List Env} (hd:Heap.HeldW base l e cls a0 L s.heap) (c2:C2 s.heap e)
  (k : ∀ h',Heap.FlyingW base l e cls a0 h'->C2 h' e->s.heap.UpToSlots h'->Q () { s with heap:=h' }):wpAny M A (setFlight (.ref e) none) Q E s:=
 zNO hd.1 hd.2.2.1 hd.2.2.2 c2 fun h' w1 w2 w3 w4 w5=>k h' ⟨w1,hd.2.1,w2,w3⟩ w4 w5
theorem zVZ {l:List Env} (fl:Heap.FlyingW base l e cls a0 s.heap) (c2:C2 s.heap e)
  (k : ∀ h',Heap.FlyingW base l e cls a0 h'->C2 h' e->s.heap.UpToSlots h'->Q () { s with heap:=h' }):wpAny M A (setFlight (.ref e) none) Q E s:=
 zNO fl.1 fl.2.2.1 fl.2.2.2.at c2 fun h' w1 w2 w3 w4 w5=>k h' ⟨w1,fl.2.1,w2,w3⟩ w4 w5
theorem zPJ (fr:A.frames=some (env::outer)) (ef:env.frame=some L) (a1:s.heap.get? e=some oe) (a2:base.StaysIn s.heap) (FF:s.heap.FunFrames base (env::outer)) (a3:base.get? e=none)
  (a4:oe.data = .fields vs) (a5:vs[1]? = some .none) (a6:vs[0]? = some a0) (k : ∀ h',Heap.FlyingW base outer e oe.cls a0 h'->s.heap.UpToSlots h'->Q () { s with heap:=h' }):wpAny M A (leaving env (.ref e)) Q E s:=
 wpAny_leaving_firstW fr FF ef a1 a2 a3 a4 a5 a6 fun h' lf=>k h' ⟨lf.1,a3,lf.2.1.2.2,lf.2.2.1⟩ lf.2.2.2
end
theorem zLS:entryFor table "proto.unchain" = some Builtin.«proto.unchain» := entryFor_of_tree (by kernel_rfl)
section
variable {prog : Program} {w : World} {A : Around} {E : Value -> Shared -> Prop} {s : Shared}
theorem zPK {y:Addr} {Q:Value->Shared->Prop} (c2:C2 s.heap y) (k:Q .none s):wpAny (model prog w) A (runValue (.builtin "proto.unchain" ⟨[.ref e,.ref y,.ref y,.bool false],[]⟩)) Q E s:=by
 obtain ⟨o,vs,q1,q2,q3⟩:=c2
 refine wpAny_runValue (codeAny_builtin zLS ?_)
 show wpAny _ _ (do let context <- field (.ref y) 2;_) _ _ _
 refine wpAny_bind (wpAny_field q1 q2 q3 ?_)
 have nn:((Value.none == Value.none)=true):=by decide
 rw [if_pos nn]
 exact wpAny_pure k
theorem zJL {α:Type} {y:Addr} {Q:α->Shared->Prop} (hh:A.handled=some (.ref y)) (ne:y≠e) (c2:C2 s.heap y) (a1:s.heap.get? e=some oe) (a2:oe.data = .fields vs) (a3:2 < vs.size)
  (k:E (.ref e) { s with heap:=s.heap.update e (Obj.mapFields (·.setIfInBounds 2 (.ref y))) }):wpAny (model prog w) A (raiseNew (.ref e):Sem α) Q E s:=by
 unfold raiseNew
 refine wpAny_bind (wpAny_handled ?_)
 rw [hh]
 have nn:((Value.ref y != Value.ref e)=true):=by simp [ne]
 dsimp only
 rw [if_pos nn]
 refine wpAny_bind (wpAny_holding (zPK c2 ?_))
 have up:wpAny (model prog w) A (setField (.ref e) 2 (.ref y)) (fun _ s'=>wpAny (model prog w) A (throw (.ref e):Sem α) Q E s') E s:=wpAny_setField a1 a2 a3 (wpAny_throw k)
 exact wpAny_bind up
end
section
variable {prog : Program} {w : World} {A : Around} {E : Value -> Shared -> Prop} {env : Env}
variable {nm q : Str} {C N : Addr} {bs bm : List Value} {hdct : Bool} {sn : List Str} {sub : List Value} {ab : Bool} {col : Option Bool} {dd : Option Addr} {k0 k1 k2 k3 k5 : Option Value} {newId : String}
theorem zLX {s:Shared} {y:Addr} {x c:Sem Value} {Q:Flow->Shared->Prop} (hbase:bm.contains (.type "BaseException")=true) (hh:A.handled=some (.ref y))
  (h:wpAny (model prog w) A x (fun v s₁=>∃ e t,v = .ref e/\s₁.heap.get? C=some (excClassObj nm q C N bs bm hdct sn sub ab col dd k0 k1 k2 k3 k5 newId) /\
   s₁.heap.get? e=some { cls:=.ref C,data:=.fields #[.ref t,.none,.none,.none,.bool false,.none] }/\y≠e/\C2 s₁.heap y/\(∀ R:Value->Shared->Prop,R .none s₁->wpAny (model prog w) A c R E s₁) /\
   ∀ h',(∀ b,b≠e->h'.get? b=s₁.heap.get? b)->h'.get? e=some { cls:=.ref C,data:=.fields #[.ref t,.none,.ref y,.none,.bool true,.none] }->E (.ref e) { s₁ with heap:=h' }) E s) :
  wpAny (model prog w) A (raiseStmt env (some x) (some c)) Q E s:=by
 have cb:(Value.ref C::bm).contains (.type "BaseException")=true:=by rw [List.contains_cons,hbase,Bool.or_true]
 unfold raiseStmt
 refine wpAny_bind (wpAny_mono h (fun v s₁ h₁=>?_) fun _ _ z=>z)
 obtain ⟨e,t,rfl,hC,he,ne,c2,hc,k⟩:=h₁
 refine wpAny_bind (wpAny_holding (hc _ (wpAny_bind (wpAny_pure ?_))))
 obtain ⟨hp,g,d,tk,os⟩:=s₁
 repeat (first
  | with_reducible refine wpAny_loadPart_at he ?_
  | with_reducible refine wpAny_loadPart_at hC ?_
  | (with_reducible refine wpAny_isSubtype_exc hC ?_;rw [cb])
  | wp_step)
 have nC:C≠e:=by
  rintro rfl
  have z:=hC.symm.trans he
  simp [excClassObj] at z
 have u1:=Heap.get?_update_self (Obj.mapFields (·.setIfInBounds 3 Value.none)) he rfl
 have u2:=Heap.get?_update_self (Obj.mapFields (·.setIfInBounds 4 (Value.bool true))) u1 rfl
 have ot : ∀ b,b≠e->((hp.update e (Obj.mapFields (·.setIfInBounds 3 Value.none))).update e (Obj.mapFields (·.setIfInBounds 4 (Value.bool true)))).get? b=hp.get? b:=fun b n=>by
  rw [Heap.get?_update_other _ _ (Ne.symm n),Heap.get?_update_other _ _ (Ne.symm n)]
 have u3:=(ot C nC).trans hC
 have cy:C2 ((hp.update e (Obj.mapFields (·.setIfInBounds 3 Value.none))).update e (Obj.mapFields (·.setIfInBounds 4 (Value.bool true)))) y:=by
  obtain ⟨o,vs,z1,z2,z3⟩:=c2
  exact ⟨o,vs,(ot y ne).trans z1,z2,z3⟩
 generalize (hp.update e (Obj.mapFields (·.setIfInBounds 3 Value.none))).update e (Obj.mapFields (·.setIfInBounds 4 (Value.bool true)))=h2 at u2 ot u3 cy ⊢
 refine wpAny_loadPart_at u3 (wpAny_pure ?_)
 have ty:((excClassObj nm q C N bs bm hdct sn sub ab col dd k0 k1 k2 k3 k5 newId).cls == Value.type "type")=true:=by rfl
 rw [if_pos ty]
 refine wpAny_pure ?_
 unfold setFlight
 refine wpAny_bind (wpAny_bind (wpAny_field u2 rfl (x:=.none) rfl ?_))
 have nn : ¬ ((Value.none != Value.none)=true):=by decide
 rw [if_neg nn]
 refine wpAny_pure (zJL hh ne cy u2 rfl (by show 2 < 6;decide) (k _ (fun b n=>?_) ?_))
 ·rw [Heap.get?_update_other _ _ (Ne.symm n)];exact ot b n
 ·exact Heap.get?_update_self (Obj.mapFields (·.setIfInBounds 2 (.ref y))) u2 rfl
end
structure zTq (h h':Heap) (e C:Addr):Prop where
 keeps : ∀ b o,h.get? b=some o->h'.get? b=some o
 new:h.get? e=none
 there : ∃ oe vs a0,h'.get? e=some oe/\oe.cls = .ref C/\oe.data = .fields vs/\vs[1]? = some .none/\vs[0]? = some a0
section
variable {prog : Program} {w : World} {A : Around} {E : Value -> Shared -> Prop} {env : Env}
variable {nm q : Str} {C N : Addr} {bs bm bmB : List Value} {hdct : Bool} {sn : List Str} {sub : List Value} {ab : Bool} {col : Option Bool} {dd : Option Addr} {k0 k1 k2 k3 k5 : Option Value} {B newId initId : String}
theorem zVK (F:ExcBaseFacts B newId initId bmB) {mN:Str->Option Value} {s:Shared} {m:Str} {np mp cpos cp:Pos} {j j':Nat} {y:Addr} {Q:Flow->Shared->Prop} (hb:bm.contains (.type "BaseException")=true) (hh:A.handled=some (.ref y)) (c2:C2 s.heap y)
  (hx : ∀ R:Value->Shared->Prop,R (.ref C) s->wpAny (model prog w) A (eval (.Name x np) env) R E s) (hC:s.heap.get? C=some (excClassObj nm q C N bs bm hdct sn sub ab col dd k0 k1 k2 k3 k5 newId)) (hN:s.heap.Ns N mN) (hni:mN "__init__" = none) (T:OwnTail s.heap bmB bm)
  (k : ∀ h' e tk,zTq s.heap h' e C->E (.ref e) { s with heap:=h',toks:=tk }) :
  wpAny (model prog w) A (exec (.Raise (some (.Call (.Name x np) [.Constant (.str m) j mp] [] cpos)) (some (.Constant .none j' cp)) pos) env) Q E s:=by
 rw [arm_exec_Raise]
 refine wpAny_bind (wpAny_standAt ?_)
 refine zLX (y:=y) (C:=C) (nm:=nm) (q:=q) (N:=N) (bs:=bs) (bm:=bm) (hdct:=hdct) (sn:=sn) (sub:=sub) (ab:=ab) (col:=col) (dd:=dd) (k0:=k0) (k1:=k1) (k2:=k2) (k3:=k3) (k5:=k5) (newId:=newId) hb hh ?_
 refine wpAny_bind (wpAny_Call_ofName (hx _ ?_))
 unfold callWith
 refine wpAny_bind (wpAny_holding (Calls.evalArgs_plain (Calls.spliced_cons (Calls.Constant_str (k:=j) (pos:=mp) (Calls.spliced_nil ?_)))))
 refine wpAny_bind (wpAny_standAt ?_)
 have st:(((backTo cpos (starEach [Expr.Constant (Const.str m) j mp] env)).any fun x=>x.fst) || (backToKw cpos (keywordEach [] env)).any fun x=>x.fst.isNone)=false:=rfl
 simp only [st]
 obtain ⟨hp,g,d,tk,os⟩:=s
 refine wpAny_bind (wpAny_keeperOf_exc hC ?_)
 dsimp only
 have one:([]++[Value.str m tk]).length<=sizeLine:=by show 1<=sizeLine;decide
 refine wpAny_bind (wpAny_call_exc_subT (hrest:=one) F T hC hN hni fun h' e hm=>wpAny_bind (wpAny_holding (wpAny_point (wpAny_pure ?_))))
 refine wpAny_bind (wpAny_standAt (wpAny_pure ?_))
 obtain ⟨t,h1,h2,h3⟩:=hm.there
 have ny:y≠e:=by
  rintro rfl
  obtain ⟨o,vs,z1,_⟩:=c2
  have:=hm.new
  rw [z1] at this;cases this
 refine ⟨e,t,rfl,hm.keeps _ _ hC,h1,ny,?_,fun R hR=>wpAny_bind (wpAny_Constant_none (wpAny_bind (wpAny_standAt (wpAny_pure hR)))),fun h'' o1 o2=>?_⟩
 ·obtain ⟨o,vs,z1,z2,z3⟩:=c2
  exact ⟨o,vs,hm.keeps _ _ z1,z2,z3⟩
 ·refine k h'' e (tk+1) ⟨fun b o z=>?_,hm.new,⟨_,_,_,o2,rfl,rfl,rfl,rfl⟩⟩
  rw [o1 b (fun z1=>by have:=hm.new;rw [<- z1,z] at this;cases this)]
  exact hm.keeps b o z
end
def CXE2 (P:Program) (w:World):CXT:=fun outer H s E e s'=>∃ (x C:Addr) (a0:Value) (H':Hp) (B:Heap),e = .ref x/\s'.os=s.os/\AllBare s'.gens/\Heap.FlyingW B outer x (.ref C) a0 s'.heap/\C2 s'.heap x /\
 (∀ h',B.StaysIn h'->s'.heap.UpToSlots h'->Un (frs outer) [] H H' s.heap h'/\HOk P w H' h')/\s.heap.get? x=none/\H' x=none/\E (.ref C) none H'
section
variable {P : Program} {w : World} {K : W.Frag} {mg : Str -> Option Value} {base : Heap} {N : List Str} {qual : Str} {scope : Scope} {f : Addr} {cd : Value} {A : Around} {outer : List Env} {s : Shared} {H : Hp} {E : XK} {CX : CXT}
variable {pins:List (Addr × Obj)} {σ:St} {H1:Hp} {s1:Shared} {h':Heap}
theorem zP0 {h2:Heap} (I:Inv (cxOf CX P w K mg base N qual scope f cd A outer s H E) pins σ H1 s1) (kp : ∀ b o,s1.heap.get? b=some o->h'.get? b=some o) (f4:h'.UpToSlots h2) :
  ∀ h3,(W.hideAll s1.heap (frs (envOfC qual scope s.heap.objs.size f cd::outer))).StaysIn h3->h2.UpToSlots h3->Un (frs outer) [] H H1 s.heap h3/\HOk P w H1 h3:=by
 intro h3 st sm
 have hst : ∀ b ∈ frs (envOfC qual scope s.heap.objs.size f cd::outer),H1 b=none:=I.stkFree
 have FF:s1.heap.FunFrames base (envOfC qual scope s.heap.objs.size f cd::outer):=I.stack
 have old : ∀ b o,s.heap.get? b=some o->b≠s.heap.objs.size:=fun b o e=>Nat.ne_of_lt (Heap.lt_size e)
 have sub : ∀ b,b ∈ frs (envOfC qual scope s.heap.objs.size f cd::outer)->b=s.heap.objs.size\/b ∈ frs outer:=fun b hb=>List.mem_cons.mp (I.stkSub b hb)
 have here : ∀ b o,s1.heap.get? b=some o->b ∉ frs (envOfC qual scope s.heap.objs.size f cd::outer)->h3.get? b=some o:=fun b o e n=>st b o (W.hideAll_get _ e n)
 have fram : ∀ b o,s1.heap.get? b=some o->b ∈ frs (envOfC qual scope s.heap.objs.size f cd::outer) -> ∃ sl,h3.get? b=some { o with slots:=sl }:=fun b o e m=>by
  obtain ⟨_,o',e',nf⟩:=FF.mem m
  have z:o'=o:=Option.some.inj (e'.symm.trans e)
  subst z
  obtain ⟨sl,e2⟩:=f4 b o' (kp b o' e) nf
  obtain ⟨sl',e3⟩:=sm b _ e2 nf
  exact ⟨sl',e3⟩
 refine ⟨⟨fun b o e n hb hx=>?_,fun b o e n hb hx=>?_,fun b o e n hx=>I.base.free b o e n hx,fun b o e hx=>?_,I.base.tups,I.base.frzs,I.base.tbls⟩,fun a u e=>?_⟩
 ·exact here b o (I.base.keep b o e n hb hx) fun z=>(sub b z).elim (old b o e) hb
 ·obtain ⟨sl,e1⟩:=I.base.slot b o e n hb hx
  have mem:b ∈ frs (envOfC qual scope s.heap.objs.size f cd::outer):=by
   show b ∈ List.filterMap _ _
   rw [List.filterMap_cons]
   exact List.mem_cons_of_mem _ hb
  obtain ⟨sl',e2⟩:=fram b _ e1 mem
  exact ⟨sl',e2⟩
 ·obtain ⟨o',e1⟩:=I.base.there b o e hx
  by_cases mem:b ∈ frs (envOfC qual scope s.heap.objs.size f cd::outer)
  ·obtain ⟨sl,e2⟩:=fram b o' e1 mem
   exact ⟨_,e2⟩
  ·exact ⟨o',here b o' e1 mem⟩
 ·refine (I.hok a u e).stay (fun b ob hb eb=>here b ob eb fun z=>?_) (fun _ z=>z) (fun _ _ z=>z)
  have:=hst b z
  rcases hb with rfl | hb
  ·rw [e] at this;cases this
  ·rw [hb] at this;cases this
theorem zTO {x:Addr} (I:Inv (cxOf CX P w K mg base N qual scope f cd A outer s H E) pins σ H1 s1) (nw:s1.heap.get? x=none):s.heap.get? x=none/\H1 x=none:=by
 constructor
 ·cases z:s.heap.get? x with
  | none=>rfl
  | some o =>
   obtain ⟨o',e1⟩:=I.base.there x o z (fun h=>nomatch h)
   rw [nw] at e1;cases e1
 ·cases z:H1 x with
  | none=>rfl
  | some o =>
   obtain ⟨ob,e1⟩:=(I.hok x o z).is
   rw [nw] at e1;cases e1
theorem zJt (I:Inv (cxOf CX P w K mg base N qual scope f cd A outer s H E) pins σ H1 s1):s1.heap.FunFrames (W.hideAll s1.heap (frs (envOfC qual scope s.heap.objs.size f cd::outer))) (envOfC qual scope s.heap.objs.size f cd::outer):=by
 have FF:s1.heap.FunFrames base (envOfC qual scope s.heap.objs.size f cd::outer):=I.stack
 exact W.funFrames_hide FF fun env he b hb=>List.mem_filterMap.mpr ⟨env,he,hb⟩
theorem zMk {x C:Addr} {args:List Value}
  (I:Inv (cxOf (CXE2 P w) P w K mg base N qual scope f cd A outer s H E) pins σ H1 s1) (hm:Heap.MadeExcOf s1.heap h' x (.ref C) args) (q:E (.ref C) none H1) :
  (cxOf (CXE2 P w) P w K mg base N qual scope f cd A outer s H E).xe (.ref x) { s1 with heap:=h' }:=by
 have nw:=zTO I hm.new
 refine zMT (s:={ s1 with heap:=h' }) (base:=W.hideAll s1.heap (frs (envOfC qual scope s.heap.objs.size f cd::outer))) I.ok.frames rfl (fun b o e=>W.of_hideAll _ e) (zJt I) hm fun h2 a0 f1 f2 f4=>?_
 exact ⟨x,C,a0,H1,_,rfl,I.os,I.bare,f1,f2,zP0 I hm.keeps f4,nw.1,nw.2,q⟩
theorem zSI {x C:Addr} {tk:Nat}
  (I:Inv (cxOf (CXE P w) P w K mg base N qual scope f cd A outer s H E) pins σ H1 s1) (hm:zTq s1.heap h' x C) (q:E (.ref C) none H1) :
  (cxOf (CXE P w) P w K mg base N qual scope f cd A outer s H E).xe (.ref x) { s1 with heap:=h',toks:=tk }:=by
 have nw:=zTO I hm.new
 obtain ⟨oe,vs,a0,m1,m2,m3,m4,m5⟩:=hm.there
 have FF:=zJt I
 have bs:(W.hideAll s1.heap (frs (envOfC qual scope s.heap.objs.size f cd::outer))).StaysIn s1.heap:=fun b o e=>W.of_hideAll _ e
 have bx:(W.hideAll s1.heap (frs (envOfC qual scope s.heap.objs.size f cd::outer))).get? x=none:=by
  cases z:(W.hideAll s1.heap (frs (envOfC qual scope s.heap.objs.size f cd::outer))).get? x with
  | none=>rfl
  | some o=>have:=bs x o z;rw [hm.new] at this;cases this
 refine zPJ (s:={ s1 with heap:=h',toks:=tk }) (base:=W.hideAll s1.heap (frs (envOfC qual scope s.heap.objs.size f cd::outer))) I.ok.frames rfl m1 (fun b o e=>hm.keeps b o (bs b o e)) (FF.of_keeps fun b o e _=>⟨o,hm.keeps b o e,rfl⟩) bx m3 m4 m5 fun h2 f1 f4=>?_
 rw [m2] at f1
 exact ⟨x,C,a0,H1,_,rfl,I.os,I.bare,f1,zP0 I hm.keeps f4,nw.1,nw.2,q⟩
end
def zTM (X:Cx) (E:XK):Prop:=∀ (pins:List (Addr × Obj)) (σ:St) (H:Hp) (s:Shared) (h':Heap) (x C:Addr) (tk:Nat),Inv X pins σ H s->zTq s.heap h' x C->E (.ref C) none H->X.xe (.ref x) { s with heap:=h',toks:=tk }
variable {P:Program} {w:World} {mg:Str->Option Value} {f:Addr} {s:Shared} {H:Hp} {E:XK}
theorem zT5 {N:List Str} {qual:Str} {scope:Scope} {cd:Value} {A:Around} {outer:List Env}:zTM (cxOf (CXE P w) P w K mg base N qual scope f cd A outer s H E) E:=
 fun pins σ H s h' x C tk I hm q=>zSI I hm q
theorem Fun.okX2 {qual:Str} {st:Stmt} {N:List Str} (F:Fun K x qual st f fd) (S:zAP N ps (zAH st)) (len : ∀ vs H Q E,sp vs H Q E->vs.length=ps.length)
  (hbody : ∀ (cdv:Value) (A:Around) (outer:List Env) (s:Shared) (H:Hp) (vs:List V) (Q:VK) (E:XK),Room k (A.deeper (envOfC qual (zAH st) s.heap.objs.size f cdv))->sp vs H Q E ->
   zRp (cxOf (CXE2 P w) P w K mg base N qual (zAH st) f cdv A outer s H E) E -> ∃ t,PSs (cxOf (CXE2 P w) P w K mg base N qual (zAH st) f cdv A outer s H E) (zAi st) t/\t { nx:=fun _ H'=>Q .non H',rt:=Q } (start N vs) H):FnOk P w K mg base (CXE2 P w) (k+1) f fd ps sp:=by
 obtain ⟨oc,od,kV,doc,pm,an,cdv,ct,osl,rfl,lk,hcd⟩:=F.ex
 exact zQx lk hcd S len fun A outer s H vs Q E hr hsp=>hbody cdv A outer s H vs Q E hr hsp fun pins σ H s h' x C args I hm q=>zMk I hm q
theorem FnOk.of2 (F:FnOk P w K mg base (CXE2 P w) k f fd ps sp):FnOk P w K mg base (CXE P w) k f fd ps sp:=
 ⟨F.len,fun A outer s H args us vs Q E hr he hb hv hs=>codeAny_mono (F.run A outer s H args us vs Q E hr he hb hv hs) fun r s' hq=>by
  cases r with
  | ok fl=>cases fl <;> exact hq
  | error e =>
   obtain ⟨x,C,a0,H',B,z1,z2,z3,z4,_,z5⟩:=hq
   exact ⟨x,C,a0,H',B,z1,z2,z3,z4,z5⟩⟩
def zQL (P:Program) (w:World) (K:W.Frag) (mg:Str->Option Value) (base:Heap) (x:Str) (k:Nat) (ps:List Str) (sp:Sp):Prop:=
 ∃ (f:Addr) (fd:FuncData),FnOk P w K mg base (CXE2 P w) k f fd ps sp/\mg x=some (.ref f)/\W.keepIn K (.ref f)=true/\zCI K fd ps []
def XP2 (X:Cx) (pins:List (Addr × Obj)) (σ:St) (E:XK) (e:Value) (s':Shared):Prop:=∃ H1 s1,Inv X pins σ H1 s1/\CXE2 X.prog X.w X.stack H1 s1 E e s'
def Cx.tr2 (X:Cx) (pins:List (Addr × Obj)) (σc:St) (E:XK):Cx:={ X with pn:=X.pn++pins,xe:=XP2 X pins σc E }
section
variable {X : Cx} {pins pins0 : List (Addr × Obj)} {σ σc : St} {H : Hp} {s : Shared} {E : XK}
theorem Cx.Ok.tr2 (ok:X.Ok):(X.tr2 pins σc E).Ok:=⟨ok.mod,ok.kind,ok.glob,ok.blt,ok.above,ok.inj,ok.has,ok.cab,ok.hd,ok.frames,ok.stk,ok.exf,ok.bs,ok.bsz,ok.noex,ok.exfs,ok.funs,ok.frf⟩
theorem Cx.Ok.untr2 (ok:(X.tr2 pins σc E).Ok):X.Ok:=⟨ok.mod,ok.kind,ok.glob,ok.blt,ok.above,ok.inj,ok.has,ok.cab,ok.hd,ok.frames,ok.stk,ok.exf,ok.bs,ok.bsz,ok.noex,ok.exfs,ok.funs,ok.frf⟩
theorem Inv.tr2 (I:Inv X pins σ H s):Inv (X.tr2 pins σc E) [] σ H s:=⟨I.ok.tr2,I.os,I.bare,I.base,I.loc,I.cell,I.free,I.freeC,fun p hp=>I.pin p (by simpa [Cx.tr2] using hp),I.hok,I.len⟩
theorem Inv.untr2 (I:Inv (X.tr2 pins0 σc E) pins σ H s):Inv X pins0 σ H s:=⟨I.ok.untr2,I.os,I.bare,I.base,I.loc,I.cell,I.free,I.freeC,fun p hp=>I.pin p (List.mem_append_left _ hp),I.hok,I.len⟩
theorem SP.untr2 {D:Ends} {f:Flow} {s':Shared} (h:SP (X.tr2 pins0 σc E) pins D f s'):SP X pins0 D f s':=by
 cases f with
 | next=>obtain ⟨σ',H',I,q⟩:=h;exact ⟨σ',H',I.untr2,q⟩
 | brk=>obtain ⟨σ',H',I,q⟩:=h;exact ⟨σ',H',I.untr2,q⟩
 | cont=>obtain ⟨σ',H',I,q⟩:=h;exact ⟨σ',H',I.untr2,q⟩
 | ret u=>obtain ⟨v,σ',H',I,r,q⟩:=h;exact ⟨v,σ',H',I.untr2,r,q⟩
end
section
variable {X : Cx} {pins0 : List (Addr × Obj)} {σc : St} {k n : Nat} {C : Addr} {ps : List Str} {sp : Sp} {E : XK} {x m : Str} {p np pos apos : Pos} {e o : Expr} {es : List Expr} {ta : TE} {t : TA}
theorem zSK {pins:List (Addr × Obj)} {σ:St} {Q:VK} {us:List Value} {vs:List V} (F:FnOk X.prog X.w X.K X.mg X.base (CXE2 X.prog X.w) k f fd ps sp) (hr:Room k X.A) (hb:zCI X.K fd ps [])
  (I:Inv (X.tr2 pins0 σc E) pins σ H s) (r:Vals vs us) (wk:Wk σc σ) (h:sp (vs++[]) H Q E):wpAny (model X.prog X.w) X.A (call (.ref f) us) (EP (X.tr2 pins0 σc E) pins σ Q) (X.tr2 pins0 σc E).xe s:=by
 have r2:Vals (vs++[]) (us++[]):=r.append .nil
 have hl:(us++[]).length=ps.length:=by rw [<- r2.length];exact F.len _ _ _ _ h
 have e0:Env0 X.prog X.w X.K X.mg X.base X.A X.stack s H:=I.env0
 refine wpAny_call (codeAny_mono (F.run X.A X.stack s H ⟨us,[]⟩ (us++[]) (vs++[]) Q E hr e0 (hb s us I.kIn hl) r2 h) fun r s' hq=>?_)
 cases r with
 | error e=>exact ⟨H,s,I.untr2.weak wk.1 wk.2,hq⟩
 | ok fl =>
  cases fl with
  | ret u=>exact I.after hq
  | next=>exact False.elim hq
  | brk=>exact False.elim hq
  | cont=>exact False.elim hq
theorem zMH (F:zQL X.prog X.w X.K X.mg X.base x k ps sp) (hr:Room n X.A) (hg:Gl X x) (ha:PA (X.tr2 pins0 σc E) (e::es) t) (hk:k<=n:=by decide)
  (hdb:(x == ("__debug__" : Str))=false:=by decide) (he:starEach (e::es) X.env=(false,eval e X.env)::starEach es X.env:=by rfl) (hpl:(backTo pos (starEach es X.env)).any (·.1)=false:=by rfl) :
  PE (X.tr2 pins0 σc E) (.Call (.Name x p) (e::es) [] pos) (zQE sp E σc t):=by
 intro pins s σ H Q I h
 obtain ⟨f,fd,G,hm,kp,b⟩:=F
 refine wpAny_Call_Name_kw (zDH I hg hm ?_ hdb)
 refine W.callWith_K (h₀:=X.base) I.ok.mod.kin kp (thn (ha pos pins s σ H _ I h) fun us s1 ⟨vs,H1,I1,r,q⟩=>⟨I1.kIn,?_⟩) he hpl
 exact zSK (G.mono hk) hr b I1 r q.1 q.2
end
def zV9 (K:W.Frag) (C1 C2 CR:Addr) (E:XK) (tb:St->XK->TS):TS:=fun D σ H=>∃ σc,tb σc (fun cls _ H2=>∃ C,cls = .ref C/\W.exmAny K (.ref C) [.ref C1,.ref C2]=some true/\E (.ref CR) none H2) D σ H
variable {C1:Addr}
theorem zUr {c1 c2 cx msg:Str} {C2' CR:Addr} {p1 p2 tpos np mp cpos cp rpos hpos:Pos} {kk j j':Nat} {body:List Stmt} {tb:St->XK->TS}
  (hst:X.stack=X.env::X.outer) (hfr:X.env.frame=some X.env.locals) (hc:X.calm=true) (ce:Exc X.K CR) (tk:zTM X E) (po : ∀ hd,PassesOwnAt (model X.prog X.w) (X.A.mark hd) X.A X.env X.xe)
  (g1:Gl X c1) (m1:X.mg c1=some (.ref C1)) (g2:Gl X c2) (m2:X.mg c2=some (.ref C2')) (gr:Gl X cx) (mr:X.mg cx=some (.ref CR)) (hb : ∀ pins σc E,PSs (X.tr2 pins σc E) body (tb σc E))
  (d1:(c1 == ("__debug__" : Str))=false:=by decide) (d2:(c2 == ("__debug__" : Str))=false:=by decide) (dr:(cx == ("__debug__" : Str))=false:=by decide) :
  PS X (.Try body [.ExceptHandler (some (.Tuple [.Name c1 p1,.Name c2 p2] kk tpos)) none [.Raise (some (.Call (.Name cx np) [.Constant (.str msg) j mp] [] cpos)) (some (.Constant .none j' cp)) rpos] hpos] [] [] pos) (zV9 X.K C1 C2' CR E tb):=by
 intro pins s σ H D I h
 obtain ⟨σc,h⟩:=h
 refine wpAny_Try_except (wpAny_mono (hb pins σc _ [] s σ H D I.tr2 h) (fun f s1 q=>?_) fun er s' z=>?_)
 ·cases f with
  | next=>exact wpAny_execs_nil q.untr2
  | ret u=>exact q.untr2
  | brk=>exact q.untr2
  | cont=>exact q.untr2
 ·obtain ⟨H1,s1,I1,fl⟩:=z
  obtain ⟨y,C,a0,H2,B,rfl,hos,hbare,fly,cc,clo,hy0,hy2,C0,z0,exm,q⟩:=fl
  cases z0
  rw [hst] at fly
  refine zV1 (I.ok.frames.trans (congrArg some hst)) hfr fly cc fun h1 held cc1 sm1=>?_
  refine zXS held cc1 fun h2 fly2 cc2 sm2=>?_
  have cl : ∀ h',B.StaysIn h'->h2.UpToSlots h'->Inv X pins σc H2 { s' with heap:=h' }:=fun h' st sm=>by
   have c:=clo h' st ((sm1.trans sm2).trans sm)
   exact I1.call' (s':={ s' with heap:=h' }) hos c.1 c.2 hbare (fun b z=>nomatch z)
  have I2:Inv X pins σc H2 { s' with heap:=h2 }:=cl h2 fly2.1 (Heap.UpToSlots.refl _)
  have hhd:(X.A.mark (some (.ref y))).handled=some (.ref y):=rfl
  refine wpAny_handleBy_cons (codeAny_handlers_test ?_) (by intro q;cases q)
  refine wpAny_Tuple (wpAny_items_cons (zDH (I2.inExc y) g1 m1 (wpAny_items_cons (zDH (I2.inExc y) g2 m2 (wpAny_items_nil ⟨by size_fits,?_⟩) d2)) d1))
  have kp : ∀ b o,h2.get? b=some o->(h2.push { cls:=.type "tuple", data:=.seq [Value.ref C1,Value.ref C2'].toArray }).get? b=some o:=fun _ _ z=>Heap.get?_push_of_some _ z
  have ty2:W.Looks (model X.prog X.w) h2 (typeOf (.ref y)) (.ref C):=(isx fly2).ty
  refine (W.exm_tup2 (M:=model X.prog X.w) (I2.kIn.keeps kp) (ty2.keeps kp) (Heap.get?_push_size h2 rfl) exm).here ?_
  have up:h2.UpToSlots (h2.push { cls:=.type "tuple", data:=.seq [Value.ref C1,Value.ref C2'].toArray }):=Heap.UpToSlots.of_keeps kp
  have fly3:Heap.FlyingW B (X.env::X.outer) y (.ref C) a0 (h2.push { cls:=.type "tuple", data:=.seq [Value.ref C1,Value.ref C2'].toArray }):=by
   obtain ⟨f1,f2,f3,oe,vs,t,ot,ts,q1,q2,q3,q4,q5,q6,q7,q8,q9⟩:=fly2
   exact ⟨fun b o z=>kp b o (f1 b o z),f2,f3.of_keeps fun b o z _=>⟨o,kp b o z,rfl⟩,oe,vs,t,ot,ts,kp _ _ q1,q2,q3,q4,q5,q6,kp _ _ q7,q8,q9⟩
  have cc3:C2 (h2.push { cls:=.type "tuple", data:=.seq [Value.ref C1,Value.ref C2'].toArray }) y:=by
   obtain ⟨o,vs,z1,z2,z3⟩:=cc2
   exact ⟨o,vs,kp _ _ z1,z2,z3⟩
  refine codeAny_handlers_suite (zVZ fly3 cc3 fun h4 fly4 cc4 sm4=>?_)
  have I4:Inv X pins σc H2 { s' with heap:=h4 }:=cl h4 fly4.1 (up.trans sm4)
  obtain ⟨tl,Nn,nm,qq,bs,hdct,sn,sub,ab,col,dd,k0,k1,k2,k3,k5,mN,hC,hN,hni,T⟩:=zRG I4.kIn ce
  refine wpAny_passesOwnAt (po (some (.ref y))) (wpAny_execs_cons ?_)
  refine zVK (s:={ s' with heap:=h4 }) (C:=CR) (bm:=tl) (mN:=mN) (N:=Nn) (nm:=nm) (q:=qq) (bs:=bs) (hdct:=hdct) (sn:=sn) (sub:=sub) (ab:=ab) (col:=col) (dd:=dd) (k0:=k0) (k1:=k1) (k2:=k2) (k3:=k3) (k5:=k5) PySem.F.excBase_ValueError (T.hasType PySem.F.excBase_ValueError.hasBase) hhd cc4 (fun R hR=>zDH (I4.inExc y) gr mr hR dr) hC hN hni T fun h5 e5 tk5 mr5=>?_
  exact tk pins σc H2 { s' with heap:=h4 } h5 e5 CR tk5 I4 mr5 q
variable {σ:St}
theorem zVf {C2 CR:Addr} {tb:St->XK->TS} {D:Ends} (σc:St) (h:tb σc (fun cls _ H2=>∃ C,cls = .ref C/\W.exmAny K (.ref C) [.ref C1,.ref C2]=some true/\E (.ref CR) none H2) D σ H):zV9 K C1 C2 CR E tb D σ H:=⟨σc,h⟩
theorem zTQ {c d:Nat} (h:0<=fv c) (e:fv c=fv d):c=d:=by
 unfold fv at h e
 repeat' (split at h)
 all_goals repeat' (split at e)
 all_goals omega
theorem zJQ {P:List Nat->Prop} (h0:P []) (hs : ∀ l c,P l->P (l++[c])) (l:List Nat):P l:=by
 have : ∀ n (l:List Nat),l.length=n->P l:=fun n=>by
  induction n with
  | zero=>intro l h;rw [List.length_eq_zero_iff.mp h];exact h0
  | succ n ih =>
   intro l h
   have ne:l≠[]:=fun z=>by rw [z] at h;cases h
   rw [<- List.dropLast_concat_getLast ne]
   exact hs _ _ (ih _ (by rw [List.length_dropLast];omega))
 exact this _ l rfl
variable {b:Int}
theorem FigB.left {m:List Nat} (h:FigB b (l++m)):FigB b l:=fun c hc=>h c (List.mem_append_left _ hc)
theorem FigB.right {m:List Nat} (h:FigB b (l++m)):FigB b m:=fun c hc=>h c (List.mem_append_right _ hc)
theorem zMZ (hb:2<=b) (l:List Nat):FigB b l->0<=val b l/\val b l < b ^ l.length:=by
 refine zJQ (P:=fun l=>FigB b l->0<=val b l/\val b l < b ^ l.length) (fun _=>⟨Int.le_refl 0,by show (0:Int) < b ^ 0;rw [Int.pow_zero];decide⟩) (fun l c ih h=>?_) l
 obtain ⟨i1,i2⟩:=ih h.left
 obtain ⟨_,c1,c2⟩:=h.right c (List.mem_singleton.mpr rfl)
 rw [zIs,length_append,List.length_singleton,Int.pow_succ]
 have m1:=Int.mul_le_mul_of_nonneg_right (show val b l<=b ^ l.length - 1 by omega) (show 0<=b by omega)
 rw [Int.sub_mul,Int.one_mul] at m1
 have m2:=Int.mul_nonneg i1 (show 0<=b by omega)
 omega
theorem zUt (hb:2<=b) (l:List Nat) : ∀ k,FigB b l->FigB b k->l.length=k.length->val b l=val b k->l=k:=by
 refine zJQ (P:=fun l=>∀ k,FigB b l->FigB b k->l.length=k.length->val b l=val b k->l=k) (fun k _ _ h _=>(List.length_eq_zero_iff.mp h.symm).symm) (fun l c ih k hl hk he hv=>?_) l
 have ne:k≠[]:=fun z=>by rw [z,length_append] at he;cases he
 obtain ⟨k',d,rfl⟩ : ∃ k' d,k=k'++[d]:=⟨_,_,(List.dropLast_concat_getLast ne).symm⟩
 obtain ⟨_,c1,c2⟩:=hl.right c (List.mem_singleton.mpr rfl)
 obtain ⟨_,d1,d2⟩:=hk.right d (List.mem_singleton.mpr rfl)
 rw [zIs,zIs] at hv
 have q1:(val b l*b+fv c) / b=val b l:=by rw [Int.add_comm,Int.add_mul_ediv_right _ _ (by omega),Int.ediv_eq_zero_of_lt c1 c2,Int.zero_add]
 have q2:(val b k'*b+fv d) / b=val b k':=by rw [Int.add_comm,Int.add_mul_ediv_right _ _ (by omega),Int.ediv_eq_zero_of_lt d1 d2,Int.zero_add]
 have e1:val b l=val b k':=by rw [<- q1,hv,q2]
 have e2:fv c=fv d:=by rw [e1] at hv;omega
 rw [length_append,length_append,List.length_singleton,List.length_singleton] at he
 rw [ih k' hl.left hk.left (by omega) e1,zTQ c1 e2]
theorem zPe (hb:2<=b) (l:List Nat):FigB b l->1<=l.length->l.getD 0 0≠48->b ^ (l.length - 1)<=val b l:=by
 refine zJQ (P:=fun l=>FigB b l->1<=l.length->l.getD 0 0≠48->b ^ (l.length - 1)<=val b l) (fun _ h=>absurd h (by decide)) (fun l c ih h _ hn=>?_) l
 obtain ⟨_,c1,c2⟩:=h.right c (List.mem_singleton.mpr rfl)
 rw [zIs,length_append,List.length_singleton,Nat.add_sub_cancel]
 rcases Nat.eq_zero_or_pos l.length with z | z
 ·have z':=List.length_eq_zero_iff.mp z
  subst z'
  have nc:c≠48:=hn
  have:fv c≠fv 48:=fun e=>nc (zTQ c1 e)
  have e48:fv 48=0:=by decide
  show b ^ 0<=(0:Int)*b+fv c
  rw [Int.pow_zero]
  omega
 ·have i:=ih h.left z (by rw [zFX z] at hn;exact hn)
  have e:b ^ l.length=b ^ (l.length - 1)*b:=by rw [<- Int.pow_succ];congr 1;omega
  have m1:=Int.mul_le_mul_of_nonneg_right i (show 0<=b by omega)
  rw [e];omega
variable {p:Nat}
theorem zNB {b:Nat} (h2:2<=b) (h16:b<=16) (hp:p<=6) (hf:FigB b l) (h1:p+1<=l.length) (h40:l.length<=40+p) (hz:l.getD 0 0=48->l.length=p+1):(val b l).toNat < b ^ (40+p)/\dgs b p (val b l).toNat=l:=by
 have hb:(2:Int)<=(b:Int):=by omega
 obtain ⟨v0,v1⟩:=zMZ hb l hf
 have cp : ∀ k:Nat,((b ^ k:Nat):Int)=(b:Int) ^ k:=fun k=>by simp
 have mono : ∀ {j k:Nat},j<=k->(b:Int) ^ j<=(b:Int) ^ k:=fun {j k} h=>by
  rw [<- cp,<- cp];exact Int.ofNat_le.mpr (Nat.pow_le_pow_right (by omega) h)
 have nb:(val b l).toNat < b ^ (40+p):=by
  have a:=mono h40
  have c:=cp (40+p)
  omega
 obtain ⟨d1,d2,d3,d4,d5⟩:=zEn h2 h16 hp nb
 refine ⟨nb,?_⟩
 have ev:val b (dgs b p (val b l).toNat)=val b l:=by rw [d2];omega
 obtain ⟨w0,w1⟩:=zMZ hb _ d1
 refine zUt hb _ _ d1 hf ?_ ev
 generalize dgs b p (val b l).toNat=D at *
 rcases Nat.lt_trichotomy D.length l.length with z | z | z
 ·have lo:=zPe hb l hf (by omega) (fun e=>by have:=hz e;omega)
  have m:=mono (show D.length<=l.length - 1 by omega)
  omega
 ·exact z
 ·have lo:=zPe hb D d1 (by omega) (fun e=>by have:=d5 e;omega)
  have m:=mono (show l.length<=D.length - 1 by omega)
  omega
def zC8 (p:Nat) (t:List Nat):List Nat:=if p=0 then t else t.take (t.length - p - 1)
def zH8 (p:Nat) (t:List Nat):List Nat:=if p=0 then [] else t.drop (t.length - p)
def WE (p pt:Nat) (t:List Nat):Prop:=p=0\/(p+1<=t.length/\t.getD (t.length - p - 1) 0=pt)
def NZ (u:List Nat):Prop:=¬ (1 < u.length/\u.getD 0 0=48)
def IsB (b:Int) (p pt z m:Nat) (t:List Nat):Prop:=WE p pt t/\GG z m (zC8 p t)/\FigB b (ug z (zC8 p t)++zH8 p t)/\NZ (ug z (zC8 p t))
def bval (b:Int) (p z:Nat) (t:List Nat):Int:=val b (ug z (zC8 p t)++zH8 p t)
variable {t:List Nat}
theorem zMj {pt:Nat} (h:WE p pt t):(zH8 p t).length=p:=by
 unfold zH8
 rcases h with h | h
 ·rw [if_pos h,h];rfl
 ·split
  ·rename_i z;rw [z];rfl
  ·rw [List.length_drop];omega
theorem zQf {pt:Nat} (h:WE p pt t):t=if p=0 then zC8 p t else zC8 p t++[pt]++zH8 p t:=by
 rcases Nat.eq_zero_or_pos p with z | z
 ·rw [if_pos z];unfold zC8;rw [if_pos z]
 ·rw [if_neg (by omega)]
  rcases h with h | ⟨h1,h2⟩
  ·omega
  ·unfold zC8 zH8
   rw [if_neg (by omega),if_neg (by omega)]
   have lt:t.length - p - 1 < t.length:=by omega
   have e1:t.drop (t.length - p - 1)=pt::t.drop (t.length - p):=by
    rw [List.drop_eq_getElem_cons lt,show t.length - p - 1+1=t.length - p by omega]
    rw [List.getD_eq_getElem?_getD,List.getElem?_eq_getElem lt] at h2
    rw [show t[t.length - p - 1]=pt from h2]
   rw [List.append_assoc,show [pt]++t.drop (t.length - p)=t.drop (t.length - p - 1) from e1.symm,List.take_append_drop]
variable {z:Nat}
theorem zSd {b pt m:Nat} (h2:2<=b) (h16:b<=16) (hp:p<=6) (h:IsB b p pt z m t):0<=bval b p z t/\(bval b p z t).toNat < b ^ (40+p)/\bdy b p pt z m (bval b p z t).toNat=t:=by
 obtain ⟨w,g,f,n⟩:=h
 have rl:=zMj w
 have jn:=zQf w
 unfold bval
 generalize hU:ug z (zC8 p t)=u at *
 generalize zH8 p t=r at *
 have g1:=g.1;have g2:=g.2.1;have g3:=g.2.2
 rw [hU] at g1 g2 g3
 obtain ⟨v1,v2⟩:=zNB h2 h16 hp f (by rw [length_append];omega) (by rw [length_append];omega) (fun e=>by
  rw [zFX (by omega)] at e
  rw [length_append]
  have : ¬ 1 < u.length:=fun z=>n ⟨z,e⟩
  omega)
 refine ⟨(zMZ (by omega) _ f).1,v1,?_⟩
 have ew:whl b p (val b (u++r)).toNat=u:=by
  unfold whl;rw [v2,length_append,show u.length+r.length - p=u.length by omega,List.take_left]
 have er:rst b p (val b (u++r)).toNat=r:=by
  unfold rst;rw [v2,length_append,show u.length+r.length - p=u.length by omega,List.drop_left]
 unfold bdy
 rw [ew,er,g3]
 exact jn.symm
theorem zWh {c:Nat} (h:c ∈ ug z t):c ∈ t:=by
 unfold ug at h
 split at h
 ·exact h
 ·rename_i hz
  have key : ∀ l:List Nat,c ∈ UJ z l->c ∈ l:=fun l=>by
   refine zJQ (P:=fun l=>c ∈ UJ z l->c ∈ l) (fun h=>by rw [zFD] at h;exact h) (fun l x ih h=>?_) l
   rw [zPo (by omega) l.length l (Nat.le_refl _)] at h
   rcases List.mem_append.mp h with h | h
   ·exact List.mem_append_left _ (ih h)
   ·split at h
    ·cases h
    ·exact List.mem_append_right _ h
  have:=key _ (List.mem_reverse.mp h)
  exact List.mem_reverse.mp this
theorem zOm:t.take (zC8 p t).length=zC8 p t:=by
 unfold zC8
 split
 ·exact List.take_length
 ·rw [List.length_take,Nat.min_def]
  split
  ·rfl
  ·rw [List.take_length,List.take_of_length_le (by omega)]
theorem zPO {pt:Nat} (h:WE p pt t):t.drop ((zC8 p t).length+1)=zH8 p t:=by
 unfold zC8 zH8
 split
 ·exact List.drop_of_length_le (by omega)
 ·rename_i n
  rcases h with h | h
  ·exact absurd h n
  ·rw [List.length_take,Nat.min_eq_left (by omega),show t.length - p - 1+1=t.length - p by omega]
theorem zP4:(zC8 p t).length<=t.length:=by
 unfold zC8;split
 ·exact Nat.le_refl _
 ·rw [List.length_take];omega
theorem zSX (h:Asc t):Asc (ug z (zC8 p t)++zH8 p t):=by
 intro c hc
 rcases List.mem_append.mp hc with hc | hc
 ·have:=zWh hc
  unfold zC8 at this
  split at this
  ·exact h c this
  ·exact h c (List.mem_of_mem_take this)
 ·unfold zH8 at hc
  split at hc
  ·cases hc
  ·exact h c (List.mem_of_mem_drop hc)
section
variable {X : Cx} {H : Hp} {Q : VK} {K : W.Frag}
open PySem.Builtin PySem.Builtin.Str in
def dEnt (w:World) (e:Str × Tok × Value):DictEntry:=⟨hashStr w e.1,.str e.1 e.2.1,e.2.2⟩
def KDs (w:World) (K:W.Frag) (d:Addr) (ks:List Str):Prop:=(d == sysModules)=false /\ ∃ (kvs:List (Str × Tok × Value)) (n:Nat),K.lookup d=some { cls:=.type "dict", data:=.dict (kvs.map (dEnt w)).toArray n }/\ks=kvs.map (·.1)/\ks.Nodup/\ks.length<=1000
theorem isStrOf_shape {k:Str} {v:Value} (h:Value.isStrOf k v=true) : ∃ t,v = .str k t:=by
 rcases zBz (k:=Sum.inr k) h with ⟨i,t,z,_⟩ | ⟨x,t,z,e⟩
 ·cases z
 ·cases z;exact ⟨t,e⟩
end
theorem zXx {d:Addr} {n0:Nat} {t0 t1 t2 t3 t4:Tok} {v0 v1 v2 v3 v4:Value} (lo:(d == sysModules)=false)
  (hd:K.lookup d=some { cls:=.type "dict", data:=.dict #[⟨PyData.keyHash w.params "minus", .str "minus" t0,v0⟩,⟨PyData.keyHash w.params "plus", .str "plus" t1,v1⟩,⟨PyData.keyHash w.params "blank", .str "blank" t2,v2⟩,⟨PyData.keyHash w.params "brackets", .str "brackets" t3,v3⟩,⟨PyData.keyHash w.params "behind", .str "behind" t4,v4⟩] n0 }):KDs w K d ["minus", "plus", "blank", "brackets", "behind"]:=
 ⟨lo,[("minus", t0,v0),("plus", t1,v1),("blank", t2,v2),("brackets", t3,v3),("behind", t4,v4)],n0,hd,rfl,by decide +kernel,by decide⟩
def wfs (L:Addr) (n:Nat):List (Str × V):=[("words", .ref L),("at", .int n)]
def Wr (K:W.Frag) (C:Addr) (H:Hp) (a:Addr) (rest:List (List Nat)):Prop:=∃ (dx L:Addr) (ws:List (List Nat)) (n:Nat),H a=some (.ins C dx (wfs L n))/\SqL K H L (tsV ws)/\n<=ws.length/\ws.drop n=rest/\ws.length<=100
section
variable {K : W.Frag} {C : Addr} {H H' : Hp} {a L dx : Addr} {n : Nat} {rest : List (List Nat)}
theorem Wr.same (g:Same H H') (h:Wr K C H a rest):Wr K C H' a rest:=let ⟨d,L,ws,n,e1,e2,e3,e4,e5⟩:=h;⟨d,L,ws,n,g.at e1,g.seq e2,e3,e4,e5⟩
theorem SB.tup {xs:List V} {p:Addr} (s:SB a H H') (w:Wr K C H a rest) (h:H p=some (.tup xs)):H' p=some (.tup xs):=by
 obtain ⟨d,L,ws,n,e1,_⟩:=w
 exact s p _ (fun z=>by subst z;rw [e1] at h;cases h) h
theorem SB.lst {xs:List V} {p:Addr} (s:SB a H H') (w:Wr K C H a rest) (h:H p=some (.lst xs)):H' p=some (.lst xs):=by
 obtain ⟨d,L,ws,n,e1,_⟩:=w
 exact s p _ (fun z=>by subst z;rw [e1] at h;cases h) h
theorem SB.trans {F:Hp} (s:SB a H H') (t:SB a H' F):SB a H F:=fun b o n e=>t b o n (s b o n e)
theorem SB.of (g:Same H H'):SB a H H':=fun b o _ e=>g _ _ e
end
def zW1:R2:=fun x y H Q=>y = .non/\Q (.bl (!decide (x = .non))) H
theorem zSa:OpR X (compareOp .IsNot) zW1:=zUc
theorem zUD {i:Int} {Q:VK} (q:Q (.bl true) H):zW1 (.int i) .non H Q:=⟨rfl,by rw [decide_eq_false (fun z=>nomatch z)];exact q⟩
def ItP (lo c:Int) (n:Nat):It:=⟨fun i _=>i < n,fun i H x H'=>H'=H/\x = .int (lo+i*c),fun i _=>n<=i⟩
theorem zPD {K:PySem.W.Frag} {tg:Expr} (it:Addr) (lo c:Int) (n:Nat):Turn P w K tg (ItP lo c n) [it] it (fun i h=>IsRangeIter h it (lo+(i:Nat)*c) ((n:Int) - (i:Nat)) c) where
 mem:=by simp
 obj:=fun i h st b hb=>by
  have e:b=it:=by simpa using hb
  subst e
  exact ⟨_,st,fun v z=>by
   have z':Data.fields _=Data.cell v:=z
   cases z'⟩
 keep:=fun i h h' st k=>k it (by simp) _ st
 item:=by
  intro X hP hw hK hc i pins s σ H E I hf st hg
  subst hP hw hK
  obtain ⟨f0,f1,f2,f3,f4,f5⟩:=hf it (by simp)
  have W:=Walks.range (prog:=X.prog) (w:=X.w) (I.ok.hd hc) it lo c n
  refine W.item i s _ _ hg st fun v h' tk hv st' kk=>?_
  obtain ⟨t,rfl⟩:=hv
  have I1:Inv X pins σ H { s with heap:=h',toks:=tk }:=I.turned (fun b o hb e=>kk b o (by simpa using hb) e) f0 f1 f3 f4 f5
  exact ⟨_,rfl,zP6 (s:={ s with heap:=h',toks:=tk }) (n:="range_iterator") st' rfl rfl (by decide) ⟨.int (lo+i*c),H,I1,⟨t,rfl⟩,⟨rfl,rfl⟩,st',fun b hb=>(hf b hb).1⟩⟩
 done:=by
  intro X hP hw hK hc i pins s σ H E I hf st hg
  subst hP hw hK
  obtain ⟨f0,f1,f2,f3,f4,f5⟩:=hf it (by simp)
  exact wpAny_pyNext_range_end (I.ok.hd hc) st (by have:n<=i:=hg;omega) fun h' eb=>⟨rfl,I.turned (t':=s.toks) (fun b o hb e=>eb b o hb e) f0 f1 f3 f4 f5⟩
 self:=fun _ _ _ _ _ st h=>wpAny_pyIter_rangeiter st h
section
variable {X : Cx} {tg : Expr}
structure zQ8 (lo hi c:Int) (n:Nat):Prop where
 one:1<=c
 lit:Builtin.Range.small lo hi c=true
 num:Builtin.Range.rangeSize lo hi c=n
 room:Builtin.divisionGoesByPylong (hi - lo) c=false
theorem zRn {pins:List (Addr × Obj)} {R:It->Hp->Prop} {E:Value->Shared->Prop} {lo hi c:Int} {t u v:Tok} {tk:Nat} (I:Inv X pins σ H s) (b:zQ8 lo hi c n)
  (q:R (ItP lo c n) H):wpAny (model X.prog X.w) X.A (pyIter (.ref s.heap.objs.size)) (PIE X pins σ tg R) E { s with heap:=s.heap.push { cls:=.type "range", data:=.fields #[.int lo t,.int hi u,.int c v] },toks:=tk }:=by
 refine wpAny_pyIter_range (IsRange.new ..) b.lit ?_
 have I1:Inv X pins σ H { s with heap:=s.heap.push { cls:=.type "range", data:=.fields #[.int lo t,.int hi u,.int c v] },toks:=tk }:=I.kept fun b o e=>Heap.get?_push_of_some _ e
 refine ⟨(s.heap.push { cls:=.type "range", data:=.fields #[.int lo t,.int hi u,.int c v] }).objs.size,[(s.heap.push { cls:=.type "range", data:=.fields #[.int lo t,.int hi u,.int c v] }).objs.size],_,_,H,rfl,
  I1.kept (t':=tk) fun b o e=>Heap.get?_push_of_some _ e,zPD _ lo c n,?_,fun b hb=>?_,q⟩
 ·have e1:lo+((0:Nat):Int)*c=lo:=by simp
  have e2:((n:Nat):Int) - ((0:Nat):Int)=Builtin.Range.rangeSize lo hi c:=by rw [b.num];simp
  show IsRangeIter _ _ (lo+((0:Nat):Int)*c) (((n:Nat):Int) - ((0:Nat):Int)) c
  rw [e1,e2]
  exact Heap.get?_push_size _ rfl
 ·have e:b=(s.heap.push { cls:=.type "range", data:=.fields #[.int lo t,.int hi u,.int c v] }).objs.size:=by simpa using hb
  subst e
  exact I1.fpOk (Nat.le_refl _) (I1.hok.fresh (Nat.le_refl _))
def zWJ (ta:TA):TI:=fun σ H R=>ta σ H fun vs H1=>∃ (i j c:Int) (n:Nat),vs=[.int i,.int j,.int c]/\zQ8 i j c n/\R (ItP i c n) H1
theorem zMp {a b c:Expr} {ta:TA} {p:Pos} (hg:Gl X "range") (hm:X.mg "range" = none) (ha:PA X [a,b,c] ta) (hs:starEach [a,b,c] X.env=[(false,eval a X.env),(false,eval b X.env),(false,eval c X.env)]:=by rfl) (hs2:starEach [b,c] X.env=[(false,eval b X.env),(false,eval c X.env)]:=by rfl) :
  PI X tg (.Call (.Name "range" p) [a,b,c] [] pos) (zWJ ta):=by
 intro pins s σ H R I h
 refine Call_ (zKv I hg hm boot_range (PyProof.Rows.callWith_type1 (thn (ha pos pins s σ H _ I h) fun us s1 ⟨vs,H1,I1,r1,q1⟩=>?_) (by rw [hs,hs2]) (by rw [hs2];rfl)))
 obtain ⟨i,j,k,n,e,b,q⟩:=q1
 subst e
 cases r1 with
 | cons r rr =>
  cases rr with
  | cons r' rr =>
   cases rr with
   | cons r'' rr =>
    cases rr
    obtain ⟨t,rfl⟩:=r
    obtain ⟨t',rfl⟩:=r'
    obtain ⟨t'',rfl⟩:=r''
    exact call_range_3 (by have:=b.one;omega) (zRn I1 b q) (.inl b.room)
end
section
variable {σ : St} {H : Hp} {Q : VK} {D : Ends} {K : W.Frag}
def zTT (g:TG) (tb:TS) (D:Ends) (σ:St) (vs:List V) (H:Hp):Prop:=∃ (i j c:Int) (n:Nat),vs=[.int i,.int j,.int c]/\zQ8 i j c n /\ ∃ W:Nat->Nat->St->Hp->Prop,(∃ m,W 0 m σ H) /\ ∀ k m σ H,W k m σ H ->
 ((ItP i c n).stop k H/\D.nx σ H)\/((ItP i c n).go k H /\ ∃ N:St->Hp->Prop,(∀ σ' H',N σ' H' -> ∃ m',m' < m/\W (k+1) m' σ' H') /\ ∀ x H',(ItP i c n).yld k H x H'->g x σ H' fun σ2 H2=>tb { D with nx:=N,ct:=N,bk:=D.nx } σ2 H2)
theorem zPc {ta:TA} {g:TG} {tb:TS} (h:ta σ H (zTT g tb D σ)):tFor (zWJ ta) g tb D σ H:=h
theorem zOX {g:TG} {tb:TS} {i j c:Int} (hb:zQ8 i j c n) (Pv:Nat->St->Hp->Prop) (h0:Pv 0 σ H)
  (hs : ∀ k σ H,k < n->Pv k σ H->g (.int (i+k*c)) σ H fun σ2 H2=>tb { D with nx:=Pv (k+1),ct:=Pv (k+1),bk:=D.nx } σ2 H2) (hd : ∀ σ H,Pv n σ H->D.nx σ H):zTT g tb D σ [.int i,.int j,.int c] H:=by
 refine ⟨i,j,c,n,rfl,hb,fun k m σ H=>m=n - k/\k<=n/\Pv k σ H,⟨n,by simp,Nat.zero_le _,h0⟩,?_⟩
 rintro k m σ H ⟨rfl,hi,p⟩
 by_cases hlt:k < n
 ·refine .inr ⟨hlt,Pv (k+1),fun σ' H' p'=>⟨n - (k+1),by omega,rfl,hlt,p'⟩,fun x H' y=>?_⟩
  obtain ⟨e,y⟩:=y
  subst e y
  exact hs k σ _ hlt p
 ·have e:k=n:=by omega
  subst e
  exact .inl ⟨Nat.le_refl _,hd σ H p⟩
end
def tOrE (t1 t2:TE):TE:=fun σ H Q=>t1 σ H Q\/t2 σ H Q
section
variable {X : Cx} {σ : St} {H : Hp} {Q : VK} {K : W.Frag} {w : World}
variable {t1 t2:TE}
theorem zCb {e:Expr} (h1:PE X e t1) (h2:PE X e t2):PE X e (tOrE t1 t2):=fun pins s σ H Q I h=>h.elim (h1 pins s σ H Q I) (h2 pins s σ H Q I)
theorem zHK (h:t1 σ H Q):tOrE t1 t2 σ H Q:=.inl h
theorem zD5 (h:t2 σ H Q):tOrE t1 t2 σ H Q:=.inr h
def KDi (w:World) (K:W.Frag) (d:Addr) (z:Str) (b:Bool):Prop:=(d == sysModules)=false /\ ∃ (es:Array DictEntry) (n:Nat),K.lookup d=some { cls:=.type "dict", data:=.dict es n }/\(∀ e,e ∈ es -> ∃ k,Value.isStrOf k e.key=true/\e.hash=hashStr w k)/\(findBy Value.isStrOf es z).isSome=b
def rInD (w:World) (K:W.Frag):R2:=fun x y H Q=>∃ d z b,x = .str z/\y = .ref d/\KDi w K d z b/\Q (.bl b) H
end
section
variable {X : Cx} {CX : CXT} {k : Nat} {f : Addr} {fd : FuncData} {ps : List Str} {sp : Sp} {dvs : List V} {ds : List Value} {E : XK} {x : Str} {p pos : Pos} {e a : Expr} {es : List Expr} {te ta : TE} {t : TA}
structure zVB (P:Program) (w:World) (K:W.Frag) (mg:Str->Option Value) (base:Heap) (CX:CXT) (k:Nat) (f:Addr) (fd:FuncData) (ps:List Str) (sp:Sp):Prop where
 len : ∀ vs H Q E,sp vs H Q E->vs.length=ps.length
 run : ∀ (A:Around) (outer:List Env) (s:Shared) (H:Hp) (args:Args) (us:List Value) (vs:List V) (Q:VK) (E:XK),0 < s.toks->Room k A->Env0 P w K mg base A outer s H->BindsTo s fd args (ps.zip us)->Vals vs us->sp vs H Q E ->
  codeAny (model P w) A (.call (.ref f) args) (CR CX outer P w H s Q E) s
end
def PSsp (X:Cx) (st:List Stmt) (t:TS):Prop:=
 ∀ (pins:List (Addr × Obj)) (s:Shared) (σ:St) (H:Hp) (D:Ends),0 < s.toks->Inv X pins σ H s->t D σ H->wpAny (model X.prog X.w) X.A (execs st X.env) (SP X pins D) X.xe s
theorem PSsp.nox {st:List Stmt} {t:TS} (h:PSsp X.nox st t):PSsp X st t:=fun pins s σ H D l I hw =>
 wpAny_mono (h pins s σ H D l (I.wish _) hw) (fun _ _ q=>q.unwish) fun _ _ z=>False.elim z
theorem zVB.mono {CX:CXT} {j:Nat} (F:zVB P w K mg base CX j f fd ps sp) (h:j<=k) :
  zVB P w K mg base CX k f fd ps sp:=⟨F.len,fun A outer s H args us vs Q E l hr=>F.run A outer s H args us vs Q E l (hr.mono h)⟩
def Df (K:W.Frag) (x:Str) (st:Stmt) (f:Addr):Prop:=∃ (oc:Value) (od:Option Addr) (kV dc pm:Value) (an:Option Addr) (cd ct:Value) (sl:Array (Option Value)),W.nsIn K mainGlobals x=some (some (.ref f)) /\
 K.lookup f=some ⟨oc,od,.func (W.fnOf x x (zAy st) (zAi st) (zAH st) .none kV dc pm an cd ct),sl⟩/\W.codeIn K cd x=true/\W.keepIn K (.ref f)=true
def Dm (K:W.Frag) (q m:Str) (st:Stmt) (dV:Value) (C f:Addr):Prop:=∃ (oc:Value) (od:Option Addr) (kV dc pm:Value) (an:Option Addr) (cd ct:Value) (sl:Array (Option Value)),W.findIn K (.ref C) m=some (some (.ref f)) /\
 K.lookup f=some ⟨oc,od,.func (W.fnOf m q (zAy st) (zAi st) (zAH st) dV kV dc pm an cd ct),sl⟩/\W.codeIn K cd q=true/\W.keepIn K (.ref f)=true/\W.isFn K (.ref f)=true
section
variable {K : W.Frag} {x q m : Str} {st : Stmt} {f C t : Addr} {oc dV : Value} {od : Option Addr} {kV dc pm : Value} {an : Option Addr} {cd ct : Value} {sl : Array (Option Value)}
theorem zYG (a:W.nsIn K mainGlobals x=some (some (.ref f))) (l:K.lookup f=some ⟨oc,od,.func (W.fnOf x x (zAy st) (zAi st) (zAH st) .none kV dc pm an cd ct),sl⟩) (c:W.codeIn K cd x=true) (k:W.keepIn K (.ref f)=true):Df K x st f:=⟨oc,od,kV,dc,pm,an,cd,ct,sl,a,l,c,k⟩
theorem zYF (a:W.findIn K (.ref C) m=some (some (.ref f))) (l:K.lookup f=some ⟨oc,od,.func (W.fnOf m q (zAy st) (zAi st) (zAH st) dV kV dc pm an cd ct),sl⟩) (c:W.codeIn K cd q=true) (k:W.keepIn K (.ref f)=true) (n:W.isFn K (.ref f)=true):Dm K q m st dV C f:=⟨oc,od,kV,dc,pm,an,cd,ct,sl,a,l,c,k,n⟩
variable {h : Heap} {mg : Str -> Option Value} {P : Program} {w : World} {base : Heap} {k : Nat} {ps : List Str} {sp : Sp} {CX : CXT}
end
section
variable {X : Cx} {H : Hp} {Q : VK}
def zSs:List V->Hp->VK->Prop:=fun xs H Q=>∃ l:List Nat,xs=[.str (T l)]/\l.length<=1000 /\ ∀ p,H p=none->Q (.ref p) (upd H p (.lst (tsV (l.map fun c=>[c]))))
theorem zKj : ∀ {l:List Nat} {us:List Value},us.length=l.length->(∀ (j:Nat) v,us[j]? = some v -> ∃ c u,l[j]? = some c/\v = .str ⟨#[c]⟩ u)->Vals (tsV (l.map fun c=>[c])) us
 | [],[],_,_=>.nil
 | [],_::_,h,_=>by simp at h
 | _::_,[],h,_=>by simp at h
 | c::l,v::us,h,hv=>by
  obtain ⟨c',u,e,hu⟩:=hv 0 v rfl
  cases e
  exact .cons ⟨u,hu⟩ (zKj (by simpa using h) fun j w hw=>hv (j+1) w hw)
theorem zIX (hc:X.calm=true):zFV X (.type "list") zSs:=by
 intro pins s σ H xs us Q I r h
 obtain ⟨l,rfl,hz,q⟩:=h
 obtain ⟨u,rfl,rx⟩:=zNP r
 obtain ⟨t,rfl⟩:=rx
 have hl:(T l).cps.size=l.length:=by simp [T]
 refine call_list_str (I.ok.hd hc) (T l) t (fun h' tk acc' c' kp e hacc=>?_) (by rw [hl];exact Nat.le_of_lt (zBm (by omega)))
 refine ⟨.ref s.heap.objs.size,_,I.laid (t':=tk) kp (Nat.le_refl _) (show zD7 X.prog X.w _ h' _ (.lst (tsV (l.map fun c=>[c]))) from ⟨?_,acc'.toList,c',?_,by rw [Array.toArray_toList];exact e⟩),rfl,q _ (I.hok.fresh (Nat.le_refl _))⟩
 ·unfold tsV;rw [length_map,length_map];exact Nat.le_of_lt (zBm (by omega))
 ·refine zKj (by rw [Array.length_toList,hacc.1,hl]) fun j v hv=>?_
  obtain ⟨c,u,e1,e2⟩:=hacc.2 j v (by rw [<- Array.getElem?_toList];exact hv)
  exact ⟨c,u,by simpa [T] using e1,e2⟩
theorem zVR (hz:l.length<=1000) (q : ∀ p H',Same H H'->H p=none->H' p=some (.lst (tsV (l.map fun c=>[c])))->Q (.ref p) H'):zSs [.str (T l)] H Q:=⟨l,rfl,hz,fun p hp=>q p _ (zBi (Same.refl _) hp) hp zAU⟩
end
section
variable {K : W.Frag} {σ : St} {H : Hp} {Q : VK} {is : List Nat} {tt : TT} {te : TE}
theorem zBM {a:Addr} {xs:List V} (hx:SqL K H a xs) (hz:xs.length<=sizeLine) (Pv:Nat->List V->Hp->Prop) (h0:Pv 0 [] H) (hl : ∀ i ys H,i<=xs.length->Pv i ys H->SqL K H a xs/\ys.length<=i)
  (hs : ∀ i x ys H,xs[i]? = some x->i < xs.length->Pv i ys H->tt (some x::is.map fun j=>(σ[j]?).getD none) H fun ok H2=>if ok=true then te (some x::is.map fun j=>(σ[j]?).getD none) H2 fun y H3=>NxC xs.length Pv i (ys++[y]) H3 else NxC xs.length Pv i ys H2)
  (hd : ∀ ys H,Pv xs.length ys H -> ∀ p H',Same H H'->H p=none->H' p=some (.lst ys)->Q (.ref p) H'):zSu K is tt te σ Q (.ref a) H:=by
 refine ⟨a,rfl,⟨xs,hx⟩,fun i m ys H=>m=xs.length - i/\i<=xs.length/\Pv i ys H,⟨xs.length,by simp,Nat.zero_le _,h0⟩,?_⟩
 rintro i m ys H ⟨rfl,hi,p⟩
 obtain ⟨q,ly⟩:=hl i ys H hi p
 refine ⟨by omega,?_⟩
 by_cases hlt:i < xs.length
 ·refine .inr ⟨⟨xs,xs[i],q,by simp [hlt]⟩,by omega,fun x H' y=>?_⟩
  obtain ⟨e,y⟩:=y
  subst e
  exact hs i x ys _ (y xs q) hlt p
 ·have e:i=xs.length:=by omega
  subst e
  exact .inl ⟨⟨xs,q,Nat.le_refl _⟩,fun p' hp=>hd ys H p p' _ (zDk hp _) hp zAU⟩
end
section
variable {σ : St} {H : Hp} {Q : VK} {is : List Nat} {tt : TT} {te : TE}
def zQ0 (is:List Nat) (tt:TT) (te:TE) (σ:St) (Q:VK) (vs:List V) (H:Hp):Prop:=∃ i j:Int,vs=[.int i,.int j]/\(-(2 ^ 62)<=i/\i < 2 ^ 62 /\ -(2 ^ 62)<=j/\j < 2 ^ 62)/\zPU is tt te σ Q (Itr i (j - i).toNat) H
theorem zR8 {ta:TA} (h:ta σ H (zQ0 is tt te σ Q)):zPY is (zU5 ta) tt te σ H Q:=h
theorem zQd {lo hi:Int} (hb : -(2 ^ 62)<=lo/\lo < 2 ^ 62 /\ -(2 ^ 62)<=hi/\hi < 2 ^ 62) (hz:(hi - lo).toNat<=sizeLine) (Pv:Nat->List V->Hp->Prop) (h0:Pv 0 [] H) (hl : ∀ i ys H,i<=(hi - lo).toNat->Pv i ys H->ys.length<=i)
  (hs : ∀ i ys H,i < (hi - lo).toNat->Pv i ys H->tt (some (.int (lo+i))::is.map fun j=>(σ[j]?).getD none) H fun ok H2=>if ok=true then te (some (.int (lo+i))::is.map fun j=>(σ[j]?).getD none) H2 fun y H3=>NxC (hi - lo).toNat Pv i (ys++[y]) H3 else NxC (hi - lo).toNat Pv i ys H2)
  (hd : ∀ ys H,Pv (hi - lo).toNat ys H -> ∀ p H',Same H H'->H p=none->H' p=some (.lst ys)->Q (.ref p) H'):zQ0 is tt te σ Q [.int lo,.int hi] H:=by
 refine ⟨lo,hi,rfl,hb,fun i m ys H=>m=(hi - lo).toNat - i/\i<=(hi - lo).toNat/\Pv i ys H,⟨(hi - lo).toNat,by simp,Nat.zero_le _,h0⟩,?_⟩
 rintro i m ys H ⟨rfl,hi',p⟩
 have ly:=hl i ys H hi' p
 refine ⟨by omega,?_⟩
 by_cases hlt:i < (hi - lo).toNat
 ·refine .inr ⟨hlt,by omega,fun x H' y=>?_⟩
  obtain ⟨e,y⟩:=y
  subst e y
  exact hs i ys _ hlt p
 ·have e:i=(hi - lo).toNat:=by omega
  subst e
  exact .inl ⟨Nat.le_refl _,fun p' hp=>hd ys H p p' _ (zDk hp _) hp zAU⟩
end
set_option maxHeartbeats 400000
def tHd (K:W.Frag) (C1 C2:Addr) (ts:TS):Addr->TS:=fun C D σ H=>W.exmAny K (.ref C) [.ref C1,.ref C2]=some true/\ts D σ H
section
variable {X : Cx} {c1 c2 : Str} {C1 C2' : Addr} {ts : TS} {th : Addr -> TS} {p1 p2 tpos hpos : Pos} {kk : Nat} {b₀ : Stmt} {suite : List Stmt} {rest : List ExceptHandler}
theorem zRw (g1:Gl X c1) (m1:X.mg c1=some (.ref C1)) (g2:Gl X c2) (m2:X.mg c2=some (.ref C2')) (hs : ∀ y,PSs (X.inExc y) (b₀::suite) ts)
  (d1:(c1 == ("__debug__" : Str))=false:=by decide) (d2:(c2 == ("__debug__" : Str))=false:=by decide) :
  PHs X (.ExceptHandler (some (.Tuple [.Name c1 p1,.Name c2 p2] kk tpos)) none (b₀::suite) hpos::rest) (tHd X.K C1 C2' ts):=by
 intro pins s σ H D y C B a0 fly I clo h
 obtain ⟨exm,q⟩:=h
 refine wpAny_handleBy_cons (codeAny_handlers_test ?_) (by intro q;cases q)
 refine wpAny_Tuple (wpAny_items_cons (zDH (I.inExc y) g1 m1 (wpAny_items_cons (zDH (I.inExc y) g2 m2 (wpAny_items_nil ⟨by size_fits,?_⟩) d2)) d1))
 have kp : ∀ b o,s.heap.get? b=some o->(s.heap.push { cls:=.type "tuple", data:=.seq [Value.ref C1,Value.ref C2'].toArray }).get? b=some o:=fun _ _ z=>Heap.get?_push_of_some _ z
 have ty2:W.Looks (model X.prog X.w) s.heap (typeOf (.ref y)) (.ref C):=(isx fly).ty
 refine (W.exm_tup2 (M:=model X.prog X.w) (I.kIn.keeps kp) (ty2.keeps kp) (Heap.get?_push_size s.heap rfl) exm).here ?_
 have up:s.heap.UpToSlots (s.heap.push { cls:=.type "tuple", data:=.seq [Value.ref C1,Value.ref C2'].toArray }):=Heap.UpToSlots.of_keeps kp
 have fly3:Heap.FlyingW B (X.env::X.outer) y (.ref C) a0 (s.heap.push { cls:=.type "tuple", data:=.seq [Value.ref C1,Value.ref C2'].toArray }):=by
  obtain ⟨f1,f2,f3,oe,vs,t,ot,ts,q1,q2,q3,q4,q5,q6,q7,q8,q9⟩:=fly
  exact ⟨fun b o z=>kp b o (f1 b o z),f2,f3.of_keeps fun b o z _=>⟨o,kp b o z,rfl⟩,oe,vs,t,ot,ts,kp _ _ q1,q2,q3,q4,q5,q6,kp _ _ q7,q8,q9⟩
 refine codeAny_handlers_suite (lands_againW fly3 fun h3 fly3' sm3=>?_)
 have I3:=clo h3 fly3'.1 (up.trans sm3)
 exact wpAny_mono (hs y pins _ σ H D (I3.inExc y) q) (fun f s6 sp6=>sp6.outExc I.ok) fun _ _ z=>z.elim
theorem r_Hd {C C2:Addr} {D:Ends} (e:W.exmAny K (.ref C) [.ref C1,.ref C2]=some true) (h:ts D σ H):tHd K C1 C2 ts C D σ H:=⟨e,h⟩
end
def kA {α:Type} (a b:Nat) (pl:List (Nat ⊕ α)) (us ws:List α):List α:=bif us.length == a && ws.length == b then pl.filterMap (fun | .inl i=>(us++ws)[i]? | .inr d=>some d) else []
inductive PR:List (Nat ⊕ V)->List (Nat ⊕ Value)->Prop
 | nil:PR [] []
 | pos (i:Nat) {p:List (Nat ⊕ V)} {q:List (Nat ⊕ Value)}:PR p q->PR (.inl i::p) (.inl i::q)
 | dv {v:V} {u:Value} {p:List (Nat ⊕ V)} {q:List (Nat ⊕ Value)} (r:RelV v u):PR p q->PR (.inr v::p) (.inr u::q)
theorem relS {y:Str} {t:Tok} (h:x=y):RelV (.str y) (.str x t):=⟨t,by rw [h]⟩
set_option maxHeartbeats 4000000
section
variable {X : Cx}
theorem zIx : ∀ {us:List Value} {ss:List Str},StrsAre us ss->Vals (ss.map V.str) us
 | _,_,.nil=>.nil
 | _,_,.cons n t h=>.cons ⟨t,rfl⟩ (zIx h)
theorem zKk : ∀ {us:List Value} {ss:List Str},Vals (ss.map V.str) us->StrsAre us ss
 | _,[],.nil=>.nil
 | _,s::ss,.cons ⟨t,e⟩ h=>by subst e;exact .cons s t (zKk h)
def zOM (K:W.Frag):List V->Hp->VK->Prop:=fun xs H Q=>∃ (p:Addr) (ss:List Str),xs=[.ref p]/\SqL K H p (ss.map V.str)/\ss.length < 64 /\
 ∀ (ms:List Str) (q:Addr) (H':Hp),ms.Perm ss->sortedS ms=true->Same H H'->H' q=some (.lst (ms.map V.str))->Q (.ref q) H'
theorem zLz:zFV X (.builtin "sorted") (zOM X.K):=by
 intro pins s σ H xs us Q I r h
 obtain ⟨p,ss,rfl,hq,h64,q⟩:=h
 obtain ⟨u,rfl,rx⟩:=zNP r
 cases rx
 obtain ⟨its,r',pl,hz⟩:=I.list hq
 have hl:=r'.length
 rw [length_map] at hl hz
 refine sorted_strs pl.isList (zKk r') (by omega) fun out ms hi hp hs=>?_
 obtain ⟨e,he⟩:=sortedAll_at s.heap its out
 have hms:ms.length=ss.length:=hp.length_eq
 have hf:H (s.heap.objs.size+1)=none:=I.hok.fresh (Nat.le_succ _)
 refine ⟨.ref (s.heap.objs.size+1),upd H (s.heap.objs.size+1) (.lst (ms.map V.str)),I.laid (t':=s.toks) (fun _ _=>sortedAll_old) (Nat.le_succ _) ⟨by rw [length_map,hms];exact hz,out.toList,e,zIx hi,?_⟩,rfl,q _ _ _ hp hs (zDk hf _) zAU⟩
 rw [he,Array.toArray_toList]
theorem zV6 {ms:List Str} {cs:List (List Nat)} (h:ms.Perm (cs.map T)) : ∃ ds:List (List Nat),ds.Perm cs/\ms=ds.map T:=by
 refine ⟨ms.map Lt,?_,?_⟩
 ·have:=h.map Lt
  rwa [map_map,show (Lt ∘ T)=id from funext fun l=>Lt_T l,List.map_id] at this
 ·rw [map_map]
  have hm : ∀ s ∈ ms,(T ∘ Lt) s=s:=fun s hs=>by
   obtain ⟨c,_,rfl⟩:=List.mem_map.mp (h.mem_iff.mp hs)
   show T (Lt (T c))=T c
   rw [Lt_T]
  conv=>lhs;rw [<- List.map_id ms]
  exact (List.map_congr_left hm).symm
theorem zPg {Q:VK} {p:Addr} {cs:List (List Nat)} (h:H p=some (.lst (tsV cs))) (h64:cs.length < 64) (q : ∀ (ds:List (List Nat)) (q:Addr) (H':Hp),ds.Perm cs->Same H H'->H' q=some (.lst (tsV ds))->Q (.ref q) H'):zOM K [.ref p] H Q:=by
 have e:tsV cs=(cs.map T).map V.str:=by unfold tsV;rw [map_map];rfl
 refine ⟨p,cs.map T,rfl,SqL.of (e ▸ h),by rw [length_map];exact h64,fun ms q' H' hp _ g e'=>?_⟩
 obtain ⟨ds,hd,rfl⟩:=zV6 hp
 exact q ds q' H' hd g (by rw [e'];unfold tsV;rw [map_map];rfl)
end
end L2
namespace Pw
open PySem L2
open List (append_assoc append_cancel_left append_nil drop_left filterMap_cons filter_append filter_cons filter_cons_of_neg filter_cons_of_pos filter_nil flatten_cons getD_eq_getElem?_getD getElem?_eq_getElem getElem?_map getElem_mem length_append length_cons length_drop length_filter_le length_map length_nil length_range length_replicate length_singleton length_take map_append map_cons map_map map_nil mem_cons mem_cons_of_mem mem_cons_self mem_filter mem_map mem_of_getElem? mem_of_mem_take nil_append not_mem_nil range_succ take_append_drop take_left take_length take_nil take_of_length_le take_succ take_take)
open Nat (eq_zero_or_pos le_total le_trans min_eq_left min_eq_right pow_le_pow_right sub_zero)
open Int (emod_lt_of_pos emod_nonneg eq_ofNat_of_zero_le mul_le_mul mul_nonneg natAbs_natCast pow_succ toNat_natCast)
set_option maxHeartbeats 4000000
seal PySem.Sem.wp
def top (i:Nat):Stmt:=PySem.Challenge.pw_padwright_k63_whole_texts_of_looks.main.body.getD i (.Pass ⟨0,0,0,0⟩)
abbrev zEt:Stmt:=top 15
theorem zDA:zAP ["number", "base", "text", "left"] ["number", "base"] (zAH zEt):=⟨rfl,rfl,rfl,by decide +kernel,rfl,by decide +kernel,by decide +kernel⟩
abbrev zFd:Stmt:=top 16
theorem zDq:zAP ["text", "base", "number", "sign", "worth"] ["text", "base"] (zAH zFd):=⟨rfl,rfl,rfl,by decide +kernel,rfl,by decide +kernel,by decide +kernel⟩
abbrev zH1:Stmt:=top 19
theorem zO0:zAP ["style", "below"] ["style", "below"] (zAH zH1):=⟨rfl,rfl,rfl,by decide +kernel,rfl,by decide +kernel,by decide +kernel⟩
abbrev zJP:Stmt:=top 20
theorem zMR:zAP ["body", "style", "below", "ends"] ["body", "style", "below"] (zAH zJP):=⟨rfl,rfl,rfl,by decide +kernel,rfl,by decide +kernel,by decide +kernel⟩
abbrev zG3:Stmt:=top 21
theorem zFz:zAP ["core", "style", "below", "ends", "body"] ["core", "style"] (zAH zG3):=⟨rfl,rfl,rfl,by decide +kernel,rfl,by decide +kernel,by decide +kernel⟩
abbrev zBd:Stmt:=top 22
theorem zE8:zAP ["body"] ["body"] (zAH zBd):=⟨rfl,rfl,rfl,by decide +kernel,rfl,by decide +kernel,by decide +kernel⟩
abbrev zIC:Stmt:=top 25
theorem zPE:zAP ["text", "size", "mark"] ["text", "size", "mark"] (zAH zIC):=⟨rfl,rfl,rfl,by decide +kernel,rfl,by decide +kernel,by decide +kernel⟩
abbrev zFr:Stmt:=top 26
theorem zI4:zAP ["text", "size", "mark", "plain"] ["text", "size", "mark"] (zAH zFr):=⟨rfl,rfl,rfl,by decide +kernel,rfl,by decide +kernel,by decide +kernel⟩
abbrev zEC:Stmt:=top 27
theorem zCU:zAP ["text", "size", "between", "parts", "end"] ["text", "size", "between"] (zAH zEC):=⟨rfl,rfl,rfl,by decide +kernel,rfl,by decide +kernel,by decide +kernel⟩
abbrev zH4:Stmt:=top 29
theorem zHH:zAP ["number", "base", "places", "point", "size", "mark", "text", "cut", "whole"] ["number", "base", "places", "point", "size", "mark"] (zAH zH4):=⟨rfl,rfl,rfl,by decide +kernel,rfl,by decide +kernel,by decide +kernel⟩
abbrev zFy:Stmt:=top 30
theorem zEq:zAP ["body", "base", "places", "point", "size", "mark", "cut", "whole", "number"] ["body", "base", "places", "point", "size", "mark"] (zAH zFy):=⟨rfl,rfl,rfl,by decide +kernel,rfl,by decide +kernel,by decide +kernel⟩
abbrev zF5:Stmt:=top 31
theorem zI5:zAP ["body", "places", "point", "cut"] ["body", "places", "point"] (zAH zF5):=⟨rfl,rfl,rfl,by decide +kernel,rfl,by decide +kernel,by decide +kernel⟩
abbrev zIH:Stmt:=top 33
theorem zKs:zAP ["length", "width", "side", "lacks"] ["length", "width", "side"] (zAH zIH):=⟨rfl,rfl,rfl,by decide +kernel,rfl,by decide +kernel,by decide +kernel⟩
abbrev zJO:Stmt:=top 34
theorem zMr:zAP ["text", "width", "fill", "side", "pads"] ["text", "width", "fill", "side"] (zAH zJO):=⟨rfl,rfl,rfl,by decide +kernel,rfl,by decide +kernel,by decide +kernel⟩
abbrev zDE:Stmt:=top 35
theorem zJK:zAP ["lead", "rest", "width", "fill"] ["lead", "rest", "width", "fill"] (zAH zDE):=⟨rfl,rfl,rfl,by decide +kernel,rfl,by decide +kernel,by decide +kernel⟩
abbrev zHB:Stmt:=top 37
theorem zEX:zAP ["text", "width", "fill", "side", "plains", "length", "ahead", "plain"] ["text", "width", "fill", "side"] (zAH zHB):=⟨rfl,rfl,rfl,by decide +kernel,rfl,by decide +kernel,by decide +kernel⟩
abbrev zCa:Stmt:=top 38
theorem zIB:zAP ["text", "lead", "width", "fill"] ["text", "lead", "width", "fill"] (zAH zCa):=⟨rfl,rfl,rfl,by decide +kernel,rfl,by decide +kernel,by decide +kernel⟩
abbrev zBp:Stmt:=zB3 (top 40) 0
theorem zI7:zAP ["self", "width", "fill", "side", "strict"] ["self", "width", "fill", "side", "strict"] (zAH zBp):=⟨rfl,rfl,rfl,by decide +kernel,rfl,by decide +kernel,by decide +kernel⟩
abbrev zDU:Stmt:=zB3 (top 40) 1
theorem zJz:zAP ["self", "value", "core"] ["self", "value"] (zAH zDU):=⟨rfl,rfl,rfl,by decide +kernel,rfl,by decide +kernel,by decide +kernel⟩
abbrev zJd:Stmt:=zB3 (top 40) 2
theorem zPb:zAP ["self", "text"] ["self", "text"] (zAH zJd):=⟨rfl,rfl,rfl,by decide +kernel,rfl,by decide +kernel,by decide +kernel⟩
abbrev zA0:Stmt:=zB3 (top 40) 3
theorem zET:zAP ["self", "core"] ["self", "core"] (zAH zA0):=⟨rfl,rfl,rfl,by decide +kernel,rfl,by decide +kernel,by decide +kernel⟩
abbrev zCF:Stmt:=zB3 (top 40) 5
theorem zHU:zAP ["self", "core", "lead"] ["self", "core"] (zAH zCF):=⟨rfl,rfl,rfl,by decide +kernel,rfl,by decide +kernel,by decide +kernel⟩
abbrev zBo:Stmt:=zB3 (top 40) 6
theorem zJH:zAP ["self", "text"] ["self", "text"] (zAH zBo):=⟨rfl,rfl,rfl,by decide +kernel,rfl,by decide +kernel,by decide +kernel⟩
abbrev zHG:Stmt:=top 42
theorem zNg:zAP ["thing"] ["thing"] (zAH zHG):=⟨rfl,rfl,rfl,by decide +kernel,rfl,by decide +kernel,by decide +kernel⟩
abbrev zHF:Stmt:=top 43
theorem zFp:zAP ["base", "times", "power", "turn"] ["base", "times"] (zAH zHF):=⟨rfl,rfl,rfl,by decide +kernel,rfl,by decide +kernel,by decide +kernel⟩
abbrev zCw:Stmt:=top 44
theorem zBl:zAP ["one", "other", "greater", "lesser", "rest"] ["one", "other"] (zAH zCw):=⟨rfl,rfl,rfl,by decide +kernel,rfl,by decide +kernel,by decide +kernel⟩
abbrev zGx:Stmt:=top 46
theorem zHc:zAP ["top", "bottom", "divisor"] ["top", "bottom"] (zAH zGx):=⟨rfl,rfl,rfl,by decide +kernel,rfl,by decide +kernel,by decide +kernel⟩
abbrev zEB:Stmt:=top 47
theorem zKZ:zAP ["thing"] ["thing"] (zAH zEB):=⟨rfl,rfl,rfl,by decide +kernel,rfl,by decide +kernel,by decide +kernel⟩
abbrev zH9:Stmt:=top 49
theorem zFL:zAP ["value", "base", "places", "way", "top", "bottom", "below", "rest"] ["value", "base", "places", "way"] (zAH zH9):=⟨rfl,rfl,rfl,by decide +kernel,rfl,by decide +kernel,by decide +kernel⟩
abbrev zHy:Stmt:=top 50
theorem zPL:zAP ["below", "rest", "bottom", "way"] ["below", "rest", "bottom", "way"] (zAH zHy):=⟨rfl,rfl,rfl,by decide +kernel,rfl,by decide +kernel,by decide +kernel⟩
abbrev zEl:Stmt:=top 51
theorem zLA:zAP ["k", "base", "places"] ["k", "base", "places"] (zAH zEl):=⟨rfl,rfl,rfl,by decide +kernel,rfl,by decide +kernel,by decide +kernel⟩
abbrev zAe:Stmt:=zB3 (top 53) 0
theorem zGF:zAP ["self", "figures", "places", "base", "sign", "size", "mark", "point", "way", "width", "fill", "side", "strict"] ["self", "figures", "places", "base", "sign", "size", "mark", "point", "way", "width", "fill", "side", "strict"] (zAH zAe):=⟨rfl,rfl,rfl,by decide +kernel,rfl,by decide +kernel,by decide +kernel⟩
abbrev zBS:Stmt:=zB3 (top 53) 1
theorem zC9:zAP ["self", "value", "k", "body"] ["self", "value"] (zAH zBS):=⟨rfl,rfl,rfl,by decide +kernel,rfl,by decide +kernel,by decide +kernel⟩
abbrev zAt:Stmt:=zB3 (top 53) 2
theorem zC6:zAP ["self", "text", "ks"] ["self", "text"] (zAH zAt):=⟨rfl,rfl,rfl,by decide +kernel,rfl,by decide +kernel,by decide +kernel⟩
abbrev zA8:Stmt:=zB3 (top 53) 5
theorem zGQ:zAP ["self", "core"] ["self", "core"] (zAH zA8):=⟨rfl,rfl,rfl,by decide +kernel,rfl,by decide +kernel,by decide +kernel⟩
abbrev zAh:Stmt:=zB3 (top 53) 6
theorem zEf:zAP ["self", "number"] ["self", "number"] (zAH zAh):=⟨rfl,rfl,rfl,by decide +kernel,rfl,by decide +kernel,by decide +kernel⟩
abbrev zAs:Stmt:=zB3 (top 53) 7
theorem zC7:zAP ["self", "text", "below", "ks"] ["self", "text", "below"] (zAH zAs):=⟨rfl,rfl,rfl,by decide +kernel,rfl,by decide +kernel,by decide +kernel⟩
abbrev zA4:Stmt:=zB3 (top 53) 8
theorem zCL:zAP ["self", "text", "below", "lead", "cores"] ["self", "text", "below"] (zAH zA4):=⟨rfl,rfl,rfl,by decide +kernel,rfl,by decide +kernel,by decide +kernel⟩
abbrev zAk:Stmt:=zB3 (top 53) 9
theorem zB0:zAP ["self", "core", "below", "parts", "number"] ["self", "core", "below"] (zAH zAk):=⟨rfl,rfl,rfl,by decide +kernel,rfl,by decide +kernel,by decide +kernel⟩
abbrev zAq:Stmt:=zB3 (top 55) 0
theorem zHR:zAP ["self", "signs", "least", "most", "width", "fill", "side", "strict"] ["self", "signs", "least", "most", "width", "fill", "side", "strict"] (zAH zAq):=⟨rfl,rfl,rfl,by decide +kernel,rfl,by decide +kernel,by decide +kernel⟩
abbrev zBn:Stmt:=zB3 (top 55) 1
theorem zJC:zAP ["self", "value"] ["self", "value"] (zAH zBn):=⟨rfl,rfl,rfl,by decide +kernel,rfl,by decide +kernel,by decide +kernel⟩
abbrev zA5:Stmt:=zB3 (top 55) 2
theorem zGE:zAP ["self", "text"] ["self", "text"] (zAH zA5):=⟨rfl,rfl,rfl,by decide +kernel,rfl,by decide +kernel,by decide +kernel⟩
abbrev zBJ:Stmt:=zB3 (top 55) 5
theorem zHn:zAP ["self", "thing"] ["self", "thing"] (zAH zBJ):=⟨rfl,rfl,rfl,by decide +kernel,rfl,by decide +kernel,by decide +kernel⟩
abbrev zAf:Stmt:=zB3 (top 56) 0
theorem zGI:zAP ["self", "names", "width", "fill", "side", "strict"] ["self", "names", "width", "fill", "side", "strict"] (zAH zAf):=⟨rfl,rfl,rfl,by decide +kernel,rfl,by decide +kernel,by decide +kernel⟩
abbrev zBT:Stmt:=zB3 (top 56) 1
theorem zH0:zAP ["self", "value"] ["self", "value"] (zAH zBT):=⟨rfl,rfl,rfl,by decide +kernel,rfl,by decide +kernel,by decide +kernel⟩
abbrev zAr:Stmt:=zB3 (top 56) 2
theorem zC5:zAP ["self", "text", "cores"] ["self", "text"] (zAH zAr):=⟨rfl,rfl,rfl,by decide +kernel,rfl,by decide +kernel,by decide +kernel⟩
abbrev zHD:Stmt:=top 58
theorem zNm:zAP ["form"] ["form"] (zAH zHD):=⟨rfl,rfl,rfl,by decide +kernel,rfl,by decide +kernel,by decide +kernel⟩
abbrev zD4:Stmt:=top 59
theorem zFA:zAP ["form", "lead", "rest", "length", "pads"] ["form", "lead", "rest"] (zAH zD4):=⟨rfl,rfl,rfl,by decide +kernel,rfl,by decide +kernel,by decide +kernel⟩
abbrev zEp:Stmt:=top 60
theorem zD8:zAP ["form", "cores"] ["form"] (zAH zEp):=⟨rfl,rfl,rfl,by decide +kernel,rfl,by decide +kernel,by decide +kernel⟩
abbrev zDj:Stmt:=top 61
theorem zGn:zAP ["form", "cores"] ["form"] (zAH zDj):=⟨rfl,rfl,rfl,by decide +kernel,rfl,by decide +kernel,by decide +kernel⟩
abbrev zCP:Stmt:=top 62
theorem zBr:zAP ["form", "every", "rows", "length", "first"] ["form"] (zAH zCP):=⟨rfl,rfl,rfl,by decide +kernel,rfl,by decide +kernel,by decide +kernel⟩
abbrev zCE:Stmt:=top 63
theorem zBh:zAP ["form", "every", "rows", "length", "noughts"] ["form"] (zAH zCE):=⟨rfl,rfl,rfl,by decide +kernel,rfl,by decide +kernel,by decide +kernel⟩
abbrev zDf:Stmt:=top 64
theorem zGM:zAP ["form", "row", "below", "ends"] ["form", "row", "below"] (zAH zDf):=⟨rfl,rfl,rfl,by decide +kernel,rfl,by decide +kernel,by decide +kernel⟩
abbrev zEu:Stmt:=top 65
theorem zFw:zAP ["form", "row", "cut", "cells"] ["form", "row"] (zAH zEu):=⟨rfl,rfl,rfl,by decide +kernel,rfl,by decide +kernel,by decide +kernel⟩
abbrev zDI:Stmt:=top 66
theorem zDs:zAP ["row", "size", "mark", "cells", "part"] ["row", "size", "mark"] (zAH zDI):=⟨rfl,rfl,rfl,by decide +kernel,rfl,by decide +kernel,by decide +kernel⟩
abbrev zOA:Stmt:=top 68
theorem zU6:zAP ["look", "text"] ["look", "text"] (zAH zOA):=⟨rfl,rfl,rfl,by decide +kernel,rfl,by decide +kernel,by decide +kernel⟩
abbrev zGu:Stmt:=top 69
theorem zJo:zAP ["form", "value", "core"] ["form", "value"] (zAH zGu):=⟨rfl,rfl,rfl,by decide +kernel,rfl,by decide +kernel,by decide +kernel⟩
abbrev zG4:Stmt:=top 70
theorem zNd:zAP ["form", "at", "text"] ["form", "at", "text"] (zAH zG4):=⟨rfl,rfl,rfl,by decide +kernel,rfl,by decide +kernel,by decide +kernel⟩
abbrev zEA:Stmt:=top 72
theorem zKY:zAP ["_law_script", "_law_k"] ["_law_script", "_law_k"] (zAH zEA):=⟨rfl,rfl,rfl,by decide +kernel,rfl,by decide +kernel,by decide +kernel⟩
abbrev zFo:Stmt:=top 73
theorem zMh:zAP ["_law_thing"] ["_law_thing"] (zAH zFo):=⟨rfl,rfl,rfl,by decide +kernel,rfl,by decide +kernel,by decide +kernel⟩
abbrev zHI:Stmt:=top 74
theorem zFa:zAP ["_law_cell", "_law_salt", "_law_many", "_law_one", "_law_two"] ["_law_cell", "_law_salt", "_law_many"] (zAH zHI):=⟨rfl,rfl,rfl,by decide +kernel,rfl,by decide +kernel,by decide +kernel⟩
abbrev zF6:Stmt:=top 75
theorem zMX:zAP [] [] (zAH zF6):=⟨rfl,rfl,rfl,by decide +kernel,rfl,by decide +kernel,by decide +kernel⟩
abbrev zGv:Stmt:=top 76
theorem zJu:zAP ["_law_cell", "_law_salt", "_law_some"] ["_law_cell", "_law_salt"] (zAH zGv):=⟨rfl,rfl,rfl,by decide +kernel,rfl,by decide +kernel,by decide +kernel⟩
abbrev zCY:Stmt:=top 77
theorem zAc:zAP ["_law_cell", "_law_other", "_law_small", "_law_figures", "_law_places", "_law_base", "_law_sign_here", "_law_size", "_law_way", "_law_signs_here", "_law_widths", "_law_width", "_law_side", "_law_strict"] ["_law_cell", "_law_other", "_law_small"] (zAH zCY):=⟨rfl,rfl,rfl,by decide +kernel,rfl,by decide +kernel,by decide +kernel⟩
abbrev zCZ:Stmt:=top 78
theorem zAa:zAP ["_law_spec_here", "_law_figures", "_law_places", "_law_base", "_law_sign_here", "_law_size", "_law_mark", "_law_point", "_law_way", "_law_width", "_law_fill", "_law_side", "_law_strict"] ["_law_spec_here"] (zAH zCZ):=⟨rfl,rfl,rfl,by decide +kernel,rfl,by decide +kernel,by decide +kernel⟩
abbrev zDG:Stmt:=top 79
theorem zBD:zAP ["_law_cell", "_law_other", "_law_small", "_law_start", "_law_step", "_law_signs_here", "_law_least", "_law_most", "_law_fill", "_law_width", "_law_side"] ["_law_cell", "_law_other", "_law_small"] (zAH zDG):=⟨rfl,rfl,rfl,by decide +kernel,rfl,by decide +kernel,by decide +kernel⟩
abbrev zFc:Stmt:=top 80
theorem zBZ:zAP ["_law_cell", "_law_many", "_law_signs_here", "_law_base", "_law_way", "_law_at", "_law_size", "_law_step", "_law_found", "_law_k", "_law_sign_here", "_law_turn"] ["_law_cell", "_law_many"] (zAH zFc):=⟨rfl,rfl,rfl,by decide +kernel,rfl,by decide +kernel,by decide +kernel⟩
abbrev zCX:Stmt:=top 81
theorem zBx:zAP ["_law_cell", "_law_other", "_law_small", "_law_names_here", "_law_fill", "_law_width", "_law_side"] ["_law_cell", "_law_other", "_law_small"] (zAH zCX):=⟨rfl,rfl,rfl,by decide +kernel,rfl,by decide +kernel,by decide +kernel⟩
abbrev zHC:Stmt:=top 82
theorem zBU:zAP ["_law_spec_here", "_law_signs_here", "_law_least", "_law_most", "_law_width", "_law_fill", "_law_side", "_law_strict", "_law_names_here"] ["_law_spec_here"] (zAH zHC):=⟨rfl,rfl,rfl,by decide +kernel,rfl,by decide +kernel,by decide +kernel⟩
abbrev zGz:Stmt:=top 83
theorem zJf:zAP ["_law_cell", "_law_other", "_law_small", "_law_way"] ["_law_cell", "_law_other", "_law_small"] (zAH zGz):=⟨rfl,rfl,rfl,by decide +kernel,rfl,by decide +kernel,by decide +kernel⟩
abbrev zG8:Stmt:=top 84
theorem zEW:zAP ["_law_look", "_law_cell", "_law_way", "_law_text_here", "_law_k", "_law_place"] ["_law_look", "_law_cell", "_law_way"] (zAH zG8):=⟨rfl,rfl,rfl,by decide +kernel,rfl,by decide +kernel,by decide +kernel⟩
abbrev zDl:Stmt:=top 85
theorem zJj:zAP ["_law_spec_here", "_law_value"] ["_law_spec_here", "_law_value"] (zAH zDl):=⟨rfl,rfl,rfl,by decide +kernel,rfl,by decide +kernel,by decide +kernel⟩
abbrev zFu:Stmt:=top 86
theorem zGr:zAP ["_law_form_here", "_law_spec_here", "_law_looks", "_law_at", "_law_text_here", "_law_value", "_law_found"] ["_law_form_here", "_law_spec_here", "_law_looks", "_law_at", "_law_text_here"] (zAH zFu):=⟨rfl,rfl,rfl,by decide +kernel,rfl,by decide +kernel,by decide +kernel⟩
abbrev zFj:Stmt:=top 87
theorem zGK:zAP ["_law_form_here", "_law_looks", "_law_text_here", "_law_some", "_law_k"] ["_law_form_here", "_law_looks", "_law_text_here"] (zAH zFj):=⟨rfl,rfl,rfl,by decide +kernel,rfl,by decide +kernel,by decide +kernel⟩
abbrev zNA:Stmt:=top 88
theorem zHW:zAP ["_law_script", "_law_k", "_law_cell", "_law_spec_here", "_law_form_here", "_law_looks", "_law_step", "_law_at", "_law_last", "_law_text_here"] ["_law_script"] (zAH zNA):=⟨rfl,rfl,rfl,by decide +kernel,rfl,by decide +kernel,by decide +kernel⟩
structure Blt (mg:Str->Option Value):Prop where
 vAA:mg "len" = none
 vAB:mg "range" = none
 vAC:mg "isinstance" = none
 vAD:mg "str" = none
 vAE:mg "max" = none
 vAF:mg "min" = none
 vAG:mg "int" = none
 vAH:mg "bool" = none
 vAI:mg "abs" = none
 vAJ:mg "list" = none
 vAK:mg "tuple" = none
 vAL:mg "all" = none
 vAM:mg "sorted" = none
section
variable {P : Program} {w : World} {K : W.Frag} {mg : Str -> Option Value} {base : Heap}
local macro_rules | `(tactic| walk_at "sd")=>`(tactic| first | omega | (unfold CPos;omega) | (unfold CNn;omega) | (unfold CNz;omega) | (unfold zXV GL;omega) | (unfold zX1 GL;omega) | (unfold zWO CMul zRD GL;omega))
local macro_rules | `(tactic| walk_at "hp")=>`(tactic| first | assumption | (refine Same.at (by assumption) ?_;walk_at "hp") | exact zAU)
local macro_rules | `(tactic| walk_at "sq")=>`(tactic| first | assumption | (refine Same.seq (by assumption) ?_;walk_at "sq") | exact SqL.of (by walk_at "hp"))
local macro_rules | `(tactic| walk_at "sm")=>`(tactic| first | assumption | exact Same.refl _ | (refine Same.trans ?_ (by assumption);walk_at "sm"))
local macro_rules | `(tactic| walk_at "rdc")=>`(tactic| fail "no callee")
local macro_rules | `(tactic| walk_at "rd1")=>`(tactic| first
 | (with_reducible refine zUa ?_)
 | (with_reducible refine zUg ?_)
 | (with_reducible refine zYB ?_)
 | (with_reducible refine zXn ?_)
 | (with_reducible refine zWx ?_)
 | (with_reducible refine zWQ ?_)
 | ((with_reducible refine' zXg ?e ?_);(case e=>rfl))
 | (with_reducible refine r_c ?_)
 | (with_reducible refine r_op ?_)
 | (with_reducible refine r_I0 ?_)
 | ((with_reducible refine' r_I ?hc ?_);(case hc=>walk_at "sd"))
 | (with_reducible refine zVl ?_)
 | (with_reducible refine r_tB ?_)
 | (with_reducible refine zWo ?_)
 | (with_reducible refine zX3 ?_)
 | (with_reducible refine zXi ?_)
 | (with_reducible refine iteT ?_)
 | (with_reducible refine iteF ?_)
 | (with_reducible refine i_nT ?_)
 | (with_reducible refine i_nF ?_)
 | ((with_reducible refine' i_dP ?hc ?_);(case hc=>omega))
 | ((with_reducible refine' i_dN ?hc ?_);(case hc=>omega))
 | ((with_reducible refine' zXb ?hc ?_);(case hc=>omega))
 | ((with_reducible refine' zX4 ?hc ?_);(case hc=>omega))
 | (with_reducible refine i_d (fun hc=>?_) (fun hc=>?_))
 | (with_reducible refine i_nd (fun hc=>?_) (fun hc=>?_))
 | (with_reducible refine i_b (fun hc=>?_) (fun hc=>?_))
 | (with_reducible refine zWf ?_)
 | (with_reducible refine zUV ?_)
 | (with_reducible refine zWL ?_)
 | (with_reducible refine r_cb ?_)
 | (with_reducible refine r_un ?_)
 | (with_reducible refine r_U ?_)
 | (with_reducible refine zX7 ?_)
 | (with_reducible refine r_or ?_)
 | (with_reducible refine zXe ?_)
 | (with_reducible refine zWV ?_)
 | (with_reducible refine zXj ?_)
 | (with_reducible refine zWc ?_)
 | (with_reducible refine zUX ?_)
 | (with_reducible refine zXy ?_)
 | (with_reducible refine zVT ?_)
 | ((with_reducible refine' zWe ?hz ?_);(case hz=>exact small (by simp only [length_cons,length_nil];decide));intro p' H' g' e')
 | (with_reducible refine zRo ?_)
 | (with_reducible refine zSO ?_)
 | ((with_reducible refine' zSJ ?h ?_);(case h=>walk_at "hp"))
 | ((with_reducible refine' zXu ?h ?e ?_);(case h=>walk_at "hp");(case e=>rfl))
 | (with_reducible refine zWT (fun k' hk'=>?_))
 | (with_reducible refine zUf (fun k' hk'=>?_))
 | (with_reducible refine zUR (fun k' hk'=>?_))
 | ((with_reducible refine' zUe ?h ?_);(case h=>walk_at "hp"))
 | ((with_reducible refine' zS1 ?h ?_);(case h=>walk_at "sq"))
 | (with_reducible refine zXl ?_)
 | (with_reducible refine zVa ?_)
 | (with_reducible refine zW6 ?_)
 | ((with_reducible refine' zWi ?h ?n ?_);(case h=>walk_at "hp");(case n=>rfl))
 | (with_reducible refine zVP ?_)
 | (with_reducible refine zV7 ?_)
 | (with_reducible refine zVn ?_)
 | walk_at "rdc"
 | fail "rd stops")
local macro_rules | `(tactic| walk_at "rd")=>`(tactic| repeat' walk_at "rd1")
local macro_rules | `(tactic| walk_at "st")=>`(tactic| dsimp only [L2.start,List.map,List.length,List.replicate,List.append,HAppend.hAppend,Append.append,Nat.reduceAdd,Nat.reduceSub])
local macro_rules | `(tactic| walk_at "rdc")=>`(tactic| first
 | (with_reducible refine zUF ?_)
 | (with_reducible refine zRz ?_)
 | (with_reducible refine zWk ?_)
 | (with_reducible refine zVW ?_)
 | (with_reducible refine zT3 ?_)
 | (with_reducible refine zUd ?_)
 | (with_reducible refine zVz ?_)
 | (with_reducible refine zXq ?_)
 | ((with_reducible refine' zXz ?h ?_);(case h=>walk_at "sq");intro p' H' g' e')
 | ((with_reducible refine' zOf (b:=true) ?e ?_);(case e=>exact decide_eq_true rfl))
 | ((with_reducible refine' zOf (b:=false) ?e ?_);(case e=>exact (by decide +kernel)))
 | fail "rd2 stops")
local macro_rules | `(tactic| walk_at "odd")=>`(tactic| first | assumption | exact .non | exact .bl _ | exact .str _ | exact .lst (by walk_at "hp") | exact .tup (by walk_at "hp") | exact .dct (by walk_at "hp") | (refine Odd.same ?_ (by assumption);walk_at "odd"))
local macro_rules | `(tactic| walk_at "rdc")=>`(tactic| first
 | (with_reducible refine zRQ ?_)
 | (with_reducible refine zVk ?_)
 | ((with_reducible refine' zSn ?h ?_);(case h=>walk_at "sq"))
 | fail "rd3 stops")
local macro_rules | `(tactic| walk_at "tl")=>`(tactic| first | omega | (simp only [Lt_T,length_append,length_replicate,length_cons,length_nil,length_take,length_drop];omega) | (with_unfolding_all decide))
local macro_rules | `(tactic| walk_at "rdc")=>`(tactic| first
 | ((with_reducible refine' zTr ?hz ?_);(case hz=>walk_at "tl"))
 | ((with_reducible refine' zS4 ?hz ?_);(case hz=>walk_at "tl"))
 | ((with_reducible refine' zVF ?hz ?_);(case hz=>walk_at "tl"))
 | ((with_reducible refine' zS2 ?hz ?_);(case hz=>walk_at "tl"))
 | ((with_reducible refine' zJ0 (z:=Str.ofString _) 94 ?hn ?hz ?h0 ?h1 ?_);(case hn=>decide +kernel);(case hz=>decide);(case h0=>omega);(case h1=>omega);intro c' hc')
 | ((with_reducible refine' zJ0 (z:=Str.ofString _) 16 ?hn ?hz ?h0 ?h1 ?_);(case hn=>decide +kernel);(case hz=>decide);(case h0=>omega);(case h1=>omega);intro c' hc')
 | ((with_reducible refine' zJ0 (z:=Str.ofString _) 8 ?hn ?hz ?h0 ?h1 ?_);(case hn=>decide +kernel);(case hz=>decide);(case h0=>omega);(case h1=>omega);intro c' hc')
 | ((with_reducible refine' zJ0 (z:=Str.ofString _) 32 ?hn ?hz ?h0 ?h1 ?_);(case hn=>decide +kernel);(case hz=>decide);(case h0=>omega);(case h1=>omega);intro c' hc')
 | ((with_reducible refine' zJ0 (z:=Str.ofString _) 13 ?hn ?hz ?h0 ?h1 ?_);(case hn=>decide +kernel);(case hz=>decide);(case h0=>omega);(case h1=>omega);intro c' hc')
 | ((with_reducible refine' zJ0 (z:=Str.ofString _) 17 ?hn ?hz ?h0 ?h1 ?_);(case hn=>decide +kernel);(case hz=>decide);(case h0=>omega);(case h1=>omega);intro c' hc')
 | ((with_reducible refine' zJ0 (z:=Str.ofString _) 5 ?hn ?hz ?h0 ?h1 ?_);(case hn=>decide +kernel);(case hz=>decide);(case h0=>omega);(case h1=>omega);intro c' hc')
 | ((with_reducible refine' zVw ?hz ?h0 ?h1 ?_);(case hz=>walk_at "tl");(case h0=>omega);(case h1=>walk_at "tl"))
 | ((with_reducible refine' zRa ?hz ?h0 ?h1 ?_);(case hz=>walk_at "tl");(case h0=>omega);(case h1=>walk_at "tl"))
 | ((with_reducible refine' zUs ?hz ?h1 ?_);(case hz=>walk_at "tl");(case h1=>walk_at "tl"))
 | ((with_reducible refine' zUq ?hz ?h0 ?_);(case hz=>walk_at "tl");(case h0=>omega))
 | ((with_reducible refine' zVL ?hz ?h0 ?_);(case hz=>walk_at "tl");(case h0=>omega))
 | ((with_reducible refine' zSg ?hz ?h0 ?h1 ?_);(case hz=>walk_at "tl");(case h0=>omega);(case h1=>omega))
 | ((with_reducible refine' zRH ?h0 ?h1 ?_);(case h0=>omega);(case h1=>omega))
 | (with_reducible refine zSM ?_)
 | ((with_reducible refine' zOf (b:=true) ?e ?_);(case e=>exact decide_eq_true rfl))
 | ((with_reducible refine' zOf (b:=false) ?e ?_);(case e=>exact (by decide +kernel)))
 | ((with_reducible refine' zUL (b:=true) ?e ?_);(case e=>exact decide_eq_true rfl))
 | ((with_reducible refine' zUL (b:=false) ?e ?_);(case e=>exact (by decide +kernel)))
 | (with_reducible refine zTG ?_)
 | (with_reducible refine zSt ?_)
 | (with_reducible refine zTU ?_)
 | (with_reducible refine zQa ?_)
 | (with_reducible refine zVk ?_)
 | (with_reducible refine zX9 ?_)
 | (with_reducible refine zQO ?_)
 | fail "rd4 stops")
local macro_rules | `(tactic| walk_at "rdc")=>`(tactic| first
 | (with_reducible refine zVj ?_)
 | ((with_reducible refine' zOf (x:=T _) (b:=true) ?e ?_);(case e=>exact decide_eq_true rfl))
 | (with_reducible refine zTG ?_)
 | ((with_reducible refine' zUL (x:=T _) (b:=true) ?e ?_);(case e=>exact decide_eq_true rfl))
 | (with_reducible refine zSt ?_)
 | fail "rd5 stops")
local macro_rules | `(tactic| walk_at "rdc")=>`(tactic| first
 | (with_reducible refine zV4 ?_)
 | ((with_reducible refine' zXW ?h ?h0 ?h1 ?_);(case h=>walk_at "sq");(case h0=>omega);(case h1=>omega))
 | fail "rd6 stops")
local macro_rules | `(tactic| walk_at "asc")=>`(tactic| first | assumption | exact Asc.nil | exact Asc.one (by omega) | exact Asc.app (by walk_at "asc") (by walk_at "asc") | exact Asc.take (by walk_at "asc") _ | exact Asc.drop (by walk_at "asc") _ | exact Asc.rep (by walk_at "asc") _)
local macro_rules | `(tactic| walk_at "rdc")=>`(tactic| first
 | fail "rd7 stops")
local macro_rules | `(tactic| walk_at "rdc")=>`(tactic| first
 | (with_reducible refine zVC ?_)
 | fail "rd8 stops")
local macro_rules | `(tactic| walk_at "sqt")=>`(tactic| first | assumption | exact SqT.same (by assumption) (by assumption) | exact SqT.same (SqT.same (by assumption) (by assumption)) (by assumption) | exact SqT.of (by walk_at "hp"))
local macro_rules | `(tactic| walk_at "rdc")=>`(tactic| first
 | ((with_reducible refine' zUP ?h ?e ?_);(case h=>walk_at "sqt");(case e=>rfl))
 | fail "rd9 stops")
local macro_rules | `(tactic| walk_at "rdc")=>`(tactic| first
 | (with_reducible refine zWd ?_)
 | ((with_reducible refine' zYA ?h ?_);(case h=>first | assumption | omega))
 | (with_reducible refine zT9 ?_)
 | fail "rd10 stops")
local macro_rules | `(tactic| walk_at "rdc")=>`(tactic| first
 | ((with_reducible refine' zXY ?h0 ?h1 ?_);(case h0=>omega);(case h1=>omega))
 | fail "rd11 stops")
local macro_rules | `(tactic| walk_at "rdc")=>`(tactic| first
 | ((with_reducible refine' zWm ?h ?_);(case h=>walk_at "sq"))
 | ((with_reducible refine' zUu ?h ?_);(case h=>walk_at "sq"))
 | ((with_reducible refine' zU0 ?h ?h0 ?_);(case h=>walk_at "sq");(case h0=>omega))
 | ((with_reducible refine' zOS ?h ?_);(case h=>walk_at "sq");intro l' H' g' n' e')
 | (with_reducible refine zR2 ?_)
 | ((with_reducible refine' zSn ?h ?_);(case h=>walk_at "sq"))
 | (with_reducible refine zV4 ?_)
 | fail "rd12 stops")
local macro_rules | `(tactic| walk_at "rdc")=>`(tactic| first
 | (with_reducible refine zXh ?_)
 | fail "rd13 stops")
local macro_rules | `(tactic| walk_at "fm")=>`(tactic| first | assumption | (refine' zAT.same (by assumption) ?_;walk_at "fm"))
local macro_rules | `(tactic| walk_at "fld2")=>`(tactic| fail "no own field")
local macro_rules | `(tactic| walk_at "fld")=>`(tactic| first | (exact zAT.width (by walk_at "fm")) | (exact zAT.fill (by walk_at "fm")) | (exact zAT.side (by walk_at "fm")) | (exact zAT.strict (by walk_at "fm")) | walk_at "fld2")
local macro_rules | `(tactic| walk_at "wk")=>`(tactic| repeat (first | exact Wk.nil | refine Wk.one ?_ | refine Wk.any ?_))
local macro_rules | `(tactic| walk_at "rdc")=>`(tactic| first
 | (with_reducible refine zXr ?_)
 | (with_reducible refine zRQ ?_)
 | ((with_reducible refine' zWY ?h ?_);(case h=>walk_at "fld"))
 | (with_reducible refine zHS ?_)
 | ((with_reducible refine' zE4 ?h ?_);(case h=>walk_at "ins"))
 | (with_reducible refine zUA ?_)
 | ((with_reducible refine' r_wk ?h ?_);(case h=>walk_at "wk"))
 | (with_reducible refine zXI ?_)
 | (with_reducible refine zWz ?_)
 | (with_reducible refine zVE ?_)
 | (with_reducible refine zXN ?_)
 | ((with_reducible refine' zXv ?h ?_);(case h=>walk_at "sq"))
 | fail "rd14 stops")
local macro_rules | `(tactic| walk_at "rd1")=>`(tactic| first | ((with_reducible refine' zVU ?h ?e ?_);(case h=>walk_at "sq");(case e=>rfl)) | fail "no written place")
def lowS (t b:Int):Int:=if b < 0 then -(Int.gcd t b:Int) else (Int.gcd t b:Int)
def low1 (t b:Int):Int:=t.fdiv (lowS t b)
def low2 (t b:Int):Int:=b.fdiv (lowS t b)
variable {g:Int}
theorem zSY {l:Int} (hg:0<=g) (hl:0 < l):Int.gcd l (g % l)=Int.gcd g l:=by
 rw [Int.gcd_comm g l]
 have e:g % l=g+l*(-(g / l)):=by
  have:=Int.emod_add_mul_ediv g l
  rw [Int.mul_neg];omega
 rw [e,Int.gcd_add_mul_left_right]
theorem zQv (t b:Int):lowS t b ∣ t:=by
 unfold lowS;split
 ·exact (Int.neg_dvd).mpr (Int.gcd_dvd_left ..)
 ·exact Int.gcd_dvd_left ..
theorem zQ1 (t b:Int):lowS t b ∣ b:=by
 unfold lowS;split
 ·exact (Int.neg_dvd).mpr (Int.gcd_dvd_right ..)
 ·exact Int.gcd_dvd_right ..
variable {t b:Int}
theorem zK0 (h:0 < b):0 < lowS t b:=by
 unfold lowS;rw [if_neg (by omega)]
 have:0 < Int.gcd t b:=Int.gcd_pos_of_ne_zero_right _ (by omega)
 omega
theorem zNu (t b:Int):low1 t b*lowS t b=t:=by
 unfold low1;exact Int.fdiv_mul_cancel (zQv t b)
theorem zK1 (t b:Int):low2 t b*lowS t b=b:=by
 unfold low2;exact Int.fdiv_mul_cancel (zQ1 t b)
theorem zK7 (h:0 < b):0 < low2 t b:=by
 have h1:=zK0 (t:=t) h
 have h2:=zK1 t b
 rcases Int.lt_trichotomy 0 (low2 t b) with h3 | h3 | h3
 ·exact h3
 ·rw [<- h3] at h2;simp at h2;omega
 ·have:=Int.mul_neg_of_neg_of_pos h3 h1;omega
theorem zUN (h:0 < b):low2 t b<=b:=by
 have h1:=zK0 (t:=t) h
 have h2:=zK1 t b
 have h3:=zK7 (t:=t) h
 have:=Int.mul_le_mul_of_nonneg_left (show 1<=lowS t b by omega) (Int.le_of_lt h3)
 omega
variable {L:Int}
theorem zU7 (h:0 < b) (h1 : -L < t) (h2:t < L) : -L < low1 t b/\low1 t b < L:=by
 have h3:=zK0 (t:=t) h
 have h4:=zNu t b
 rcases Int.lt_or_le (low1 t b) 0 with h5 | h5
 ·have:=Int.mul_le_mul_of_nonneg_left (show 1<=lowS t b by omega) (show 0 <= -low1 t b by omega)
  simp only [Int.neg_mul,Int.mul_one] at this;omega
 ·have:=Int.mul_le_mul_of_nonneg_left (show 1<=lowS t b by omega) h5
  omega
theorem zW5 (h:0 < b) (h':b < L) (h1 : -L < t) (h2:t < L) : -L < low1 t b/\low1 t b < L/\0 < low2 t b/\low2 t b < L:=by
 have a1:=zU7 h h1 h2
 have a2:=zK7 (t:=t) h
 have a3:=zUN (t:=t) h
 exact ⟨a1.1,a1.2,a2,by omega⟩
variable {a:Int}
theorem zVM {l:Int} (h1:(0<=a/\g=a)\/(a < 0/\g = -a)) (h2:(0<=b/\l=b)\/(b < 0/\l = -b)):0<=g/\0<=l/\Int.gcd g l=Int.gcd a b:=by
 rcases h1 with ⟨h,rfl⟩ | ⟨h,rfl⟩ <;> rcases h2 with ⟨h',rfl⟩ | ⟨h',rfl⟩ <;> simp only [Int.gcd_neg,Int.neg_gcd,and_true] <;> omega
theorem zWq {x y M:Int} (h1 : -L < x) (h2:x < L) (h3:0 < y) (h4:y < M) : -(L*M) < x*y/\x*y < L*M:=by
 have hL:0 < L:=by omega
 have hM:0 < M:=by omega
 have e : ∀ z:Int,0<=z->z < L->z*y < L*M:=fun z p q =>
  Int.lt_of_le_of_lt (Int.mul_le_mul_of_nonneg_right (Int.le_of_lt q) (Int.le_of_lt h3)) (Int.mul_lt_mul_of_pos_left h4 hL)
 rcases Int.lt_or_le x 0 with p | p
 ·have a1:=e (-x) (by omega) (by omega)
  have a2:=Int.mul_pos hL hM
  have a3:=mul_nonneg (show 0 <= -x by omega) (Int.le_of_lt h3)
  rw [Int.neg_mul] at a1 a3;omega
 ·have a1:=e x p h2
  have a2:=Int.mul_pos hL hM
  have a3:=mul_nonneg p (Int.le_of_lt h3)
  omega
def GrB (a b:Int):Prop:=-10000000000000000000000000000000000000000000000000000000000000000000000000000000000000000000000000000000000000000000000000000000000000000000000000000000000000000000000000000000000000000000000 < a/\a < 10000000000000000000000000000000000000000000000000000000000000000000000000000000000000000000000000000000000000000000000000000000000000000000000000000000000000000000000000000000000000000000000/\0 < b/\b < 10000000000000000000000000000000000000000000000000000000000000000000000000000000000000000000000000000000000000000000000000000000000000000000000000000000000000000000000000000000000000000000000
def Way (w:Str):Prop:=w = "down" \/ w = "up" \/ w = "cut" \/ w = "near" \/ w = "even"
def upB (w:Str) (be re bo:Int):Bool:=if w = "down" then false else if w = "up" then true else if w = "cut" then decide (be < 0) else if 2*re=bo then (decide (w = "near") || decide (be % 2=1)) else decide (2*re > bo)
def grid (w:Str) (a b P:Int):Int:=if 0 < a*P % b/\upB w (a*P / b) (a*P % b) b=true then a*P / b+1 else a*P / b
variable {be re bo:Int}
theorem zUH:upB "down" be re bo=false:=by unfold upB;rw [if_pos rfl]
theorem zX8:upB "up" be re bo=true:=by unfold upB;rw [if_neg (by decide +kernel),if_pos rfl]
theorem zWs:upB "cut" be re bo=decide (be < 0):=by unfold upB;rw [if_neg (by decide +kernel),if_neg (by decide +kernel),if_pos rfl]
theorem zUT (h:2*re=bo):upB "near" be re bo=true:=by unfold upB;rw [if_neg (by decide +kernel),if_neg (by decide +kernel),if_neg (by decide +kernel),if_pos h,decide_eq_true rfl];rfl
theorem zSP (h : ¬ 2*re=bo):upB "near" be re bo=decide (2*re > bo):=by unfold upB;rw [if_neg (by decide +kernel),if_neg (by decide +kernel),if_neg (by decide +kernel),if_neg h]
theorem zVG (h:2*re=bo):upB "even" be re bo=decide (be % 2=1):=by unfold upB;rw [if_neg (by decide +kernel),if_neg (by decide +kernel),if_neg (by decide +kernel),if_pos h,decide_eq_false (by decide +kernel)];rfl
theorem zSL (h : ¬ 2*re=bo):upB "even" be re bo=decide (2*re > bo):=by unfold upB;rw [if_neg (by decide +kernel),if_neg (by decide +kernel),if_neg (by decide +kernel),if_neg h]
theorem zSi {b:Int} (h1:2<=b) (h2:b<=16) : ∀ n:Nat,1<=b ^ n/\b ^ n<=16 ^ n
 | 0=>by simp
 | n+1=>by
  obtain ⟨p,q⟩:=zSi h1 h2 n
  rw [pow_succ,pow_succ]
  have a1:=mul_le_mul p (show 1<=b by omega) (by decide) (by omega)
  have a2:=mul_le_mul q h2 (by omega) (by omega)
  omega
variable {n m:Nat}
theorem zQk (h:n<=m):(16:Int) ^ n<=16 ^ m:=by
 induction h with
 | refl=>exact Int.le_refl _
 | step h ih =>
  rename_i m
  have:=(zSi (b:=16) (by decide) (by decide) m).1
  rw [pow_succ];omega
theorem pw6 (h1:2<=b) (h2:b<=16) (h3:t<=6):1<=b ^ t.toNat/\b ^ t.toNat<=16777216:=by
 have a:=zSi h1 h2 t.toNat
 have b:=zQk (n:=t.toNat) (m:=6) (by omega)
 have c:(16:Int) ^ 6=16777216:=by decide
 omega
theorem pw60 (h1:2<=b) (h2:b<=16) (h3:n<=60):1<=b ^ n/\b ^ n<=1766847064778384329583297500742918515827483896875618958121606201292619776:=by
 have a:=zSi h1 h2 n
 have b:=zQk (n:=n) (m:=60) (by omega)
 have c:(16:Int) ^ 60=1766847064778384329583297500742918515827483896875618958121606201292619776:=by decide +kernel
 omega
theorem zX5 (t:Int) (h:0 < b):t / b*b<=t/\t < (t / b+1)*b/\t / b*b=t - t % b/\0<=t % b/\t % b < b:=by
 have e:=Int.emod_add_mul_ediv t b
 have m0:=emod_nonneg t (show b≠0 by omega)
 have m1:=emod_lt_of_pos t h
 rw [Int.add_mul,Int.one_mul,Int.mul_comm (t / b) b]
 omega
def zDc (K:W.Frag):Sp:=fun vs H Q _=>∃ b t:Int,vs=[.int b,.int t]/\2<=b/\b<=16/\0<=t/\t<=60/\Q (.int (b ^ t.toNat)) H
variable {H:Hp} {Q:VK} {E:XK}
theorem zO8 (h1:2<=b) (h2:b<=16) (h3:0<=t) (h4:t<=60) (q:Q (.int (b ^ t.toNat)) H):zDc K ([.int b,.int t]++[]) H Q E:=⟨b,t,rfl,h1,h2,h3,h4,q⟩
def zG7 (K:W.Frag):Sp:=fun vs H Q _=>∃ (be re bo:Int) (w:Str),vs=[.int be,.int re,.int bo,.str w]/\Way w/\0<=re/\re < 10000000000000000000000000000000000000000000000000000000000000000000000000000000000000000000000000000000000000000000000000000000000000000000000000000000000000000000000000000000000000000000000/\Q (.bl (upB w be re bo)) H
theorem zQK {w:Str} (h1:Way w) (h2:0<=re) (h3:re < 10000000000000000000000000000000000000000000000000000000000000000000000000000000000000000000000000000000000000000000000000000000000000000000000000000000000000000000000000000000000000000000000) (q:Q (.bl (upB w be re bo)) H):zG7 K ([.int be,.int re,.int bo,.str w]++[]) H Q E:=⟨be,re,bo,w,rfl,h1,h2,h3,q⟩
def zGw (K:W.Frag):Sp:=fun vs H Q _=>∃ (p:Addr) (a b B t:Int) (w:Str),vs=[.ref p,.int B,.int t,.str w]/\H p=some (.tup [.int a,.int b])/\GrB a b/\2<=B/\B<=16/\0<=t/\t<=6/\Way w/\Q (.int (grid w a b (B ^ t.toNat))) H
variable {p:Addr}
theorem zQo {B:Int} {w:Str} (h1:H p=some (.tup [.int a,.int b])) (h2:GrB a b) (h3:2<=B) (h4:B<=16) (h5:0<=t) (h6:t<=6) (h7:Way w) (q:Q (.int (grid w a b (B ^ t.toNat))) H):zGw K ([.ref p,.int B,.int t,.str w]++[]) H Q E:=⟨p,a,b,B,t,w,rfl,h1,h2,h3,h4,h5,h6,h7,q⟩
def zDg (K:W.Frag):Sp:=fun vs H Q _=>∃ (a:Addr) (ns:List Int) (k:Int),vs=[.ref a,.int k]/\SqL K H a (ns.map V.int)/\0<=k /\ ∀ v:Int,Q (.int v) H
variable {k:Int}
theorem zW9 {a:Addr} {ns:List Int} (h1:SqL K H a (ns.map V.int)) (h2:0<=k) (q : ∀ v:Int,Q (.int v) H):zDg K ([.ref a,.int k]++[]) H Q E:=⟨a,ns,k,rfl,h1,h2,q⟩
def pkA (c t:Int):Int:=(c % 1000000007+314159265+104729*t) % 998244353*((c % 1000000007+314159265+104729*t) % 998244353) % 998244353
def pk (c t m:Int):Int:=if 1000000000000000000 < c/\0 < c / 2 ^ (20*t).toNat then c / 2 ^ (20*t).toNat % 1048576 % m else (pkA c t+271828183)*(pkA c t / 1024+48271+t) % 2147483629 / 128 % m
def zBg (K:W.Frag):Sp:=fun vs H Q _=>∃ c t m:Int,vs=[.int c,.int t,.int m]/\0<=t/\0 < m/\(0<=pk c t m->pk c t m < m->Q (.int (pk c t m)) H)
variable {c:Int}
theorem zU8 {m:Int} (h1:0<=t) (h2:0 < m) (q:0<=pk c t m->pk c t m < m->Q (.int (pk c t m)) H):zBg K ([.int c,.int t,.int m]++[]) H Q E:=⟨c,t,m,rfl,h1,h2,q⟩
theorem zTa {m:Int} (h1:0<=t) (h2:0 < m) (q : ∀ v:Int,0<=v->v < m->Q (.int v) H):zBg K ([.int c,.int t,.int m]++[]) H Q E:=⟨c,t,m,rfl,h1,h2,q _⟩
def zEE (K:W.Frag):Sp:=fun vs H Q _=>∃ (n w:Int) (x:Str),vs=[.int n,.int w,.str x]/\Side x/\0<=n/\w<=40 /\ ∀ p H',Same H H'->H' p=some (.tup [.int (pA x n w),.int (pB x n w)])->Q (.ref p) H'
variable {x:Str}
theorem zQi {n w:Int} (h1:Side x) (h2:0<=n) (h3:w<=40) (q : ∀ p H',Same H H'->H' p=some (.tup [.int (pA x n w),.int (pB x n w)])->Q (.ref p) H'):zEE K ([.int n,.int w,.str x]++[]) H Q E:=⟨n,w,x,rfl,h1,h2,h3,q⟩
def zFO (K:W.Frag):Sp:=fun vs H Q _=>∃ (t:List Nat) (w:Int) (f:Nat) (x:Str),vs=[.str (T t),.int w,.str (T [f]),.str x]/\Side x/\t.length<=400/\w<=40 /\ ∀ H',Same H H'->Q (.str (T (pad t w f x))) H'
variable {f:Nat}
theorem zN3 {t:List Nat} {w:Int} (h1:Side x) (h2:t.length<=400) (h3:w<=40) (q : ∀ H',Same H H'->Q (.str (T (pad t w f x))) H'):zFO K ([.str (T t),.int w,.str (T [f]),.str x]++[]) H Q E:=⟨t,w,f,x,rfl,h1,h2,h3,q⟩
local macro_rules | `(tactic| walk_at "rdc")=>`(tactic| ((with_reducible refine' zTa ?h1 ?h2 ?_);(case h1=>omega);(case h2=>omega);intro v' h0' h1'))
local macro_rules | `(tactic| walk_at "rdc")=>`(tactic| ((with_reducible refine' zW9 ?h1 ?h2 ?_);(case h1=>walk_at "sq");(case h2=>omega);intro v'))
local macro_rules | `(tactic| walk_at "rdc")=>`(tactic| ((with_reducible refine' zQi ?h1 ?h2 ?h3 ?_);(case h1=>first | assumption | exact .inl rfl | exact .inr (.inl rfl) | exact .inr (.inr rfl));(case h2=>omega);(case h3=>omega);intro p' H' g' e'))
local macro_rules | `(tactic| walk_at "rdc")=>`(tactic| ((with_reducible refine' zN3 ?h1 ?h2 ?h3 ?_);(case h1=>first | assumption | exact .inl rfl | exact .inr (.inl rfl) | exact .inr (.inr rfl));(case h2=>walk_at "tl");(case h3=>omega);intro H' g'))
theorem zUQ {c:Nat} (h:c < 127) (q:Q (.int (fv c)) H):zQw (.str "0123456789abcdef") [.str (T [c])] H Q:=zQO (by rw [zVY h];exact q)
variable {i:Int}
theorem zXZ (h0:0<=i) (h1:i < 16) (q:Q (.str (T [fc i.toNat])) H):rIxS (.str "0123456789abcdef") (.int i) H Q:=by
 have e:(Lt "0123456789abcdef").length=16:=by decide +kernel
 exact zRa (by omega) h0 (by omega) q
theorem zUJ {n:Int} (h1:n < 16777216) (h2 : -16777216 < n) (q:Q (.str (T (List.replicate n.toNat 48))) H):zTl (.str "0") (.int n) H Q:=by
 have e:("0" : Str)=T [48]:=by decide +kernel
 rw [e];exact zRH h1 h2 q
local macro_rules | `(tactic| walk_at "rdc")=>`(tactic| ((with_reducible refine' zUJ ?h1 ?h2 ?_);(case h1=>omega);(case h2=>omega)))
local macro_rules | `(tactic| walk_at "rdc")=>`(tactic| ((with_reducible refine' zUQ ?h1 ?_);(case h1=>first | omega | assumption)))
local macro_rules | `(tactic| walk_at "rdc")=>`(tactic| ((with_reducible refine' zXZ ?h1 ?h2 ?_);(case h1=>omega);(case h2=>omega)))
def zD6 (K:W.Frag):Sp:=fun vs H Q _=>∃ n b:Int,vs=[.int n,.int b]/\0<=n/\2<=b/\b<=16/\n < 1766847064778384329583297500742918515827483896875618958121606201292619776/\(∀ l,l=figs b.toNat n.toNat->FigB b l->val b l=n->0 < l.length->l.length<=240->(l.getD 0 0=48->l=[48])->Q (.str (T l)) H)
theorem zMn {n:Int} (h1:0<=n) (h2:2<=b) (h3:b<=16) (h4:n < 1766847064778384329583297500742918515827483896875618958121606201292619776) (q:(∀ l,l=figs b.toNat n.toNat->FigB b l->val b l=n->0 < l.length->l.length<=240->(l.getD 0 0=48->l=[48])->Q (.str (T l)) H)):zD6 K ([.int n,.int b]++[]) H Q E:=⟨n,b,rfl,h1,h2,h3,h4,q⟩
local macro_rules | `(tactic| walk_at "rdc")=>`(tactic| ((with_reducible refine' zMn ?h1 ?h2 ?h3 ?h4 ?_);(case h1=>omega);(case h2=>omega);(case h3=>omega);(case h4=>omega);intro l' el' f1' f2' f3' f4' f5'))
abbrev Ce:=List (List Nat)
inductive Al {α:Type} (R:V->α->Prop):List V->List α->Prop
 | nil:Al R [] []
 | cons {v:V} {a:α} {vs:List V} {as:List α} (h:R v a) (t:Al R vs as):Al R (v::vs) (a::as)
section
variable {α : Type} {R R' : V -> α -> Prop}
variable {vs:List V} {as:List α}
theorem Al.len (h:Al R vs as):vs.length=as.length:=by
 induction h with
 | nil=>rfl
 | cons _ _ ih=>rw [length_cons,length_cons,ih]
theorem Al.imp (h:Al R vs as) (f : ∀ v a,R v a->R' v a):Al R' vs as:=by
 induction h with
 | nil=>exact .nil
 | cons h _ ih=>exact .cons (f _ _ h) ih
theorem Al.app {us:List V} {bs:List α} (h:Al R vs as) (k:Al R us bs):Al R (vs++us) (as++bs):=by
 induction h with
 | nil=>exact k
 | cons h _ ih=>exact .cons h ih
theorem Al.one {v:V} {a:α} (h:R v a):Al R [v] [a]:=.cons h .nil
theorem Al.rev (h:Al R vs as):Al R vs.reverse as.reverse:=by
 induction h with
 | nil=>exact .nil
 | cons h _ ih=>rw [List.reverse_cons,List.reverse_cons];exact ih.app (.one h)
theorem Al.get (h:Al R vs as) : ∀ {i:Nat} {v:V},vs[i]? = some v -> ∃ a,as[i]? = some a/\R v a:=by
 induction h with
 | nil=>intro i v e;simp at e
 | cons h _ ih =>
  intro i v e
  cases i with
  | zero=>cases e;exact ⟨_,rfl,h⟩
  | succ i=>exact ih e
theorem Al.filter {p:α->Bool} (h:Al R vs as) : ∃ us,Al R us (as.filter p):=by
 induction h with
 | nil=>exact ⟨[],.nil⟩
 | @cons v a vs as h _ ih =>
  obtain ⟨us,k⟩:=ih
  rw [filter_cons]
  cases p a with
  | false=>exact ⟨us,k⟩
  | true=>exact ⟨v::us,.cons h k⟩
end
variable {H':Hp}
theorem none_of {a:Addr} (g:Same H H') (n:H' a=none):H a=none:=by
 cases hl:H a with
 | none=>rfl
 | some u=>rw [g.at hl] at n;cases n
theorem zA9 (l:Ce):(tsV l).length=l.length:=length_map _
variable {l:Addr} {o:HO}
theorem zM2 {a:Addr} (n:H a=none) (e:H l=some o):a≠l:=fun z=>by rw [z,e] at n;cases n
theorem zEx (a b:List (List Nat)):tsV a++tsV b=tsV (a++b):=by unfold tsV;rw [map_append]
variable {v:V}
theorem zFg {l:Ce} {i:Nat} (h:(tsV l)[i]? = some v) : ∃ c,l[i]? = some c/\v = .str (T c):=by
 unfold tsV at h
 rw [getElem?_map] at h
 cases hc:l[i]? with
 | none=>rw [hc] at h;cases h
 | some c=>rw [hc] at h;cases h;exact ⟨c,rfl,rfl⟩
def RL (H:Hp) (P:Addr->Prop) (v:V) (cs:Ce):Prop:=∃ q,v = .ref q/\P q/\H q=some (.lst (tsV cs))
def pcA {α:Type} (a:List α) (z e:Nat):List (List α):=if h:e=0\/z=0 then [] else pcA a z (e - z)++[(a.take e).drop (e - z)]
termination_by e
decreasing_by omega
theorem zDe {α:Type} (a:List α) (z:Nat):pcA a z 0=[]:=by rw [pcA];simp
variable {z:Nat}
theorem zIg {α:Type} {a:List α} {e:Nat} (h1:e≠0) (h2:z≠0):pcA a z e=pcA a z (e - z)++[(a.take e).drop (e - z)]:=by rw [pcA];simp [h1,h2]
def zIG (K:W.Frag):Sp:=fun vs H Q _=>∃ (p:Addr) (a:Ce) (z:Int),vs=[.ref p,.int z,.int 0]/\H p=some (.lst (tsV a))/\0 < z/\z<=9/\a.length<=400 /\ ∀ l H' qs,Same H H'->H l=none->H' l=some (.lst qs)->Al (RL H' (fun q=>H q=none)) qs (pcA a z.toNat a.length)->Q (.ref l) H'
def zII (K:W.Frag):Sp:=fun vs H Q _=>∃ (a:List Nat) (z g:Int),vs=[.str (T a),.int z,.int g]/\0 < z/\z<=9/\0<=g/\g<=1/\a.length<=400 /\ ∀ p H',Same H H'->H' p=some (.lst ((pcs a z.toNat g.toNat a.length).map fun l=>V.str (T l)))->Q (.ref p) H'
def zC1 (K:W.Frag):Sp:=fun vs H Q E=>zII K vs H Q E\/zIG K vs H Q E
theorem zOr {a:List Nat} {z:Int} (h1:0 < z) (h2:z<=9) (h3:0<=g) (h4:g<=1) (h5:a.length<=400) (q : ∀ p H',Same H H'->H' p=some (.lst ((pcs a z.toNat g.toNat a.length).map fun l=>V.str (T l)))->Q (.ref p) H'):zC1 K ([.str (T a),.int z,.int g]++[]) H Q E:=.inl ⟨a,z,g,rfl,h1,h2,h3,h4,h5,q⟩
local macro_rules | `(tactic| walk_at "rdc")=>`(tactic| ((with_reducible refine' zOr ?h1 ?h2 ?h3 ?h4 ?h5 ?_);(case h1=>omega);(case h2=>omega);(case h3=>omega);(case h4=>omega);(case h5=>omega);intro p' H' g' e'))
def zFN (K:W.Frag):Sp:=fun vs H Q _=>∃ (a:List Nat) (z:Int) (m:Nat),vs=[.str (T a),.int z,.str (T [m])]/\0<=z/\z<=9/\a.length<=400 /\ ∀ H',Same H H'->Q (.str (T (gr z.toNat m a))) H'
theorem zQe {a:List Nat} {z:Int} (h1:0<=z) (h2:z<=9) (h5:a.length<=400) (q : ∀ H',Same H H'->Q (.str (T (gr z.toNat m a))) H'):zFN K ([.str (T a),.int z,.str (T [m])]++[]) H Q E:=⟨a,z,m,rfl,h1,h2,h5,q⟩
local macro_rules | `(tactic| walk_at "rdc")=>`(tactic| ((with_reducible refine' zQe ?h1 ?h2 ?h5 ?_);(case h1=>omega);(case h2=>omega);(case h5=>omega);intro H' g'))
def NumB (n b p:Int):Prop:=0<=n/\2<=b/\b<=16/\0<=p/\p<=6/\n.toNat < b.toNat ^ (40+p.toNat)
def bdI (n b p:Int) (pt:Nat) (z:Int) (m:Nat):List Nat:=bdy b.toNat p.toNat pt z.toNat m n.toNat
theorem NumB.big {n p:Int} (h:NumB n b p):n < 1766847064778384329583297500742918515827483896875618958121606201292619776:=by
 obtain ⟨h1,h2,h3,h4,h5,h6⟩:=h
 have e1:b.toNat ^ (40+p.toNat)<=16 ^ (40+p.toNat):=Nat.pow_le_pow_left (by omega) _
 have e2:(16:Nat) ^ (40+p.toNat)<=16 ^ 46:=pow_le_pow_right (by decide) (by omega)
 have e3:(16:Nat) ^ 46 < 1766847064778384329583297500742918515827483896875618958121606201292619776:=by decide +kernel
 omega
def zG0 (K:W.Frag):Sp:=fun vs H Q _=>∃ (n b p z:Int) (pt m:Nat),vs=[.int n,.int b,.int p,.str (T [pt]),.int z,.str (T [m])]/\NumB n b p/\0<=z/\z<=9 /\ ∀ H',Same H H'->Q (.str (T (bdI n b p pt z m))) H'
theorem zMt {n p z:Int} {pt:Nat} (h1:NumB n b p) (h2:0<=z) (h3:z<=9) (q : ∀ H',Same H H'->Q (.str (T (bdI n b p pt z m))) H'):zG0 K ([.int n,.int b,.int p,.str (T [pt]),.int z,.str (T [m])]++[]) H Q E:=⟨n,b,p,z,pt,m,rfl,h1,h2,h3,q⟩
local macro_rules | `(tactic| walk_at "rdc")=>`(tactic| ((with_reducible refine' zMt ?h1 ?h2 ?h3 ?_);(case h1=>assumption);(case h2=>omega);(case h3=>omega);intro H' g'))
def zC4 (K:W.Frag):Sp:=fun vs H Q _=>∃ (x:Str) (b:Bool),vs=[.str x,.bl b]/\zEN x /\ ∀ p,SqT K H p [.str (T (stL x b)),.str (T (stT x b))]->Q (.ref p) H
theorem zQX {b:Bool} (h:zEN x) (q : ∀ p,SqT K H p [.str (T (stL x b)),.str (T (stT x b))]->Q (.ref p) H):zC4 K ([.str x,.bl b]++[]) H Q E:=⟨x,b,rfl,h,q⟩
local macro_rules | `(tactic| walk_at "rdc")=>`(tactic| ((with_reducible refine' zQX ?h ?_);(case h=>assumption);intro p' e'))
def sg (x:Str) (b:Bool) (l:List Nat):List Nat:=stL x b++l++stT x b
theorem zTb (h:zEN x) (b:Bool) (l:List Nat):l.length<=(sg x b l).length/\(sg x b l).length<=l.length+2:=by
 have:=zIz h b
 unfold sg;simp only [length_append];omega
def zGN (K:W.Frag):Sp:=fun vs H Q _=>∃ (l:List Nat) (x:Str) (b:Bool),vs=[.str (T l),.str x,.bl b]/\zEN x/\l.length<=1000/\Q (.str (T (sg x b l))) H
theorem zSf {l:List Nat} {b:Bool} (h:zEN x) (h2:l.length<=1000) (q:Q (.str (T (sg x b l))) H):zGN K ([.str (T l),.str x,.bl b]++[]) H Q E:=⟨l,x,b,rfl,h,h2,q⟩
local macro_rules | `(tactic| walk_at "rdc")=>`(tactic| ((with_reducible refine' zSf ?h ?h2 ?_);(case h=>assumption);(case h2=>omega)))
def zBW (K:W.Frag):Sp:=fun vs H Q _=>∃ l:List Nat,vs=[.str (T l)]/\Asc l/\l.length<=1000/\(Fg l->Q (.bl true) H)/\(¬ Fg l->Q (.bl false) H)
theorem zRr {l:List Nat} (h1:Asc l) (h2:l.length<=1000) (q1:Fg l->Q (.bl true) H) (q2 : ¬ Fg l->Q (.bl false) H):zBW K ([.str (T l)]++[]) H Q E:=⟨l,rfl,h1,h2,q1,q2⟩
local macro_rules | `(tactic| walk_at "rdc")=>`(tactic| ((with_reducible refine' zRr ?h1 ?h2 (fun fg'=>?_) (fun fg'=>?_));(case h1=>assumption);(case h2=>omega)))
def zDX (K:W.Frag):Sp:=fun vs H Q E=>∃ (t:List Nat) (x:Str),vs=[.str (T t),.str x]/\zEN x/\Asc t/\t.length<=1000/\(∀ b,Sgd x b t -> ∀ p H',Same H H'->H' p=some (.tup [.bl b,.str (T (bod x b t))])->Q (.ref p) H')/\((¬ Sgd x false t)->(¬ Sgd x true t) -> ∀ C H',Nm K "NoCore" C->Same H H'->E (.ref C) none H')
theorem zOl {t:List Nat} {b:Bool} (h1:zEN x) (h2:Asc t) (h3:t.length<=1000) (g:Sgd x b t) (q : ∀ p H',Same H H'->H' p=some (.tup [.bl b,.str (T (bod x b t))])->Q (.ref p) H'):spc (zDX K) ([.str (T t),.str x]++[]) H Q E:=by
 refine ⟨t,x,rfl,h1,h2,h3,fun b' g' p H' gg e=>?_,fun n0 n1=>?_⟩
 ·have e2:b'=b:=by
   cases b' <;> cases b
   ·rfl
   ·exact (zFf h1 g' g).elim
   ·exact (zFf h1 g g').elim
   ·rfl
  subst e2
  exact q p H' gg e
 ·cases b
  ·exact absurd g n0
  ·exact absurd g n1
def zEr (K:W.Frag):Sp:=fun vs H Q E=>∃ (t:List Nat) (z:Int) (m:Nat),vs=[.str (T t),.int z,.str (T [m])]/\0<=z/\z<=9/\t.length<=400/\(GG z.toNat m t -> ∀ H',Same H H'->Q (.str (T (ug z.toNat t))) H')/\(¬ GG z.toNat m t -> ∀ C H',Nm K "NoGroups" C->Same H H'->E (.ref C) none H')
def zEm (K:W.Frag):Sp:=fun vs H Q E=>∃ (l:List Nat) (b:Int),vs=[.str (T l),.int b]/\Asc l/\1<=l.length/\l.length<=240/\2<=b/\b<=16/\(FigB b l->Q (.int (val b l)) H)/\(¬ FigB b l -> ∀ C,Nm K "NoFigures" C->E (.ref C) none H)
def zEh (K:W.Frag):Sp:=fun vs H Q E=>∃ (t:List Nat) (p:Int) (pt:Nat),vs=[.str (T t),.int p,.str (T [pt])]/\0<=p/\p<=6/\t.length<=400/\(WE p.toNat pt t->Q (.int (zC8 p.toNat t).length) H)/\(¬ WE p.toNat pt t -> ∀ C,Nm K "NoBody" C->E (.ref C) none H)
def zEv (K:W.Frag):Sp:=fun vs H Q E=>∃ (t:List Nat) (b p z:Int) (pt m:Nat),vs=[.str (T t),.int b,.int p,.str (T [pt]),.int z,.str (T [m])]/\2<=b/\b<=16/\0<=p/\p<=6/\0<=z/\z<=9/\t.length<=400/\Asc t/\(IsB b p.toNat pt z.toNat m t -> ∀ H',Same H H'->Q (.int (bval b p.toNat z.toNat t)) H')/\(¬ IsB b p.toNat pt z.toNat m t -> ∀ C H',Nm K "NoBody" C->Same H H'->E (.ref C) none H')
def zEM (K:W.Frag):Sp:=fun vs H Q _=>∃ i:Int,vs=[.int i]/\Q (.bl true) H
theorem zPQ (q:Q (.bl true) H):zEM K ([.int i]++[]) H Q E:=⟨i,rfl,q⟩
def zCA (K:W.Frag):Sp:=fun vs H Q _=>∃ a b:Int,vs=[.int a,.int b]/\Q (.int (Int.gcd a b)) H
theorem zI9 (q:Q (.int (Int.gcd a b)) H):zCA K ([.int a,.int b]++[]) H Q E:=⟨a,b,rfl,q⟩
local macro_rules | `(tactic| walk_at "rdc")=>`(tactic| (with_reducible refine zPQ ?_))
local macro_rules | `(tactic| walk_at "rdc")=>`(tactic| (with_reducible refine zI9 ?_))
def zDh (K:W.Frag):Sp:=fun vs H Q _=>∃ (p:Addr) (a b:Int),vs=[.ref p]/\H p=some (.tup [.int a,.int b])/\1<=b/\Int.gcd a b=1/\Q (.bl true) H
theorem zLo (h1:H p=some (.tup [.int a,.int b])) (h2:1<=b) (h3:Int.gcd a b=1) (q:Q (.bl true) H):zDh K ([.ref p]++[]) H Q E:=⟨p,a,b,rfl,h1,h2,h3,q⟩
local macro_rules | `(tactic| walk_at "rdc")=>`(tactic| ((with_reducible refine' zLo ?h1 ?h2 ?h3 ?_);(case h1=>walk_at "hp");(case h2=>omega);(case h3=>assumption)))
def zJv (x:Str):Prop:=Side x\/x = "inside"
structure NumS (fg pl b:Int) (sn:Str) (z:Int) (m pt:Nat) (wy:Str) (wd:Int) (f:Nat) (x:Str):Prop where
 fg1:1<=fg
 fg2:fg<=12
 pl1:0<=pl
 pl2:pl<=6
 b1:2<=b
 b2:b<=16
 sn:zEN sn
 z1:0<=z
 z2:z<=9
 m:m < 127
 pt:pt < 127
 wy:Way wy
 wd1:0<=wd
 wd2:wd<=40
 f:f < 127
 x:zJv x
def zB9 (fg pl b:Int) (sn:Str) (z:Int) (m pt:Nat) (wy:Str):List (Str × V):=[("figures", .int fg),("places", .int pl),("base", .int b),("sign", .str sn),("size", .int z),("mark", .str (T [m])),("point", .str (T [pt])),("way", .str wy)]
def nns:List Str:=["figures", "places", "base", "sign", "size", "mark", "point", "way"]
section
variable {H : Hp} {a C : Addr} {wd : Int} {f : Nat} {x : Str} {st : Bool} {fg pl b : Int} {sn : Str} {z : Int} {m pt : Nat} {wy : Str}
theorem zUM {g:Str} (h:g ∉ nns):(zB9 fg pl b sn z m pt wy).lookup g=none:=by
 simp only [nns,mem_cons,not_mem_nil,or_false,not_or] at h
 obtain ⟨h1,h2,h3,h4,h5,h6,h7,h8⟩:=h
 exact (zBb h1).trans ((zBb h2).trans ((zBb h3).trans ((zBb h4).trans ((zBb h5).trans ((zBb h6).trans ((zBb h7).trans ((zBb h8).trans rfl)))))))
theorem zI1 {g:Str} (F:zAT K H a C wd f x st (zB9 fg pl b sn z m pt wy)) (h:g ∉ bns) (l:(zB9 fg pl b sn z m pt wy).lookup g=some v) (n:g ∈ nns):zEJ K H a g v:=F.own h l n
theorem zOh (F:zAT K H a C wd f x st (zB9 fg pl b sn z m pt wy)):zEJ K H a "figures" (.int fg):=zI1 F (by decide +kernel) zHL (by decide +kernel)
theorem zRK (F:zAT K H a C wd f x st (zB9 fg pl b sn z m pt wy)):zEJ K H a "places" (.int pl):=zI1 F (by decide +kernel) ((zBb (by decide +kernel)).trans zHL) (by decide +kernel)
theorem zTt (F:zAT K H a C wd f x st (zB9 fg pl b sn z m pt wy)):zEJ K H a "base" (.int b):=zI1 F (by decide +kernel) ((zBb (by decide +kernel)).trans ((zBb (by decide +kernel)).trans zHL)) (by decide +kernel)
theorem zTe (F:zAT K H a C wd f x st (zB9 fg pl b sn z m pt wy)):zEJ K H a "sign" (.str sn):=zI1 F (by decide +kernel) ((zBb (by decide +kernel)).trans ((zBb (by decide +kernel)).trans ((zBb (by decide +kernel)).trans zHL))) (by decide +kernel)
theorem zUI (F:zAT K H a C wd f x st (zB9 fg pl b sn z m pt wy)):zEJ K H a "size" (.int z):=zI1 F (by decide +kernel) ((zBb (by decide +kernel)).trans ((zBb (by decide +kernel)).trans ((zBb (by decide +kernel)).trans ((zBb (by decide +kernel)).trans zHL)))) (by decide +kernel)
theorem zTi (F:zAT K H a C wd f x st (zB9 fg pl b sn z m pt wy)):zEJ K H a "mark" (.str (T [m])):=zI1 F (by decide +kernel) ((zBb (by decide +kernel)).trans ((zBb (by decide +kernel)).trans ((zBb (by decide +kernel)).trans ((zBb (by decide +kernel)).trans ((zBb (by decide +kernel)).trans zHL))))) (by decide +kernel)
theorem zRh (F:zAT K H a C wd f x st (zB9 fg pl b sn z m pt wy)):zEJ K H a "point" (.str (T [pt])):=zI1 F (by decide +kernel) ((zBb (by decide +kernel)).trans ((zBb (by decide +kernel)).trans ((zBb (by decide +kernel)).trans ((zBb (by decide +kernel)).trans ((zBb (by decide +kernel)).trans ((zBb (by decide +kernel)).trans zHL)))))) (by decide +kernel)
theorem zV3 (F:zAT K H a C wd f x st (zB9 fg pl b sn z m pt wy)):zEJ K H a "way" (.str wy):=zI1 F (by decide +kernel) ((zBb (by decide +kernel)).trans ((zBb (by decide +kernel)).trans ((zBb (by decide +kernel)).trans ((zBb (by decide +kernel)).trans ((zBb (by decide +kernel)).trans ((zBb (by decide +kernel)).trans ((zBb (by decide +kernel)).trans zHL))))))) (by decide +kernel)
theorem zLe {g:Str} (F:zAT K H a C wd f x st (zB9 fg pl b sn z m pt wy)) (h0:g ∉ bns) (h1:g ∉ nns):InsM H a C g:=F.meth h0 (zUM h1)
end
local macro_rules | `(tactic| walk_at "fld2")=>`(tactic| first | (exact zOh (by walk_at "fm")) | (exact zRK (by walk_at "fm")) | (exact zTt (by walk_at "fm")) | (exact zTe (by walk_at "fm")) | (exact zUI (by walk_at "fm")) | (exact zTi (by walk_at "fm")) | (exact zRh (by walk_at "fm")) | (exact zV3 (by walk_at "fm")))
local macro_rules | `(tactic| walk_at "ins")=>`(tactic| exact zLe (by walk_at "fm") (by decide +kernel) (by decide +kernel))
def zBO (K:W.Frag) (C:Addr):Sp:=fun vs H Q _=>∃ (a:Addr) (fg pl b:Int) (sn:Str) (z:Int) (m pt:Nat) (wy:Str) (wd:Int) (f:Nat) (x:Str) (st:Bool) (n:Int),vs=[.ref a,.int n]/\zAT K H a C wd f x st (zB9 fg pl b sn z m pt wy)/\NumS fg pl b sn z m pt wy wd f x/\Q (.bl (decide (b ^ (fg+pl).toNat<=n))) H
variable {C:Addr} {fg pl wd:Int} {sn wy:Str} {st:Bool}
theorem zNF {a:Addr} {z:Int} {pt:Nat} {n:Int} (h1:zAT K H a C wd f x st (zB9 fg pl b sn z m pt wy)) (h2:NumS fg pl b sn z m pt wy wd f x) (q:Q (.bl (decide (b ^ (fg+pl).toNat<=n))) H):zBO K C (.ref a::([.int n]++[])) H Q E:=⟨a,fg,pl,b,sn,z,m,pt,wy,wd,f,x,st,n,rfl,h1,h2,q⟩
local macro_rules | `(tactic| walk_at "rdc")=>`(tactic| ((with_reducible refine' zNF ?h1 ?h2 ?_);(case h1=>walk_at "fm");(case h2=>assumption)))
def zCh (pl b:Int) (sn:Str) (z:Int) (m pt:Nat) (k:Int):List Nat:=sg sn (decide (k < 0)) (bdI k.natAbs b pl pt z m)
def LimN (fg pl b:Int) (k:Int):Prop:=k.natAbs < b.toNat ^ (fg+pl).toNat
def zBy (K:W.Frag) (C:Addr):Sp:=fun vs H Q _=>∃ (o p:Addr) (fg pl b:Int) (sn:Str) (z:Int) (m pt:Nat) (wy:Str) (wd:Int) (f:Nat) (x:Str) (st:Bool) (u v k:Int),vs=[.ref o,.ref p]/\zAT K H o C wd f x st (zB9 fg pl b sn z m pt wy)/\NumS fg pl b sn z m pt wy wd f x/\H p=some (.tup [.int u,.int v])/\GrB u v/\Int.gcd u v=1/\grid wy u v (b ^ pl.toNat)=k/\LimN fg pl b k /\ ∀ H',Same H H'->Q (.str (T (zCh pl b sn z m pt k))) H'
theorem zTC {o:Addr} {z:Int} {pt:Nat} {u v:Int} (h1:zAT K H o C wd f x st (zB9 fg pl b sn z m pt wy)) (h2:NumS fg pl b sn z m pt wy wd f x) (h3:H p=some (.tup [.int u,.int v])) (h4:GrB u v) (h5:Int.gcd u v=1) (h6:grid wy u v (b ^ pl.toNat)=k) (h7:LimN fg pl b k) (q : ∀ H',Same H H'->Q (.str (T (zCh pl b sn z m pt k))) H'):zBy K C (.ref o::([.ref p]++[])) H Q E:=⟨o,p,fg,pl,b,sn,z,m,pt,wy,wd,f,x,st,u,v,k,rfl,h1,h2,h3,h4,h5,h6,h7,q⟩
def zDr (K:W.Frag):Sp:=fun vs H Q _=>∃ (a C:Addr) (wd:Int) (f:Nat) (x:Str) (st:Bool) (more:List (Str × V)) (t:List Nat),vs=[.ref a,.str (T t)]/\zAT K H a C wd f x st more/\t.length<=400/\Q (.bl (st && decide (wd < t.length))) H
def zDp (K:W.Frag):Sp:=fun vs H Q _=>∃ (a C l:Addr) (wd:Int) (f:Nat) (x:Str) (st:Bool) (more:List (Str × V)) (t:Ce),vs=[.ref a,.ref l]/\zAT K H a C wd f x st more/\H l=some (.lst (tsV t))/\Q (.bl (st && decide (wd < t.length))) H
def zAX (K:W.Frag):Sp:=fun vs H Q E=>zDr K vs H Q E\/zDp K vs H Q E
variable {more:List (Str × V)}
theorem zO7 {a:Addr} {t:List Nat} (h1:zAT K H a C wd f x st more) (h2:t.length<=400) (q:Q (.bl (st && decide (wd < t.length))) H):zAX K (.ref a::([.str (T t)]++[])) H Q E:=.inl ⟨a,C,wd,f,x,st,more,t,rfl,h1,h2,q⟩
local macro_rules | `(tactic| walk_at "rdc")=>`(tactic| ((with_reducible refine' zO7 ?h1 ?h2 ?_);(case h1=>walk_at "fm");(case h2=>omega)))
def Isw (sg:List Nat) (lo hi:Int) (t:List Nat):Prop:=(lo<=t.length/\(t.length:Int)<=hi) /\ ∀ c ∈ t,c ∈ sg
instance (sg:List Nat) (lo hi:Int) (t:List Nat):Decidable (Isw sg lo hi t):=by unfold Isw;infer_instance
def zGh (sg:List Nat) (lo hi:Int):List (Str × V):=[("signs", .str (T sg)),("least", .int lo),("most", .int hi)]
variable {lo hi:Int}
theorem zUU {sg:List Nat} {m:Str} (h1:m ≠ "signs") (h2:m ≠ "least") (h3:m ≠ "most"):(zGh sg lo hi).lookup m=none:=(zBb h1).trans ((zBb h2).trans ((zBb h3).trans rfl))
section
variable {H : Hp} {a C : Addr} {wd : Int} {f : Nat} {x : Str} {st : Bool} {sg : List Nat} {lo hi : Int}
theorem zSc (F:zAT K H a C wd f x st (zGh sg lo hi)):zEJ K H a "signs" (.str (T sg)):=F.own (by decide +kernel) zHL (mem_cons_self ..)
theorem zR0 (F:zAT K H a C wd f x st (zGh sg lo hi)):zEJ K H a "least" (.int lo):=F.own (by decide +kernel) ((zBb (by decide +kernel)).trans zHL) (mem_cons_of_mem _ (mem_cons_self ..))
theorem zTj (F:zAT K H a C wd f x st (zGh sg lo hi)):zEJ K H a "most" (.int hi):=F.own (by decide +kernel) ((zBb (by decide +kernel)).trans ((zBb (by decide +kernel)).trans zHL)) (mem_cons_of_mem _ (mem_cons_of_mem _ (mem_cons_self ..)))
theorem zLd {m:Str} (F:zAT K H a C wd f x st (zGh sg lo hi)) (h0:m ∉ bns) (h1:m ≠ "signs") (h2:m ≠ "least") (h3:m ≠ "most"):InsM H a C m:=F.meth h0 (zUU h1 h2 h3)
end
local macro_rules | `(tactic| walk_at "fld2")=>`(tactic| first | (exact zSc (by walk_at "fm")) | (exact zR0 (by walk_at "fm")) | (exact zTj (by walk_at "fm")))
local macro_rules | `(tactic| walk_at "ins")=>`(tactic| exact zLd (by walk_at "fm") (by decide +kernel) (by decide +kernel) (by decide +kernel) (by decide +kernel))
variable {fq:Addr} {fd:FuncData}
theorem zKg (F:Fun K "_law_cell_at" "_law_cell_at" zEA fq fd) (B:Blt mg):FnOk P w K mg base CX0 1 fq fd ["_law_script", "_law_k"] (zDg K):=by
 refine F.ok zKY (fun vs H Q E h=>?_) (fun cdv A outer s H vs Q E hr h=>?_)
 ·obtain ⟨a,ns,k,rfl,hS,hk,q⟩:=h
  rfl
 obtain ⟨a,ns,k,rfl,hS,hk,q⟩:=h
 refine ⟨_,zAF (zBN (zAW zPH (pv 1) (zAL zBR B.vAA rfl zBF (zAA (pv 0) (zAE))) (zAZ _)) (zAJ (zAO (zAb zAv (pv 0) (pv 1) (fun _ _=>rfl)))) (zAY))
  (zAJ (zAO (zAG))),?_⟩
 walk_at "st"
 walk_at "rd"
 ·rename_i hc
  rw [length_map] at hc
  exact zE1 hS hk (by rw [length_map];omega) fun x hx=>by
   obtain ⟨v,_,rfl⟩:=List.mem_map.mp (mem_of_getElem? hx)
   exact q v
 ·exact q 0
theorem zNf (F:Fun K "_law_pick" "_law_pick" zHI fq fd) (B:Blt mg):FnOk P w K mg base CX0 1 fq fd ["_law_cell", "_law_salt", "_law_many"] (zBg K):=by
 refine F.ok zFa (fun vs H Q E h=>?_) (fun cdv A outer s H vs Q E hr h=>?_)
 ·obtain ⟨c,t,m,rfl,ht,hm,q⟩:=h
  rfl
 obtain ⟨c,t,m,rfl,ht,hm,q⟩:=h
 refine ⟨_,zAF (zBN (PW.pt (zOO (zAW zIf (pv 0) (zT8 (k:=1000000000000000000) (by unfold CPow;decide) (by decide +kernel)) (zAZ _)) (zLJ (zAW zIf (zAR zQh (pv 0) (zAR zEY (zAG) (pv 1))) (zAG) (zAZ _))))) (zAJ (zAO (zAR zC0 (zAR zC0 (zAR zQh (pv 0) (zAR zEY (zAG) (pv 1))) (zAG)) (pv 2)))) (zAY))
  (zAF (zAN (i:=3) zFa.nd rfl (Or.inl rfl) (zAR zC0 (zAR zBA (zAR zBA (zAR zC0 (pv 0) (zAG)) (zAG)) (zAR zEY (zAG) (pv 1))) (zAG)))
  (zAF (zAN (i:=3) zFa.nd rfl (Or.inl rfl) (zAR zC0 (zAR zEY (pv 3) (pv 3)) (zAG)))
  (zAF (zAN (i:=4) zFa.nd rfl (Or.inl rfl) (zAR zC0 (zAR zEY (zAR zBA (pv 3) (zAG)) (zAR zBA (zAR zBA (zAR zDL (pv 3) (zAG)) (zAG)) (pv 1))) (zAG)))
  (zAJ (zAO (zAR zC0 (zAR zDL (pv 4) (zAG)) (pv 2))))))),?_⟩
 walk_at "st"
 have n0 : ∀ a:Int,0<=a % m/\a % m < m:=fun a=>⟨emod_nonneg _ (by omega),emod_lt_of_pos _ hm⟩
 unfold pk pkA at q
 walk_at "rd"
 ·rename_i c1 c2
  rw [if_pos ⟨c1,c2⟩] at q
  exact q (n0 _).1 (n0 _).2
 ·rename_i c1 c2
  rw [if_neg (fun y=>c2 y.2)] at q
  exact q (n0 _).1 (n0 _).2
 ·rename_i c1
  rw [if_neg (fun y=>c1 y.1)] at q
  exact q (n0 _).1 (n0 _).2
theorem zOx (F:Fun K "pads_of" "pads_of" zIH fq fd) (B:Blt mg):FnOk P w K mg base CX0 1 fq fd ["length", "width", "side"] (zEE K):=by
 refine F.ok zKs (fun vs H Q E h=>?_) (fun cdv A outer s H vs Q E hr h=>?_)
 ·obtain ⟨n,w,x,rfl,hs,h0,hw,q⟩:=h
  rfl
 obtain ⟨n,w,x,rfl,hs,h0,hw,q⟩:=h
 refine ⟨_,zAF (zAN (i:=3) zKs.nd rfl (Or.inl rfl) (zAL (zG1 rfl) B.vAE rfl zOJ (zAA (zAG) (zAA (zAR zCm (pv 1) (pv 0)) (zAE)))))
  (zAF (zBN (zAW zCl (pv 2) (zA2) (zAZ _)) (zAJ (zAO (zFI (zAA (zAG) (zAA (pv 3) (zAE)))))) (zAY))
  (zAF (zBN (zAW zCl (pv 2) (zA2) (zAZ _)) (zAJ (zAO (zFI (zAA (pv 3) (zAA (zAG) (zAE)))))) (zAY))
  (zAJ (zAO (zFI (zAA (zAR zDL (pv 3) (zAG)) (zAA (zAR zCm (pv 3) (zAR zDL (pv 3) (zAG))) (zAE)))))))),?_⟩
 walk_at "st"
 have b:=zIj n w h0 hw
 have e:pB x n w=lk n w - pA x n w:=rfl
 rcases hs with rfl | rfl | rfl
 ·rw [pAl] at q e
  walk_at "rd"
  rename_i k hk p' H' g' e'
  exact q _ _ g' (by rw [e',show k=pB "left" n w by omega])
 ·rw [pAr] at q e
  walk_at "rd"
  rename_i k hk p' H' g' e'
  exact q _ _ g' (by rw [e',show k=lk n w by omega,show pB "right" n w=0 by omega])
 ·rw [pAm] at q e
  walk_at "rd"
  rename_i k hk p' H' g' e'
  exact q _ _ g' (by rw [e',e,show k=lk n w by omega])
theorem zQ7 (F:Fun K "padded" "padded" zJO fq fd) (B:Blt mg) (zFW:Has P w K mg base "pads_of" 1 ["length", "width", "side"] (zEE K)):FnOk P w K mg base CX0 2 fq fd ["text", "width", "fill", "side"] (zFO K):=by
 refine F.ok zMr (fun vs H Q E h=>?_) (fun cdv A outer s H vs Q E hr h=>?_)
 ·obtain ⟨t,w,f,x,rfl,hs,h0,hw,q⟩:=h
  rfl
 obtain ⟨t,w,f,x,rfl,hs,h0,hw,q⟩:=h
 refine ⟨_,zAF (zAN (i:=4) zMr.nd rfl (Or.inl rfl) (zAI zFW hr rfl (zAA (zAL zA6 B.vAA rfl zBF (zAA (pv 0) (zAE))) (zAA (pv 1) (zAA (pv 3) (zAE))))))
  (zAJ (zAO (zAR zDC (zAR zDC (zAR zRP (pv 2) (zAb zBc (pv 4) (zAG) (fun _ _=>rfl))) (pv 0)) (zAR zRP (pv 2) (zAb zBc (pv 4) (zAG) (fun _ _=>rfl)))))),?_⟩
 walk_at "st"
 have b:=zDa (n:=t.length) hs (by omega) hw
 have b':=b
 obtain ⟨b1,b2,b3,_⟩:=b'
 have bl:=zIj t.length w (by omega) hw
 walk_at "rd"
 exact q _ (by assumption)
local macro_rules | `(tactic| walk_at "rdc")=>`(tactic| ((with_reducible refine' zO8 ?h1 ?h2 ?h3 ?h4 ?_);(case h1=>omega);(case h2=>omega);(case h3=>omega);(case h4=>omega)))
local macro_rules | `(tactic| walk_at "rdc")=>`(tactic| ((with_reducible refine' zQK ?h1 ?h2 ?h3 ?_);(case h1=>assumption);(case h2=>omega);(case h3=>omega)))
local macro_rules | `(tactic| walk_at "rdc")=>`(tactic| ((with_reducible refine' zQo ?h1 ?h2 ?h3 ?h4 ?h5 ?h6 ?h7 ?_);(case h1=>walk_at "hp");(case h2=>assumption);(case h3=>omega);(case h4=>omega);(case h5=>omega);(case h6=>omega);(case h7=>first | assumption | exact .inl rfl | exact .inr (.inl rfl) | exact .inr (.inr (.inl rfl)) | exact .inr (.inr (.inr (.inl rfl))) | exact .inr (.inr (.inr (.inr rfl))))))
theorem zNk (F:Fun K "power_of" "power_of" zHF fq fd) (B:Blt mg):FnOk P w K mg base CX0 1 fq fd ["base", "times"] (zDc K):=by
 refine F.ok zFp (fun vs H Q E h=>?_) (fun cdv A outer s H vs Q E hr h=>?_)
 ·obtain ⟨b,t,rfl,h1,h2,h3,h4,q⟩:=h
  rfl
 obtain ⟨b,t,rfl,h1,h2,h3,h4,q⟩:=h
 refine ⟨_,zAF (zAN (i:=2) zFp.nd rfl (Or.inl rfl) (zAG))
  (zAF (zGC PassesOwn.never rfl (zDm rfl B.vAB (zAA (pv 1) (zAE))) (zAz (i:=3) zFp.nd rfl (Or.inl rfl)) (zAJ (zAN (i:=2) zFp.nd rfl (Or.inl rfl) (zAR zEY (pv 2) (pv 0)))))
  (zAJ (zAO (pv 2)))),?_⟩
 walk_at "st"
 walk_at "rd"
 refine zJq (by omega) (by omega) (fun i σ H'=>H'=H /\ ∃ r,σ=[some (.int b),some (.int t),some (.int (b ^ i)),r]) ⟨rfl,none,by rw [Int.pow_zero];rfl⟩ ?_ ?_
 ·rintro i σ H' hi ⟨rfl,r,rfl⟩
  have z:=pw60 (n:=i) h1 h2 (by omega)
  walk_at "rd"
  exact ⟨rfl,some (.int (0+i)),by rw [pow_succ];rfl⟩
 ·rintro σ H' ⟨rfl,r,rfl⟩
  walk_at "rd"
  exact q
theorem zPN (F:Fun K "goes_up" "goes_up" zHy fq fd) (B:Blt mg):FnOk P w K mg base CX0 1 fq fd ["below", "rest", "bottom", "way"] (zG7 K):=by
 refine F.ok zPL (fun vs H Q E h=>?_) (fun cdv A outer s H vs Q E hr h=>?_)
 ·obtain ⟨be,re,bo,w,rfl,h1,h2,h3,q⟩:=h
  rfl
 obtain ⟨be,re,bo,w,rfl,h1,h2,h3,q⟩:=h
 refine ⟨_,zAF (zBN (zAW zCl (pv 3) (zA2) (zAZ _)) (zAJ (zAO (zEz))) (zAY))
  (zAF (zBN (zAW zCl (pv 3) (zA2) (zAZ _)) (zAJ (zAO (zEz))) (zAY))
  (zAF (zBN (zAW zCl (pv 3) (zA2) (zAZ _)) (zAJ (zAO (zBu zPH (pv 0) (zAG) (zAZ _)))) (zAY))
  (zAF (zBN (zAW zIq (zAR zEY (zAG) (pv 1)) (pv 2) (zAZ _)) (zAJ (zAO (zBu zIf (zAR zEY (zAG) (pv 1)) (pv 2) (zAZ _)))) (zAY))
  (zAJ (zAO (zX0 (zBu zCl (pv 3) (zA2) (zAZ _)) (zHs (zBu zCl (zAR zC0 (pv 0) (zAG)) (zAG) (zAZ _))))))))),?_⟩
 walk_at "st"
 rcases h1 with rfl | rfl | rfl | rfl | rfl
 all_goals walk_at "rd"
 ·rw [zUH] at q;exact q
 ·rw [zX8] at q;exact q
 ·rw [zWs] at q;exact q
 ·rw [zUT (by assumption)] at q;exact q
 ·rw [zSP (by assumption)] at q;exact q
 ·rw [zVG (by assumption)] at q;exact q
 ·rw [zSL (by assumption)] at q;exact q
theorem zOu (F:Fun K "gridded" "gridded" zH9 fq fd) (B:Blt mg) (zFM:Has P w K mg base "power_of" 1 ["base", "times"] (zDc K)) (zRF:Has P w K mg base "goes_up" 1 ["below", "rest", "bottom", "way"] (zG7 K)):FnOk P w K mg base CX0 2 fq fd ["value", "base", "places", "way"] (zGw K):=by
 refine F.ok zFL (fun vs H Q E h=>?_) (fun cdv A outer s H vs Q E hr h=>?_)
 ·obtain ⟨p,a,b,c,t,w,rfl,h1,⟨g1,g2,g3,g4⟩,h3,h4,h5,h6,h7,q⟩:=h
  rfl
 obtain ⟨p,a,b,c,t,w,rfl,h1,⟨g1,g2,g3,g4⟩,h3,h4,h5,h6,h7,q⟩:=h
 refine ⟨_,zAF (zAN (i:=4) zFL.nd rfl (Or.inl rfl) (zAR zEY (zAb zBc (pv 0) (zAG) (fun _ _=>rfl)) (zAI zFM hr rfl (zAA (pv 1) (zAA (pv 2) (zAE))))))
  (zAF (zAN (i:=5) zFL.nd rfl (Or.inl rfl) (zAb zBc (pv 0) (zAG) (fun _ _=>rfl)))
  (zAF (zAN (i:=6) zFL.nd rfl (Or.inl rfl) (zAR zDL (pv 4) (pv 5)))
  (zAF (zAN (i:=7) zFL.nd rfl (Or.inl rfl) (zAR zC0 (pv 4) (pv 5)))
  (zAF (zBN (PW.pt (zOO (zAW zIf (pv 7) (zAG) (zAZ _)) (zLJ (zBt (zAI zRF hr rfl (zAA (pv 6) (zAA (pv 7) (zAA (pv 5) (zAA (pv 3) (zAE)))))))))) (zAJ (zAO (zAR zBA (pv 6) (zAG)))) (zAY))
  (zAJ (zAO (pv 6))))))),?_⟩
 walk_at "st"
 have z:=pw6 (t:=t) h3 h4 h6
 have m:=zWq (M:=16777217) g1 g2 (show 0 < c ^ t.toNat by omega) (by omega)
 have n:=zX5 (a*c ^ t.toNat) g3
 unfold grid at q
 walk_at "rd"
 ·rw [if_pos ⟨by assumption,by assumption⟩] at q;exact q
 ·rename_i hc1 hc2
  rw [if_neg (fun z=>by rw [hc2] at z;exact Bool.false_ne_true z.2)] at q;exact q
 ·rename_i hc1
  rw [if_neg (fun z=>hc1 z.1)] at q;exact q
variable {zEc:Tok}
theorem zK9 (F:Fun K "figures_of" "figures_of" zEt fq fd) (B:Blt mg) (zBa:mg "FIGURES" = some (.str "0123456789abcdef" zEc)):FnOk P w K mg base CX0 1 fq fd ["number", "base"] (zD6 K):=by
 refine F.ok zDA (fun vs H Q E h=>?_) (fun cdv A outer s H vs Q E hr h=>?_)
 ·obtain ⟨n,b,rfl,h1,h2,h3,h4,q⟩:=h
  rfl
 obtain ⟨n,b,rfl,h1,h2,h3,h4,q⟩:=h
 refine ⟨_,zAF (zAN (i:=2) zDA.nd rfl (Or.inl rfl) (zAb zER (zDb rfl zBa (v:=.str "0123456789abcdef") ⟨_,rfl⟩) (zAR zC0 (pv 0) (pv 1)) (fun _ _=>rfl)))
  (zAF (zAN (i:=3) zDA.nd rfl (Or.inl rfl) (zAR zDL (pv 0) (pv 1)))
  (zAF (zJN PassesOwn.never (zAW zIf (pv 3) (zAG) (zAZ _)) (zAF (zAN (i:=2) zDA.nd rfl (Or.inl rfl) (zAR zDC (zAb zER (zDb rfl zBa (v:=.str "0123456789abcdef") ⟨_,rfl⟩) (zAR zC0 (pv 3) (pv 1)) (fun _ _=>rfl)) (pv 2)))
  (zAJ (zAN (i:=3) zDA.nd rfl (Or.inl rfl) (zAR zDL (pv 3) (pv 1))))))
  (zAJ (zAO (pv 2))))),?_⟩
 walk_at "st"
 obtain ⟨N,rfl⟩:=eq_ofNat_of_zero_le h1
 obtain ⟨m,rfl⟩:=eq_ofNat_of_zero_le (show 0<=b by omega)
 have hz:=zSD (b:=m) (n:=N) (by omega) (by omega)
 have em : ∀ k:Nat,(k:Int) % (m:Int)=((k % m:Nat):Int):=fun k=>(Int.natCast_emod k m).symm
 have ed : ∀ k:Nat,(k:Int) / (m:Int)=((k / m:Nat):Int):=fun k=>(Int.natCast_ediv k m).symm
 have lm : ∀ k:Nat,k % m < m:=fun k=>Nat.mod_lt k (by omega)
 have sp:=zGi (b:=m) (by omega) (by omega) N N (Nat.le_refl _)
 replace q:=q _ rfl (by simp only [toNat_natCast];exact sp.1) (by simp only [toNat_natCast];exact sp.2.1) (by simp only [toNat_natCast];exact List.length_pos_iff.mpr sp.2.2.1) (by simp only [toNat_natCast];exact hz) (by
  simp only [toNat_natCast];intro z;rw [sp.2.2.2 z,zHp (by omega)];decide +kernel)
 simp only [toNat_natCast] at q
 have l0:=lm N
 have e0:=em N
 walk_at "rd"
 rw [ed N,em N,toNat_natCast]
 refine zLB (fun k σ H'=>H'=H /\ ∃ l:List Nat,σ=[some (.int N),some (.int m),some (.str (T l)),some (.int k)]/\figs m N=if k=0 then l else figs m k++l) ⟨N / m,rfl,[fc (N % m)],rfl,?_⟩ ?_
 ·have t:=zMD (b:=m) (m:=N) (by omega) []
  rw [append_nil] at t;exact t
 ·rintro k σ H' ⟨rfl,l,rfl,e⟩
  have lk:=lm k
  have ek:=em k
  have ll:l.length<=240:=by
   have z:=congrArg List.length e
   split at z
   ·omega
   ·rw [length_append] at z;omega
  walk_at "rd"
  ·rename_i hc
   refine ⟨k / m,Nat.div_lt_self (by omega) (by omega),rfl,fc (k % m)::l,?_,?_⟩
   ·rw [em k,ed k,toNat_natCast];rfl
   ·rw [<- zMD (by omega) l,e,if_neg (by omega)]
  ·rename_i hc
   rw [if_pos (by omega)] at e
   rw [<- e];exact q
theorem zK5 (F:Fun K "parts_of" "parts_of" zEC fq fd) (B:Blt mg):FnOk P w K mg base CX0 1 fq fd ["text", "size", "between"] (zII K):=by
 refine F.ok zCU (fun vs H Q E h=>?_) (fun cdv A outer s H vs Q E hr h=>?_)
 ·obtain ⟨a,z,g,rfl,h1,h2,h3,h4,h5,q⟩:=h
  rfl
 obtain ⟨a,z,g,rfl,h1,h2,h3,h4,h5,q⟩:=h
 refine ⟨_,zAF (zAN (i:=3) zCU.nd rfl (Or.inl rfl) (zA1 (zAE)))
  (zAF (zAN (i:=4) zCU.nd rfl (Or.inl rfl) (zAL zA6 B.vAA rfl zBF (zAA (pv 0) (zAE))))
  (zAF (zJN PassesOwn.never (zAW zIf (pv 4) (zAG) (zAZ _)) (zAF (zCy (zGL PySem.F.plainAttrs_list PySem.F.slot_list_append PySem.F.type_list_append zDn (pv 3) (zAA (zAw zDN (pv 0) (zAx (zAL (zG1 rfl) B.vAE rfl zOJ (zAA (zAG) (zAA (zAR zCm (pv 4) (pv 1)) (zAE))))) (zAx (pv 4))) (zAE))))
  (zAJ (zAN (i:=4) zCU.nd rfl (Or.inl rfl) (zAR zCm (zAR zCm (pv 4) (pv 1)) (pv 2))))))
  (zAF (zCy (zSk PySem.F.plainAttrs_list PySem.F.slot_list_reverse PySem.F.type_list_reverse zKx (pv 3)))
  (zAJ (zAO (pv 3)))))),?_⟩
 walk_at "st"
 refine zUa (zUg (zVT (zUV (zTu (by decide) fun l hl=>?_))))
 walk_at "rd"
 refine zLB (fun k σ H'=>∃ (e:Int) (ps:List (List Nat)),σ=[some (.str (T a)),some (.int z),some (.int g),some (.ref l),some (.int e)]/\H'=upd H l (.lst (ps.map fun l=>V.str (T l)))/\k=e.toNat/\ps.length+e.toNat<=a.length/\e<=a.length/\pcs a z.toNat g.toNat a.length=pcs a z.toNat g.toNat e.toNat++ps.reverse) ⟨_,a.length,[],rfl,rfl,rfl,by simp,Int.le_refl _,by simp⟩ ?_
 rintro k σ H' ⟨e,ps,rfl,rfl,rfl,b1,b2,ep⟩
 walk_at "rd"
 ·rename_i hc k' hk'
  refine zJX zAU (zBm (by rw [length_map];omega)) ?_
  rw [zCf]
  walk_at "rd"
  refine ⟨(e - z - g).toNat,by omega,e - z - g,ps++[(a.take e.toNat).drop k'.toNat],rfl,by rw [map_append];rfl,rfl,by rw [length_append,length_singleton];omega,by omega,?_⟩
  rw [ep,zE5 (by omega) (by omega),List.reverse_append,show (e - z - g).toNat=e.toNat - z.toNat - g.toNat by omega,show k'.toNat=e.toNat - z.toNat by omega]
  simp
 ·rename_i hc
  refine zMA zAU ?_
  rw [zCf]
  walk_at "rd"
  refine q _ _ (zBi (Same.refl _) hl) ?_
  rw [zAU,ep,show e.toNat=0 by omega,zBv,nil_append,List.map_reverse]
theorem zPC (F:Fun K "grouped" "grouped" zIC fq fd) (B:Blt mg) (zFH:Has P w K mg base "parts_of" 1 ["text", "size", "between"] (zC1 K)):FnOk P w K mg base CX0 2 fq fd ["text", "size", "mark"] (zFN K):=by
 refine F.ok zPE (fun vs H Q E h=>?_) (fun cdv A outer s H vs Q E hr h=>?_)
 ·obtain ⟨a,z,m,rfl,h1,h2,h5,q⟩:=h
  rfl
 obtain ⟨a,z,m,rfl,h1,h2,h5,q⟩:=h
 refine ⟨_,zAF (zBN (zAW zCl (pv 1) (zAG) (zAZ _)) (zAJ (zAO (pv 0))) (zAY))
  (zAJ (zAO (zGL PySem.F.plainAttrs_str PySem.F.slot_str_join PySem.F.type_str_join zLL (pv 2) (zAA (zAI zFH hr rfl (zAA (pv 0) (zAA (pv 1) (zAA (zAG) (zAE))))) (zAE))))),?_⟩
 walk_at "st"
 have bd:=fun hz:0 < z.toNat=>zN7 (a:=a) (g:=0) hz a.length a.length (Nat.le_refl _)
 walk_at "rd"
 ·rename_i hc
  subst hc
  have q':=q _ (Same.refl _)
  rw [show Int.toNat 0=0 from rfl,zGf] at q'
  exact q'
 ·rename_i hc p' H' g' e'
  have b:=bd (by omega)
  refine zNU e' (by rw [Lt_T,length_singleton,show Int.toNat 0=0 from rfl];omega) ?_
  rw [Lt_T,show Int.toNat 0=0 from rfl,zVQ (by omega)]
  exact q _ g'
theorem zOy (F:Fun K "body_of" "body_of" zH4 fq fd) (B:Blt mg) (zKN:Has P w K mg base "grouped" 2 ["text", "size", "mark"] (zFN K)) (zMb:Has P w K mg base "figures_of" 1 ["number", "base"] (zD6 K)):FnOk P w K mg base CX0 3 fq fd ["number", "base", "places", "point", "size", "mark"] (zG0 K):=by
 refine F.ok zHH (fun vs H Q E h=>?_) (fun cdv A outer s H vs Q E hr h=>?_)
 ·obtain ⟨n,b,p,z,pt,m,rfl,hn,h2,h3,q⟩:=h
  rfl
 obtain ⟨n,b,p,z,pt,m,rfl,hn,h2,h3,q⟩:=h
 refine ⟨_,zAF (zAN (i:=6) zHH.nd rfl (Or.inl rfl) (zGL PySem.F.plainAttrs_str PySem.F.slot_str_rjust PySem.F.type_str_rjust zQ9 (zAI zMb hr rfl (zAA (pv 0) (zAA (pv 1) (zAE)))) (zAA (zAR zBA (pv 2) (zAG)) (zAA (zF7 (l:=[48]) (by decide +kernel)) (zAE)))))
  (zAF (zAN (i:=7) zHH.nd rfl (Or.inl rfl) (zAR zCm (zAL zA6 B.vAA rfl zBF (zAA (pv 6) (zAE))) (pv 2)))
  (zAF (zAN (i:=8) zHH.nd rfl (Or.inl rfl) (zAI zKN hr rfl (zAA (zAw zDN (pv 6) (zBe) (zAx (pv 7))) (zAA (pv 4) (zAA (pv 5) (zAE))))))
  (zAF (zBN (zAW zCl (pv 2) (zAG) (zAZ _)) (zAJ (zAO (pv 8))) (zAY))
  (zAJ (zAO (zAR zDC (zAR zDC (pv 8) (pv 3)) (zAw zDN (pv 6) (zAx (pv 7)) (zBe)))))))),?_⟩
 walk_at "st"
 have big:=hn.big
 have hn':=hn
 obtain ⟨n1,n2,n3,n4,n5,n6⟩:=hn'
 have ds:=zEn (b:=b.toNat) (p:=p.toNat) (n:=n.toNat) (by omega) (by omega) (by omega) n6
 have ws:=zJR (b:=b.toNat) (p:=p.toNat) (n:=n.toNat) (by omega) (by omega) (by omega) n6
 have gl:=zPy (z:=z.toNat) (m:=m) (a:=whl b.toNat p.toNat n.toNat)
 walk_at "rd"
 rename_i l el f1 f2 f3 f4 f5
 have ed:List.replicate ((p+1).toNat - l.length) 48++l=dgs b.toNat p.toNat n.toNat:=by
  rw [el];unfold dgs;rw [show (p+1).toNat=p.toNat+1 by omega]
 have ew:(dgs b.toNat p.toNat n.toNat).take (((dgs b.toNat p.toNat n.toNat).length:Int) - p).toNat=whl b.toNat p.toNat n.toNat:=by
  unfold whl;rw [show (((dgs b.toNat p.toNat n.toNat).length:Int) - p).toNat=(dgs b.toNat p.toNat n.toNat).length - p.toNat by omega]
 have er:(dgs b.toNat p.toNat n.toNat).drop (((dgs b.toNat p.toNat n.toNat).length:Int) - p).toNat=rst b.toNat p.toNat n.toNat:=by
  unfold rst;rw [show (((dgs b.toNat p.toNat n.toNat).length:Int) - p).toNat=(dgs b.toNat p.toNat n.toNat).length - p.toNat by omega]
 rw [ed]
 walk_at "rd"
 rw [ew]
 walk_at "rd"
 ·rename_i H1 g1 hc
  have e:bdI n b p pt z m=gr z.toNat m (whl b.toNat p.toNat n.toNat):=by unfold bdI bdy;rw [if_pos (by omega)]
  have q':=q _ g1
  rw [e] at q';exact q'
 ·rename_i H1 g1 hc
  have e:bdI n b p pt z m=gr z.toNat m (whl b.toNat p.toNat n.toNat)++[pt]++rst b.toNat p.toNat n.toNat:=by unfold bdI bdy;rw [if_neg (by omega)]
  have q':=q _ g1
  rw [e] at q'
  rw [er];first|exact q'|(rw [ew];exact q')
theorem zOs (F:Fun K "ends_of" "ends_of" zH1 fq fd) (B:Blt mg) {zFi:Addr} (zJS:mg "STYLES" = some (.ref zFi))(sty:Sty w K zFi):FnOk P w K mg base CX0 1 fq fd ["style", "below"] (zC4 K):=by
 refine F.ok zO0 (fun vs H Q E h=>?_) (fun cdv A outer s H vs Q E hr h=>?_)
 ·obtain ⟨x,b,rfl,hx,q⟩:=h
  rfl
 obtain ⟨x,b,rfl,hx,q⟩:=h
 refine ⟨_,zAF (zBN (zBt (pv 1)) (zAJ (zAO (zAb zBc (zAb zVd (zDb rfl zJS (v:=.ref zFi) rfl) (pv 0) (fun _ _=>rfl)) (zAG) (fun _ _=>rfl)))) (zAY))
  (zAJ (zAO (zAb zBc (zAb zVd (zDb rfl zJS (v:=.ref zFi) rfl) (pv 0) (fun _ _=>rfl)) (zAG) (fun _ _=>rfl)))),?_⟩
 walk_at "st"
 obtain ⟨p,a,c,kd,sq⟩:=sty x hx
 cases b with
 | true =>
  walk_at "rd"
  refine zXR kd ?_
  walk_at "rd"
  exact zUP (sq H).1 rfl (q _ (sq H).2.2)
 | false =>
  walk_at "rd"
  refine zXR kd ?_
  walk_at "rd"
  exact zUP (sq H).1 rfl (q _ (sq H).2.1)
theorem zPl (F:Fun K "signed" "signed" zJP fq fd) (B:Blt mg) (zDB:Has P w K mg base "ends_of" 1 ["style", "below"] (zC4 K)):FnOk P w K mg base CX0 2 fq fd ["body", "style", "below"] (zGN K):=by
 refine F.ok zMR (fun vs H Q E h=>?_) (fun cdv A outer s H vs Q E hr h=>?_)
 ·obtain ⟨l,x,b,rfl,hx,hl,q⟩:=h
  rfl
 obtain ⟨l,x,b,rfl,hx,hl,q⟩:=h
 refine ⟨_,zAF (zAN (i:=3) zMR.nd rfl (Or.inl rfl) (zAI zDB hr rfl (zAA (pv 1) (zAA (pv 2) (zAE)))))
  (zAJ (zAO (zAR zDC (zAR zDC (zAb zBc (pv 3) (zAG) (fun _ _=>rfl)) (pv 0)) (zAb zBc (pv 3) (zAG) (fun _ _=>rfl))))),?_⟩
 walk_at "st"
 have ln:=zIz hx b
 walk_at "rd"
 exact q
theorem zE3 (F:Fun K "stands_between_figures" "stands_between_figures" zBd fq fd) (B:Blt mg) (zBa:mg "FIGURES" = some (.str "0123456789abcdef" zEc)):FnOk P w K mg base CX0 1 fq fd ["body"] (zBW K):=by
 refine F.ok zE8 (fun vs H Q E h=>?_) (fun cdv A outer s H vs Q E hr h=>?_)
 ·obtain ⟨l,rfl,al,hl,q1,q2⟩:=h
  rfl
 obtain ⟨l,rfl,al,hl,q1,q2⟩:=h
 refine ⟨_,zAJ (zAO (zGT (zBu zIq (pv 0) (zF7 (l:=[]) (by decide +kernel)) (zAZ _)) (zGT (zBu zOH (zAb zER (pv 0) (zAG) (fun _ _=>rfl)) (zDb rfl zBa (v:=.str "0123456789abcdef") ⟨_,rfl⟩) (by with_unfolding_all rfl)) (zHs (zBu zOH (zAb zER (pv 0) (zPV zKy (zAG)) (fun _ _=>rfl)) (zDb rfl zBa (v:=.str "0123456789abcdef") ⟨_,rfl⟩) (by with_unfolding_all rfl)))))),?_⟩
 walk_at "st"
 unfold Fg at q1 q2
 rcases eq_zero_or_pos l.length with p | p
 ·have e:=List.eq_nil_of_length_eq_zero p
  subst e
  walk_at "rd"
  exact q2 fun z=>z.1 rfl
 ·have c0:=zOW al (i:=0) p
  have c1:=zOW al (i:=l.length - 1) (by omega)
  have ne:l≠[]:=List.length_pos_iff.mp p
  walk_at "rd"
  ·rename_i h1 h2
   by_cases h3:0<=fv (l.getD (l.length - 1) 0)
   ·rw [decide_eq_true h3];exact q1 ⟨ne,h2,h3⟩
   ·rw [decide_eq_false h3];exact q2 fun z=>h3 z.2.2
  ·rename_i h1 h2
   exact q2 fun z=>h2 z.2.1
  ·rename_i h1
   exact absurd h1 (by rw [decide_eq_false ne];decide)
theorem zM7 (F:Fun K "unsigned" "unsigned" zG3 fq fd) (B:Blt mg) (zDB:Has P w K mg base "ends_of" 1 ["style", "below"] (zC4 K)) (zFS:Has P w K mg base "stands_between_figures" 1 ["body"] (zBW K)) (zK4:Has P w K mg base "signed" 2 ["body", "style", "below"] (zGN K)){zBB:Addr} (zG5:mg "NoCore" = some (.ref zBB)) (zLh:Exc K zBB) (vAU:Nm K "NoCore" zBB):FnOk P w K mg base (CXE P w) 3 fq fd ["core", "style"] (zDX K):=by
 refine F.okX zFz (fun vs H Q E h=>?_) (fun cdv A outer s H vs Q E hr h tk=>?_)
 ·obtain ⟨t,x,rfl,hx,al,hl,q1,q2⟩:=h
  all_goals rfl
 refine ⟨_,zAF (zGC PassesOwn.leaving rfl (zXO (zFI (zAA (zEz) (zAA (zEz) (zAE))))) (zAz (i:=2) zFz.nd rfl (Or.inl rfl)) (zAF (zAN (i:=3) zFz.nd rfl (Or.inl rfl) (zAI zDB hr rfl (zAA (pv 1) (zAA (pv 2) (zAE)))))
  (zAF (zAN (i:=4) zFz.nd rfl (Or.inl rfl) (zAw zDN (pv 0) (zAx (zAL zA6 B.vAA rfl zBF (zAA (zAb zBc (pv 3) (zAG) (fun _ _=>rfl)) (zAE)))) (zAx (zAR zCm (zAL zA6 B.vAA rfl zBF (zAA (pv 0) (zAE))) (zAL zA6 B.vAA rfl zBF (zAA (zAb zBc (pv 3) (zAG) (fun _ _=>rfl)) (zAE)))))))
  (zAJ (zBN (PW.pt (zOO (zBt (zAI zFS hr rfl (zAA (pv 4) (zAE)))) (zLJ (zAW zCl (zAI zK4 hr rfl (zAA (pv 4) (zAA (pv 1) (zAA (pv 2) (zAE))))) (pv 0) (zAZ _))))) (zAJ (zAO (zFI (zAA (pv 2) (zAA (pv 4) (zAE)))))) (zAY))))))
  (zAJ (zFl tk rfl zLh rfl zG5 (zAA (zA2) (zAE)))),?_⟩
 obtain ⟨t,x,rfl,hx,al,hl,q1,q2⟩:=h
 all_goals walk_at "st"
 have q2':=fun n0 n1 H' g=>q2 n0 n1 zBB H' vAU g
 walk_at "rd"
 rename_i p0 H0 g0 e0
 refine zUG (SqT.of e0) (fun i σ H'=>H'=H0/\(1<=i -> ¬ Sgd x false t)/\(2<=i -> ¬ Sgd x true t) /\ ∃ r1 r2 r3:Option V,σ=[some (.str (T t)),some (.str x),r1,r2,r3]) ⟨rfl,fun z=>absurd z (by omega),fun z=>absurd z (by omega),none,none,none,rfl⟩ (fun i σ H' _ z=>by rw [z.1];exact SqT.of e0) ?_ ?_
 ·rintro i y σ H' hi ⟨rfl,n0,n1,r1,r2,r3,rfl⟩
  have hm:=mem_of_getElem? hi
  simp only [mem_cons,not_mem_nil,or_false] at hm
  have hy : ∃ b:Bool,y = .bl b/\(b=false↔i=0)/\(b=true↔i=1):=by
   match i,hi with
   | 0,hi=>cases hi;exact ⟨false,rfl,by simp,by simp⟩
   | 1,hi=>cases hi;exact ⟨true,rfl,by simp,by simp⟩
   | i+2,hi=>cases hi
  obtain ⟨b,rfl,hb0,hb1⟩:=hy
  have sl:=zIz hx b
  have nxt : ¬ Sgd x b t->(1<=i+1 -> ¬ Sgd x false t)/\(2<=i+1 -> ¬ Sgd x true t):=fun h=>by
   cases b
   ·have:=hb0.mp rfl;subst this
    exact ⟨fun _=>h,fun z=>absurd z (by omega)⟩
   ·have:=hb1.mp rfl;subst this
    exact ⟨fun _=>n0 (by omega),fun _=>h⟩
  have ab:Asc (bod x b t):=zUl al
  have lb:=zUi (x:=x) (b:=b) (t:=t)
  rcases eq_zero_or_pos t.length with tz | tz
  ·have e:=List.eq_nil_of_length_eq_zero tz
   subst e
   have nb : ¬ Sgd x b []:=fun z=>by
    have:=List.length_pos_iff.mpr z.1.1
    rw [lb] at this;simp at this
   have anil:Asc []:=Asc.nil
   walk_at "rd"
   ·rename_i fg _ _ _ _ _
    exact absurd rfl fg.1
   ·rename_i fg _
    exact absurd rfl fg.1
   ·exact ⟨rfl,(nxt nb).1,(nxt nb).2,_,_,_,rfl⟩
  ·have eb:(t.take ((t.length:Int) - (stT x b).length).toNat).drop ((stL x b).length:Int).toNat=bod x b t:=by
    unfold bod;rw [toNat_natCast,show ((t.length:Int) - (stT x b).length).toNat=t.length - (stT x b).length by omega]
   walk_at "rd"
   rw [eb]
   walk_at "rd"
   ·rename_i fg hc p1 H1 g1 e1
    exact q1 b ⟨fg,hc⟩ _ _ (g0.trans g1) e1
   ·rename_i fg hc
    have n:=nxt fun z=>hc z.2
    exact ⟨rfl,n.1,n.2,_,_,_,rfl⟩
   ·rename_i fg
    have n:=nxt fun z=>fg z.1
    exact ⟨rfl,n.1,n.2,_,_,_,rfl⟩
 ·rintro σ H' ⟨rfl,n0,n1,r1,r2,r3,rfl⟩
  walk_at "rd"
  exact ⟨small (by decide),q2' (n0 (by decide)) (n1 (by decide)) _ g0⟩
theorem zMx (F:Fun K "is_whole" "is_whole" zHG fq fd) (B:Blt mg):FnOk P w K mg base CX0 1 fq fd ["thing"] (zEM K):=by
 refine F.ok zNg (fun vs H Q E h=>?_) (fun cdv A outer s H vs Q E hr h=>?_)
 ·obtain ⟨i,rfl,q⟩:=h
  rfl
 obtain ⟨i,rfl,q⟩:=h
 refine ⟨_,zAJ (zAO (zGT (zAL zCt B.vAC rfl zBC (zAA (pv 0) (zAA (zE0 rfl B.vAG zTB (v:=.ty "int") rfl) (zAE)))) (zHs (zTJ (zAL zCt B.vAC rfl zBC (zAA (pv 0) (zAA (zE0 rfl B.vAH zQ2 (v:=.ty "bool") rfl) (zAE)))))))),?_⟩
 walk_at "st"
 walk_at "rd"
 exact q
theorem zIS (F:Fun K "common_divisor" "common_divisor" zCw fq fd) (B:Blt mg):FnOk P w K mg base CX0 1 fq fd ["one", "other"] (zCA K):=by
 refine F.ok zBl (fun vs H Q E h=>?_) (fun cdv A outer s H vs Q E hr h=>?_)
 ·obtain ⟨a,b,rfl,q⟩:=h
  rfl
 obtain ⟨a,b,rfl,q⟩:=h
 refine ⟨_,zAF (zAN (i:=2) zBl.nd rfl (Or.inl rfl) (zAL zH5 B.vAI rfl zN6 (zAA (pv 0) (zAE))))
  (zAF (zAN (i:=3) zBl.nd rfl (Or.inl rfl) (zAL zH5 B.vAI rfl zN6 (zAA (pv 1) (zAE))))
  (zAF (zJN PassesOwn.never (zAW zIq (pv 3) (zAG) (zAZ _)) (zAF (zAN (i:=4) zBl.nd rfl (Or.inl rfl) (zAR zC0 (pv 2) (pv 3)))
  (zAF (zAN (i:=2) zBl.nd rfl (Or.inl rfl) (pv 3))
  (zAJ (zAN (i:=3) zBl.nd rfl (Or.inl rfl) (pv 4))))))
  (zAJ (zAO (pv 2))))),?_⟩
 walk_at "st"
 walk_at "rd"
 rename_i k1 hk1 k2 hk2
 have ha:=zVM hk1 hk2
 refine zLB (fun m σ H'=>H'=H /\ ∃ (g l:Int) (r:Option V),σ=[some (.int a),some (.int b),some (.int g),some (.int l),r]/\0<=g/\0<=l/\Int.gcd g l=Int.gcd a b/\m=l.toNat) ⟨_,rfl,k1,k2,none,rfl,ha.1,ha.2.1,ha.2.2,rfl⟩ ?_
 rintro m σ H' ⟨rfl,g,l,r,rfl,hg,hl,hgl,rfl⟩
 walk_at "rd"
 ·rename_i hc
  have:l=0:=by omega
  subst this
  have e:g=((Int.gcd a b:Nat):Int):=by rw [<- hgl];simp;omega
  rw [e];exact q
 ·rename_i hc
  have hc':0 < l:=by omega
  have h1:=emod_nonneg g (show l≠0 by omega)
  have h2:=emod_lt_of_pos g hc'
  exact ⟨_,by omega,rfl,_,_,_,rfl,by omega,h1,by rw [zSY hg hc'];exact hgl,rfl⟩
theorem zKa (F:Fun K "is_fraction" "is_fraction" zEB fq fd) (B:Blt mg) (zFF:Has P w K mg base "is_whole" 1 ["thing"] (zEM K)) (zDw:Has P w K mg base "common_divisor" 1 ["one", "other"] (zCA K)):FnOk P w K mg base CX0 2 fq fd ["thing"] (zDh K):=by
 refine F.ok zKZ (fun vs H Q E h=>?_) (fun cdv A outer s H vs Q E hr h=>?_)
 ·obtain ⟨p,a,b,rfl,hp,h1,h2,q⟩:=h
  rfl
 obtain ⟨p,a,b,rfl,hp,h1,h2,q⟩:=h
 refine ⟨_,zAF (zBN (PW.pt (zI8 (zCT (zBt (zAL zCt B.vAC rfl zBC (zAA (pv 0) (zAA (zE0 rfl B.vAK zN1 (v:=.ty "tuple") rfl) (zAE)))))) (zGA (zAW zIq (zAL zBR B.vAA rfl zBF (zAA (pv 0) (zAE))) (zAG) (zAZ _))))) (zAJ (zAO (zEz))) (zAY))
  (zAF (zBN (PW.pt (zI8 (zCT (zBt (zAI zFF hr rfl (zAA (zAb zBc (pv 0) (zAG) (fun _ _=>rfl)) (zAE))))) (zGA (zCT (zBt (zAI zFF hr rfl (zAA (zAb zBc (pv 0) (zAG) (fun _ _=>rfl)) (zAE)))))))) (zAJ (zAO (zEz))) (zAY))
  (zAJ (zAO (zGT (zBu zTn (zAb zBc (pv 0) (zAG) (fun _ _=>rfl)) (zAG) (zAZ _)) (zHs (zBu zCl (zAI zDw hr rfl (zAA (zAb zBc (pv 0) (zAG) (fun _ _=>rfl)) (zAA (zAb zBc (pv 0) (zAG) (fun _ _=>rfl)) (zAE)))) (zAG) (zAZ _))))))),?_⟩
 walk_at "st"
 have h3:((Int.gcd a b:Nat):Int)=1:=by rw [h2];rfl
 walk_at "rd"
 rw [decide_eq_true h3]
 exact q
theorem zMs (F:Fun K "ungrouped" "ungrouped" zFr fq fd) (B:Blt mg) (zFH:Has P w K mg base "parts_of" 1 ["text", "size", "between"] (zC1 K)) (zKN:Has P w K mg base "grouped" 2 ["text", "size", "mark"] (zFN K)) {zGd:Tok} (zGS:mg "MOST_SIGNS" = some (.int 40 zGd)){zAj:Addr} (zEG:mg "NoGroups" = some (.ref zAj)) (zIW:Exc K zAj) (vAS:Nm K "NoGroups" zAj):FnOk P w K mg base (CXE2 P w) 3 fq fd ["text", "size", "mark"] (zEr K):=by
 refine F.okX2 zI4 (fun vs H Q E h=>?_) (fun cdv A outer s H vs Q E hr h tk=>?_)
 ·obtain ⟨t,z,m,rfl,h1,h2,h3,q1,q2⟩:=h
  all_goals rfl
 refine ⟨_,zAF (zAN (i:=3) zI4.nd rfl (Or.inl rfl) (zLC (zAW zCl (pv 1) (zAG) (zAZ _)) (pv 0) (zGL PySem.F.plainAttrs_str PySem.F.slot_str_join PySem.F.type_str_join zLL (zF7 (l:=[]) (by decide +kernel)) (zAA (zAI zFH hr rfl (zAA (pv 0) (zAA (pv 1) (zAA (zAG) (zAE))))) (zAE)))))
  (zAF (zBN (PW.pt (zI8 (zCT (zLP zOd zOd (zAG) (zAL zA6 B.vAA rfl zBF (zAA (pv 3) (zAE))) (zDb rfl zGS (v:=.int 40) ⟨_,rfl⟩))) (zGA (zAW zIq (zAI zKN hr rfl (zAA (pv 3) (zAA (pv 1) (zAA (pv 2) (zAE))))) (pv 0) (zAZ _))))) (zAJ (zFl tk rfl zIW rfl zEG (zAA (zA2) (zAE)))) (zAY))
  (zAJ (zAO (pv 3)))),?_⟩
 obtain ⟨t,z,m,rfl,h1,h2,h3,q1,q2⟩:=h
 all_goals walk_at "st"
 have lu:=zWS (z:=z.toNat) (t:=t)
 have q2':=fun b H' g=>q2 b zAj H' vAS g
 rcases Decidable.em (z=0) with hz | hz
 ·subst hz
  have e:ug (Int.toNat 0) t=t:=rfl
  have eg:gr (Int.toNat 0) m t=t:=zGf
  unfold GG at q1 q2'
  rw [e,eg] at q1 q2'
  walk_at "rd"
  ·exact q1 ⟨by omega,by omega,rfl⟩ _ (by assumption)
  all_goals exact ⟨small (by decide),q2' (fun z=>by have:=z.1;have:=z.2.1;omega) _ (Same.refl _)⟩
 ·have bd:=zN7 (a:=t) (g:=1) (show 0 < z.toNat by omega) t.length t.length (Nat.le_refl _)
  walk_at "rd"
  rename_i p' H' g' e'
  refine zNU e' (by rw [Lt_T,length_nil,show Int.toNat 1=1 from rfl];omega) ?_
  rw [Lt_T,zSp,show Int.toNat 1=1 from rfl,zVc (by omega)]
  walk_at "rd"
  ·exact q1 ⟨by omega,by omega,by assumption⟩ _ (by walk_at "sm")
  ·rename_i hc
   exact ⟨small (by decide),q2' (fun z=>hc z.2.2) _ (by walk_at "sm")⟩
  all_goals exact ⟨small (by decide),q2' (fun z=>by have:=z.1;have:=z.2.1;omega) _ (by walk_at "sm")⟩
theorem zMg (F:Fun K "number_of" "number_of" zFd fq fd) (B:Blt mg) {zE2:Tok} (zEy:mg "MOST_FIGURES" = some (.int 240 zE2)) (zBa:mg "FIGURES" = some (.str "0123456789abcdef" zEc)){zAd:Addr} (zCz:mg "NoFigures" = some (.ref zAd)) (zF0:Exc K zAd) (vAR:Nm K "NoFigures" zAd):FnOk P w K mg base (CXE2 P w) 1 fq fd ["text", "base"] (zEm K):=by
 refine F.okX2 zDq (fun vs H Q E h=>?_) (fun cdv A outer s H vs Q E hr h tk=>?_)
 ·obtain ⟨l,b,rfl,al,h1,h2,h3,h4,q1,q2⟩:=h
  all_goals rfl
 refine ⟨_,zAF (zBN (PW.pt (zI8 (zCT (zBt (zAL zCt B.vAC rfl zBC (zAA (pv 0) (zAA (zE0 rfl B.vAD zOa (v:=.ty "str") rfl) (zAE)))))) (zGA (zCT (zLP zOd zOd (zAG) (zAL zA6 B.vAA rfl zBF (zAA (pv 0) (zAE))) (zDb rfl zEy (v:=.int 240) ⟨_,rfl⟩)))))) (zAJ (zFl tk rfl zF0 rfl zCz (zAA (zA2) (zAE)))) (zAY))
  (zAF (zAN (i:=2) zDq.nd rfl (Or.inl rfl) (zAG))
  (zAF (zGC PassesOwn.leaving rfl (zPk (pv 0)) (zAz (i:=3) zDq.nd rfl (Or.inl rfl)) (zAF (zAN (i:=4) zDq.nd rfl (Or.inl rfl) (zGL PySem.F.plainAttrs_str PySem.F.slot_str_find PySem.F.type_str_find zRf (zDb rfl zBa (v:=.str "0123456789abcdef") ⟨_,rfl⟩) (zAA (pv 3) (zAE))))
  (zAF (zBN (PW.pt (zI8 (zAW zPH (pv 4) (zAG) (zAZ _)) (zGA (zAW zTn (pv 4) (pv 1) (zAZ _))))) (zAJ (zFl tk rfl zF0 rfl zCz (zAA (zA2) (zAE)))) (zAY))
  (zAJ (zAN (i:=2) zDq.nd rfl (Or.inl rfl) (zAR zBA (zAR zEY (pv 2) (pv 1)) (pv 4)))))))
  (zAJ (zAO (pv 2))))),?_⟩
 obtain ⟨l,b,rfl,al,h1,h2,h3,h4,q1,q2⟩:=h
 all_goals walk_at "st"
 have q2':=fun n=>q2 n zAd vAR
 walk_at "rd"
 refine zUw (fun i σ H'=>H'=H/\FigB b (l.take i) /\ ∃ r1 r2:Option V,σ=[some (.str (T l)),some (.int b),some (.int (val b (l.take i))),r1,r2]) ⟨rfl,by rw [List.take_zero];exact fun _ z=>(nomatch z),none,none,rfl⟩ ?_ ?_
 ·rintro i c σ H' hi ⟨rfl,hf,r1,r2,rfl⟩
  have hm:=mem_of_getElem? hi
  have hc1:=al c hm
  walk_at "rd"
  ·exact ⟨small (by decide),q2' (fun z=>by have:=(z c hm).2.1;omega)⟩
  ·exact ⟨small (by decide),q2' (fun z=>by have:=(z c hm).2.2;omega)⟩
  ·refine ⟨rfl,hf.snoc hi hc1 (by omega) (by omega),some (.str (T [c])),some (.int (fv c)),?_⟩
   rw [take_succ,hi,show (some c).toList=[c] from rfl,zIs];rfl
 ·rintro σ H' ⟨rfl,hf,r1,r2,rfl⟩
  rw [take_length] at hf
  walk_at "rd"
  rw [take_length];exact q1 hf
variable {zA3:Addr}
theorem zMU (F:Fun K "whole_end" "whole_end" zF5 fq fd) (B:Blt mg) (zDd:mg "NoBody" = some (.ref zA3)) (zF4:Exc K zA3) (vAT:Nm K "NoBody" zA3):FnOk P w K mg base (CXE P w) 1 fq fd ["body", "places", "point"] (zEh K):=by
 refine F.okX zI5 (fun vs H Q E h=>?_) (fun cdv A outer s H vs Q E hr h tk=>?_)
 ·obtain ⟨t,p,pt,rfl,h1,h2,h3,q1,q2⟩:=h
  all_goals rfl
 refine ⟨_,zAF (zBN (zAW zCl (pv 1) (zAG) (zAZ _)) (zAJ (zAO (zAL zA6 B.vAA rfl zBF (zAA (pv 0) (zAE))))) (zAY))
  (zAF (zAN (i:=3) zI5.nd rfl (Or.inl rfl) (zAR zCm (zAR zCm (zAL zA6 B.vAA rfl zBF (zAA (pv 0) (zAE))) (pv 1)) (zAG)))
  (zAF (zBN (PW.pt (zI8 (zAW zPH (pv 3) (zAG) (zAZ _)) (zGA (zAW zIq (zAb zER (pv 0) (pv 3) (fun _ _=>rfl)) (pv 2) (zAZ _))))) (zAJ (zFl tk rfl zF4 rfl zDd (zAA (zA2) (zAE)))) (zAY))
  (zAJ (zAO (pv 3))))),?_⟩
 obtain ⟨t,p,pt,rfl,h1,h2,h3,q1,q2⟩:=h
 all_goals walk_at "st"
 have q2':=fun n=>q2 n zA3 vAT
 walk_at "rd"
 ·rename_i hc
  subst hc
  exact q1 (.inl rfl)
 ·exact ⟨small (by decide),q2' (fun h=>h.elim (fun h=>by omega) fun h=>by have:=h.1;omega)⟩
 ·rename_i hc
  have e1:((t.length:Int) - p - 1).toNat=t.length - p.toNat - 1:=by omega
  rw [e1] at hc
  have e2:((zC8 p.toNat t).length:Int)=(t.length:Int) - p - 1:=by unfold zC8;rw [if_neg (by omega),length_take];omega
  have q':=q1 (.inr ⟨by omega,by simpa using hc⟩)
  rw [e2] at q';exact q'
 ·rename_i hc
  have e1:((t.length:Int) - p - 1).toNat=t.length - p.toNat - 1:=by omega
  rw [e1] at hc
  exact ⟨small (by decide),q2' (fun h=>h.elim (fun h=>by omega) fun h=>hc (by rw [h.2]))⟩
theorem zLx (F:Fun K "number_in" "number_in" zFy fq fd) (B:Blt mg) (zNq:HasX P w K mg base "whole_end" 1 ["body", "places", "point"] (zEh K)) (zNV:zQL P w K mg base "ungrouped" 3 ["text", "size", "mark"] (zEr K)) (zNe:zQL P w K mg base "number_of" 1 ["text", "base"] (zEm K)){zAj zAd:Addr} (zEG:mg "NoGroups" = some (.ref zAj)) (zCz:mg "NoFigures" = some (.ref zAd)) (zDd:mg "NoBody" = some (.ref zA3)) (zF4:Exc K zA3) (vAS:Nm K "NoGroups" zAj) (vAR:Nm K "NoFigures" zAd) (vAT:Nm K "NoBody" zA3) (xg:W.exmAny K (.ref zAj) [.ref zAj,.ref zAd]=some true) (xf:W.exmAny K (.ref zAd) [.ref zAj,.ref zAd]=some true):FnOk P w K mg base (CXE P w) 4 fq fd ["body", "base", "places", "point", "size", "mark"] (zEv K):=by
 refine F.okX zEq (fun vs H Q E h=>?_) (fun cdv A outer s H vs Q E hr h tk=>?_)
 ·obtain ⟨t,b,p,z,pt,m,rfl,h1,h2,h3,h4,h5,h6,h7,h8,q1,q2⟩:=h
  all_goals rfl
 refine ⟨_,zAF (zAN (i:=6) zEq.nd rfl (Or.inl rfl) (zRV zNq zL2 hr rfl (zAA (pv 0) (zAA (pv 2) (zAA (pv 3) (zAE))))))
  (zAF (zUr rfl rfl rfl zF4 zT5 (fun _=>PassesOwnAt.leaving) rfl zEG rfl zCz rfl zDd (fun _ _ _=>zAF (zAN (i:=7) zEq.nd rfl (Or.inl rfl) (zMH zNV hr rfl (zAA (zAw zDN (pv 0) (zBe) (zAx (pv 6))) (zAA (pv 4) (zAA (pv 5) (zAE))))))
  (zAJ (zAN (i:=8) zEq.nd rfl (Or.inl rfl) (zMH zNe hr rfl (zAA (zAR zDC (pv 7) (zAw zDN (pv 0) (zAx (zAR zBA (pv 6) (zAG))) (zBe))) (zAA (pv 1) (zAE))))))))
  (zAF (zBN (PW.pt (zOO (zAW zIf (zAL zA6 B.vAA rfl zBF (zAA (pv 7) (zAE))) (zAG) (zAZ _)) (zLJ (zAW zCl (zAb zER (pv 7) (zAG) (fun _ _=>rfl)) (zF7 (l:=[48]) (by decide +kernel)) (zAZ _))))) (zAJ (zFl tk rfl zF4 rfl zDd (zAA (zA2) (zAE)))) (zAY))
  (zAJ (zAO (pv 8))))),?_⟩
 obtain ⟨t,b,p,z,pt,m,rfl,h1,h2,h3,h4,h5,h6,h7,h8,q1,q2⟩:=h
 all_goals walk_at "st"
 have q2':=fun n H' g=>q2 n zA3 H' vAT g
 walk_at "rd"
 refine ⟨t,p,pt,rfl,h3,h4,h7,fun we=>?_,fun nw C nC=>?_⟩
 ·have t1:t.take ((zC8 p.toNat t).length:Int).toNat=zC8 p.toNat t:=by rw [toNat_natCast];exact zOm
  have t2:t.drop (((zC8 p.toNat t).length:Int)+1).toNat=zH8 p.toNat t:=by rw [show (((zC8 p.toNat t).length:Int)+1).toNat=(zC8 p.toNat t).length+1 by omega];exact zPO we
  have wl:=zP4 (p:=p.toNat) (t:=t)
  have rl:=zMj we
  have pa:=zSX (p:=p.toNat) (z:=z.toNat) h8
  walk_at "rd"
  refine zVf [some (.str (T t)),some (.int b),some (.int p),some (.str (T [pt])),some (.int z),some (.str (T [m])),some (.int (zC8 p.toNat t).length),none,none] ?_
  walk_at "rd"
  rw [t1]
  refine ⟨zC8 p.toNat t,z,m,rfl,h5,h6,by omega,fun gg H1 g1=>?_,fun ng C H1 nC g1=>?_⟩
  ·have g2:=gg.1;have g3:=gg.2.1
   walk_at "rd"
   rw [t2]
   walk_at "rd"
   refine ⟨_,b,rfl,pa,by rw [length_append];omega,by rw [length_append];omega,h1,h2,fun fb=>?_,fun nf C nC=>?_⟩
   ·walk_at "rd"
    ·rename_i c1 c2
     exact ⟨small (by decide),q2' (fun h=>h.2.2.2 ⟨by omega,by simpa using c2⟩) _ g1⟩
    ·rename_i c1 c2
     exact q1 ⟨we,gg,fb,fun h=>c2 (by rw [show Int.toNat 0=0 from rfl,h.2])⟩ _ g1
    ·rename_i c1
     exact q1 ⟨we,gg,fb,fun h=>c1 (by have:=h.1;omega)⟩ _ g1
   ·have:=Nm.eq nC vAR
    subst this
    exact ⟨_,rfl,xf,q2' (fun h=>nf h.2.2.1) _ g1⟩
  ·have:=Nm.eq nC vAS
   subst this
   exact ⟨_,rfl,xg,q2' (fun h=>ng h.2.1) _ g1⟩
 ·have:=Nm.eq nC vAT
  subst this
  exact q2' (fun h=>nw h.1) _ (Same.refl _)
def zLH (L:Addr):List (Str × V):=[("names", .ref L)]
def wns:List Str:=["signs", "least", "most"]
def cns:List Str:=["names"]
theorem zUv {L:Addr} {m:Str} (h1:m ≠ "names"):(zLH L).lookup m=none:=(zBb h1).trans rfl
section
variable {H : Hp} {a C L : Addr} {wd : Int} {f : Nat} {x : Str} {st : Bool}
theorem zSG (F:zAT K H a C wd f x st (zLH L)):zEJ K H a "names" (.ref L):=F.own (by decide +kernel) zHL (mem_cons_self ..)
theorem zK6 {m:Str} (F:zAT K H a C wd f x st (zLH L)) (h0:m ∉ bns) (h1:m ≠ "names"):InsM H a C m:=F.meth h0 (zUv h1)
end
local macro_rules | `(tactic| walk_at "fld2")=>`(tactic| (exact zSG (by walk_at "fm")))
local macro_rules | `(tactic| walk_at "ins")=>`(tactic| exact zK6 (by walk_at "fm") (by decide +kernel) (by decide +kernel))
def zCq (K:W.Frag):Sp:=fun vs H Q _=>∃ (C a dx:Addr) (wd:Int) (f:Nat) (x:Str) (st:Bool),vs=[.ref a,.int wd,.str (T [f]),.str x,.bl st]/\Cls K C/\zCd K C bns/\H a=some (.ins C dx [])/\Q .non (upd H a (.ins C dx (bfs wd f x st [])))
theorem zI6 (F:FunD K "__init__" "Form.__init__" zBp fq fd) (B:Blt mg):FnOk P w K mg base CX0 1 fq fd ["self", "width", "fill", "side", "strict"] (zCq K):=by
 refine F.ok zI7 (fun vs H Q E h=>?_) (fun cdv A outer s H vs Q E hr h=>?_)
 ·obtain ⟨C,a,dx,wd,f,x,st,rfl,cl,na,e0,q⟩:=h
  rfl
 obtain ⟨C,a,dx,wd,f,x,st,rfl,cl,na,e0,q⟩:=h
 refine ⟨_,zAF (zDz (pv 0) (pv 1) rfl)
  (zAF (zDz (pv 0) (pv 2) rfl)
  (zAF (zDz (pv 0) (pv 3) rfl)
  (zAJ (zDz (pv 0) (pv 4) rfl)))),?_⟩
 walk_at "st"
 walk_at "rd"
 refine zD0 e0 cl (na.at (by decide +kernel)) (by decide) ?_
 rw [zB4]
 walk_at "rd"
 refine zD0 zAU cl (na.at (by decide +kernel)) (by show 1 < 1000;decide) ?_
 rw [zCf,zAm (by decide +kernel),zB4]
 walk_at "rd"
 refine zD0 zAU cl (na.at (by decide +kernel)) (by show 2 < 1000;decide) ?_
 rw [zCf,zAm (by decide +kernel),zAm (by decide +kernel),zB4]
 walk_at "rd"
 refine zD0 zAU cl (na.at (by decide +kernel)) (by show 3 < 1000;decide) ?_
 rw [zCf,zAm (by decide +kernel),zAm (by decide +kernel),zAm (by decide +kernel),zB4]
 walk_at "rd"
 exact q
def zDy (K:W.Frag) (C:Addr):Sp:=fun vs H Q _=>∃ (a dx:Addr) (sg:List Nat) (lo hi wd:Int) (f:Nat) (x:Str) (st:Bool),vs=[.ref a,.str (T sg),.int lo,.int hi,.int wd,.str (T [f]),.str x,.bl st]/\H a=some (.ins C dx [])/\Q .non (upd H a (.ins C dx (bfs wd f x st (zGh sg lo hi))))
variable {zCc zAD:Addr}
theorem zHN (F:FunD K "__init__" "WordForm.__init__" zAq fq fd) (B:Blt mg) (zIE:mg "Form" = some (.ref zCc)) (zEb:HasC P w K mg base CX0 zCc "__init__" 1 ["self", "width", "fill", "side", "strict"] (zCq K))(cl:Cls K zAD) (na:zCd K zAD (bns++wns)):FnOk P w K mg base CX0 2 fq fd ["self", "signs", "least", "most", "width", "fill", "side", "strict"] (zDy K zAD):=by
 refine F.ok zHR (fun vs H Q E h=>?_) (fun cdv A outer s H vs Q E hr h=>?_)
 ·obtain ⟨a,dx,sg,lo,hi,wd,f,x,st,rfl,e0,q⟩:=h
  rfl
 obtain ⟨a,dx,sg,lo,hi,wd,f,x,st,rfl,e0,q⟩:=h
 refine ⟨_,zAF (zCy (zKM zEb zBV hr rfl zIE (zAA (pv 0) (zAA (pv 4) (zAA (pv 5) (zAA (pv 6) (zAA (pv 7) (zAE))))))))
  (zAF (zDz (pv 0) (pv 1) rfl)
  (zAF (zDz (pv 0) (pv 2) rfl)
  (zAJ (zDz (pv 0) (pv 3) rfl)))),?_⟩
 walk_at "st"
 have na0:zCd K zAD bns:=⟨na.1,na.2.1,na.2.2.1,na.2.2.2.1,trivial⟩
 walk_at "rd"
 refine ⟨zAD,a,dx,wd,f,x,st,rfl,cl,na0,e0,?_⟩
 walk_at "rd"
 refine zD0 zAU cl (na.at (by decide +kernel)) (by show 4 < 1000;decide) ?_
 rw [zCf,zDu (by decide +kernel),zB4]
 walk_at "rd"
 refine zD0 zAU cl (na.at (by decide +kernel)) (by show 5 < 1000;decide) ?_
 rw [zCf,zDu (by decide +kernel),zAm (by decide +kernel),zB4]
 walk_at "rd"
 refine zD0 zAU cl (na.at (by decide +kernel)) (by show 6 < 1000;decide) ?_
 rw [zCf,zDu (by decide +kernel),zAm (by decide +kernel),zAm (by decide +kernel),zB4]
 walk_at "rd"
 exact q
def zDQ (K:W.Frag) (C:Addr):Sp:=fun vs H Q _=>∃ (a dx p:Addr) (ns:List (List Nat)) (wd:Int) (f:Nat) (x:Str) (st:Bool),vs=[.ref a,.ref p,.int wd,.str (T [f]),.str x,.bl st]/\H a=some (.ins C dx [])/\H p=some (.lst (tsV ns)) /\
 ∀ L H',SB a H H'->H L=none->H' L=some (.lst (tsV ns))->H' a=some (.ins C dx (bfs wd f x st (zLH L)))->Q .non H'
variable {zAC:Addr}
theorem zGJ (F:FunD K "__init__" "ChoiceForm.__init__" zAf fq fd) (B:Blt mg) (zIE:mg "Form" = some (.ref zCc)) (zEb:HasC P w K mg base CX0 zCc "__init__" 1 ["self", "width", "fill", "side", "strict"] (zCq K))(cl:Cls K zAC) (na:zCd K zAC (bns++cns)):FnOk P w K mg base CX0 2 fq fd ["self", "names", "width", "fill", "side", "strict"] (zDQ K zAC):=by
 refine F.ok zGI (fun vs H Q E h=>?_) (fun cdv A outer s H vs Q E hr h=>?_)
 ·obtain ⟨a,dx,p,ns,wd,f,x,st,rfl,e0,hp,q⟩:=h
  rfl
 obtain ⟨a,dx,p,ns,wd,f,x,st,rfl,e0,hp,q⟩:=h
 refine ⟨_,zAF (zCy (zKM zEb zBV hr rfl zIE (zAA (pv 0) (zAA (pv 2) (zAA (pv 3) (zAA (pv 4) (zAA (pv 5) (zAE))))))))
  (zAJ (zDz (pv 0) (zGo zJr rfl B.vAJ zKJ (zAA (pv 1) (zAE))) rfl)),?_⟩
 walk_at "st"
 have na0:zCd K zAC bns:=⟨na.1,na.2.1,na.2.2.1,na.2.2.2.1,trivial⟩
 walk_at "rd"
 refine ⟨zAC,a,dx,wd,f,x,st,rfl,cl,na0,e0,?_⟩
 walk_at "rd"
 have nap:p≠a:=fun z=>by rw [z,e0] at hp;cases hp
 refine zOS (SqL.of (show upd H a (.ins zAC dx (bfs wd f x st [])) p=some (.lst (tsV ns)) by rw [zBY nap];exact hp)) fun l H1 g1 n1 e1=>?_
 have nla:l≠a:=fun z=>by rw [z,zAU] at n1;cases n1
 rw [zBY nla] at n1
 walk_at "rd"
 refine zD0 (g1.at zAU) cl (na.at (by decide +kernel)) (by show 4 < 1000;decide) ?_
 rw [zDu (by decide +kernel),zB4]
 walk_at "rd"
 refine q l _ (fun b o hb e=>?_) n1 (by rw [zBY nla];exact e1) zAU
 rw [zBY hb]
 exact g1.at (by rw [zBY hb];exact e)
def zDR (K:W.Frag) (C:Addr):Sp:=fun vs H Q _=>∃ (a dx:Addr) (fg pl b:Int) (sn:Str) (z:Int) (m pt:Nat) (wy:Str) (wd:Int) (f:Nat) (x:Str) (st:Bool),vs=[.ref a,.int fg,.int pl,.int b,.str sn,.int z,.str (T [m]),.str (T [pt]),.str wy,.int wd,.str (T [f]),.str x,.bl st]/\H a=some (.ins C dx [])/\Q .non (upd H a (.ins C dx (bfs wd f x st (zB9 fg pl b sn z m pt wy))))
variable {zAB:Addr}
theorem zGH (F:FunD K "__init__" "NumberForm.__init__" zAe fq fd) (B:Blt mg) (zIE:mg "Form" = some (.ref zCc)) (zEb:HasC P w K mg base CX0 zCc "__init__" 1 ["self", "width", "fill", "side", "strict"] (zCq K))(cl:Cls K zAB) (na:zCd K zAB (bns++nns)):FnOk P w K mg base CX0 2 fq fd ["self", "figures", "places", "base", "sign", "size", "mark", "point", "way", "width", "fill", "side", "strict"] (zDR K zAB):=by
 refine F.ok zGF (fun vs H Q E h=>?_) (fun cdv A outer s H vs Q E hr h=>?_)
 ·obtain ⟨a,dx,fg,pl,b,sn,z,m,pt,wy,wd,f,x,st,rfl,e0,q⟩:=h
  rfl
 obtain ⟨a,dx,fg,pl,b,sn,z,m,pt,wy,wd,f,x,st,rfl,e0,q⟩:=h
 refine ⟨_,zAF (zCy (zKM zEb zBV hr rfl zIE (zAA (pv 0) (zAA (pv 9) (zAA (pv 10) (zAA (pv 11) (zAA (pv 12) (zAE))))))))
  (zAF (zDz (pv 0) (pv 1) rfl)
  (zAF (zDz (pv 0) (pv 2) rfl)
  (zAF (zDz (pv 0) (pv 3) rfl)
  (zAF (zDz (pv 0) (pv 4) rfl)
  (zAF (zDz (pv 0) (pv 5) rfl)
  (zAF (zDz (pv 0) (pv 6) rfl)
  (zAF (zDz (pv 0) (pv 7) rfl)
  (zAJ (zDz (pv 0) (pv 8) rfl))))))))),?_⟩
 walk_at "st"
 walk_at "rd"
 refine ⟨zAB,a,dx,wd,f,x,st,rfl,cl,⟨na.1,na.2.1,na.2.2.1,na.2.2.2.1,trivial⟩,e0,?_⟩
 walk_at "rd"
 refine zD0 zAU cl (na.at (by decide +kernel)) (by show 4 < 1000;decide) ?_
 rw [zCf,zDu (by decide +kernel),zB4]
 walk_at "rd"
 refine zD0 zAU cl (na.at (by decide +kernel)) (by show 5 < 1000;decide) ?_
 rw [zCf,zDu (by decide +kernel),zAm (by decide +kernel),zB4]
 walk_at "rd"
 refine zD0 zAU cl (na.at (by decide +kernel)) (by show 6 < 1000;decide) ?_
 rw [zCf,zDu (by decide +kernel),zAm (by decide +kernel),zAm (by decide +kernel),zB4]
 walk_at "rd"
 refine zD0 zAU cl (na.at (by decide +kernel)) (by show 7 < 1000;decide) ?_
 rw [zCf,zDu (by decide +kernel),zAm (by decide +kernel),zAm (by decide +kernel),zAm (by decide +kernel),zB4]
 walk_at "rd"
 refine zD0 zAU cl (na.at (by decide +kernel)) (by show 8 < 1000;decide) ?_
 rw [zCf,zDu (by decide +kernel),zAm (by decide +kernel),zAm (by decide +kernel),zAm (by decide +kernel),zAm (by decide +kernel),zB4]
 walk_at "rd"
 refine zD0 zAU cl (na.at (by decide +kernel)) (by show 9 < 1000;decide) ?_
 rw [zCf,zDu (by decide +kernel),zAm (by decide +kernel),zAm (by decide +kernel),zAm (by decide +kernel),zAm (by decide +kernel),zAm (by decide +kernel),zB4]
 walk_at "rd"
 refine zD0 zAU cl (na.at (by decide +kernel)) (by show 10 < 1000;decide) ?_
 rw [zCf,zDu (by decide +kernel),zAm (by decide +kernel),zAm (by decide +kernel),zAm (by decide +kernel),zAm (by decide +kernel),zAm (by decide +kernel),zAm (by decide +kernel),zB4]
 walk_at "rd"
 refine zD0 zAU cl (na.at (by decide +kernel)) (by show 11 < 1000;decide) ?_
 rw [zCf,zDu (by decide +kernel),zAm (by decide +kernel),zAm (by decide +kernel),zAm (by decide +kernel),zAm (by decide +kernel),zAm (by decide +kernel),zAm (by decide +kernel),zAm (by decide +kernel),zB4]
 walk_at "rd"
 exact q
theorem zEg (F:FunD K "is_too_great" "NumberForm.is_too_great" zAh fq fd) (B:Blt mg) (zFM:Has P w K mg base "power_of" 1 ["base", "times"] (zDc K)):FnOk P w K mg base CX0 2 fq fd ["self", "number"] (zBO K zAB):=by
 refine F.ok zEf (fun vs H Q E h=>?_) (fun cdv A outer s H vs Q E hr h=>?_)
 ·obtain ⟨a,fg,pl,b,sn,z,m,pt,wy,wd,f,x,st,n,rfl,F0,ok,q⟩:=h
  rfl
 obtain ⟨a,fg,pl,b,sn,z,m,pt,wy,wd,f,x,st,n,rfl,F0,ok,q⟩:=h
 refine ⟨_,zAJ (zAO (zBu zTn (pv 1) (zAI zFM hr rfl (zAA (zAg (pv 0) rfl) (zAA (zAR zBA (zAg (pv 0) rfl) (zAg (pv 0) rfl)) (zAE)))) (zAZ _))),?_⟩
 walk_at "st"
 have o1:=ok.fg1;have o2:=ok.fg2;have o3:=ok.pl1;have o4:=ok.pl2;have o5:=ok.b1;have o6:=ok.b2
 walk_at "rd"
 exact q
theorem zJV {z:Int} {pt:Nat} (ok:NumS fg pl b sn z m pt wy wd f x) (h:k.natAbs < b.toNat ^ (fg+pl).toNat):NumB k.natAbs b pl/\Sgd sn (decide (k < 0)) (zCh pl b sn z m pt k)/\Asc (zCh pl b sn z m pt k)/\(zCh pl b sn z m pt k).length<=400:=by
 have o1:=ok.fg1;have o2:=ok.fg2;have o3:=ok.pl1;have o4:=ok.pl2;have o5:=ok.b1;have o6:=ok.b2
 have e1:b.toNat ^ (fg+pl).toNat<=b.toNat ^ (40+pl.toNat):=pow_le_pow_right (by omega) (by omega)
 have nb:NumB k.natAbs b pl:=⟨by omega,o5,o6,o3,o4,by omega⟩
 have bs:=zJM (z:=z.toNat) (b:=b.toNat) (p:=pl.toNat) (n:=(k.natAbs:Int).toNat) (by omega) (by omega) (by omega) nb.2.2.2.2.2 ok.pt ok.m
 have e:bod sn (decide (k < 0)) (zCh pl b sn z m pt k)=bdI k.natAbs b pl pt z m:=zQm
 have sl:=zTb ok.sn (decide (k < 0)) (bdI k.natAbs b pl pt z m)
 have sa:=zMC ok.sn (decide (k < 0))
 refine ⟨nb,⟨by rw [e];exact bs.1,by rw [e];rfl⟩,(sa.1.app bs.2.1).app sa.2,?_⟩
 have:=bs.2.2
 unfold zCh
 unfold bdI at sl ⊢
 omega
theorem zHt (F:FunD K "core" "NumberForm.core" zBS fq fd) (B:Blt mg) (zAK:Cls K zAB) (zRL:Has P w K mg base "gridded" 2 ["value", "base", "places", "way"] (zGw K)) (zQt:Has P w K mg base "body_of" 3 ["number", "base", "places", "point", "size", "mark"] (zG0 K)) (zK4:Has P w K mg base "signed" 2 ["body", "style", "below"] (zGN K)) (zLf:Has P w K mg base "is_fraction" 2 ["thing"] (zDh K)) (zB2:HasM P w K mg base CX0 zAB "is_too_great" 2 ["self", "number"] (zBO K zAB)):FnOk P w K mg base CX0 4 fq fd ["self", "value"] (zBy K zAB):=by
 refine F.ok zC9 (fun vs H Q E h=>?_) (fun cdv A outer s H vs Q E hr h=>?_)
 ·obtain ⟨o,p,fg,pl,b,sn,z,m,pt,wy,wd,f,x,st,u,v,k,rfl,F0,ok,hp,gr,gc,gk,lim,q⟩:=h
  rfl
 obtain ⟨o,p,fg,pl,b,sn,z,m,pt,wy,wd,f,x,st,u,v,k,rfl,F0,ok,hp,gr,gc,gk,lim,q⟩:=h
 refine ⟨_,zAF (zBN (zCT (zBt (zAI zLf hr rfl (zAA (pv 1) (zAE))))) (zAJ (zFt)) (zAY))
  (zAF (zAN (i:=2) zC9.nd rfl (Or.inl rfl) (zAI zRL hr rfl (zAA (pv 1) (zAA (zAg (pv 0) rfl) (zAA (zAg (pv 0) rfl) (zAA (zAg (pv 0) rfl) (zAE)))))))
  (zAF (zBN (zBt (zAV zB2 zAK zBV hr (pv 0) (zAA (zAL zH5 B.vAI rfl zN6 (zAA (pv 2) (zAE))) (zAE)))) (zAJ (zFt)) (zAY))
  (zAF (zAN (i:=3) zC9.nd rfl (Or.inl rfl) (zAI zQt hr rfl (zAA (zAL zH5 B.vAI rfl zN6 (zAA (pv 2) (zAE))) (zAA (zAg (pv 0) rfl) (zAA (zAg (pv 0) rfl) (zAA (zAg (pv 0) rfl) (zAA (zAg (pv 0) rfl) (zAA (zAg (pv 0) rfl) (zAE)))))))))
  (zAJ (zAO (zAI zK4 hr rfl (zAA (pv 3) (zAA (zAg (pv 0) rfl) (zAA (zBu zPH (pv 2) (zAG) (zAZ _)) (zAE)))))))))),?_⟩
 walk_at "st"
 have o1:=ok.fg1;have o2:=ok.fg2;have o3:=ok.pl1;have o4:=ok.pl2;have o5:=ok.b1;have o6:=ok.b2;have o7:=ok.sn;have o8:=ok.wy;have o9:=ok.z1;have o10:=ok.z2
 have g3:=gr.2.2.1
 have pw:((b.toNat ^ (fg+pl).toNat:Nat):Int)=b ^ (fg+pl).toNat:=by rw [Int.natCast_pow,Int.toNat_of_nonneg (by omega)]
 have hlt:k.natAbs < b.toNat ^ (fg+pl).toNat:=lim
 obtain ⟨nb,n2,n3,n4⟩:=zJV ok hlt
 unfold zCh at q n4
 have sl:=zTb o7 (decide (k < 0)) (bdI k.natAbs b pl pt z m)
 subst gk
 walk_at "rd"
 rename_i k1 hk1 k0 hk0
 have hk:k0=((grid wy u v (b ^ pl.toNat)).natAbs:Int):=by omega
 subst hk
 clear hk1 hk0
 generalize grid wy u v (b ^ pl.toNat)=kk at *
 refine zMt nb o9 o10 fun H1 g1=>?_
 have F1:=F0.same g1
 walk_at "rd"
 exact q _ g1
theorem zGW (F:FunD K "is_too_wide" "Form.is_too_wide" zA0 fq fd) (B:Blt mg):FnOk P w K mg base CX0 1 fq fd ["self", "core"] (zDr K):=by
 refine F.ok zET (fun vs H Q E h=>?_) (fun cdv A outer s H vs Q E hr h=>?_)
 ·obtain ⟨a,C,wd,f,x,st,more,t,rfl,F0,h0,q⟩:=h
  rfl
 obtain ⟨a,C,wd,f,x,st,more,t,rfl,F0,h0,q⟩:=h
 refine ⟨_,zAJ (zAO (zGT (zAg (pv 0) rfl) (zHs (zBu zIf (zAL zA6 B.vAA rfl zBF (zAA (pv 1) (zAE))) (zAg (pv 0) rfl) (zAZ _))))),?_⟩
 walk_at "st"
 walk_at "rd"
 ·rename_i hc;rw [hc] at q;exact q
 ·rename_i hc;rw [hc] at q;exact q
def zCv (K:W.Frag):Sp:=fun vs H Q _=>∃ (l t:List Nat) (w:Int) (f:Nat),vs=[.str (T l),.str (T t),.int w,.str (T [f])]/\l.length<=400/\t.length<=400/\w<=40 /\ ∀ H',Same H H'->Q (.str (T (l++pad t (w - l.length) f "right"))) H'
theorem zJe {l t:List Nat} {w:Int} (h1:l.length<=400) (h2:t.length<=400) (h3:w<=40) (q : ∀ H',Same H H'->Q (.str (T (l++pad t (w - l.length) f "right"))) H'):zCv K ([.str (T l),.str (T t),.int w,.str (T [f])]++[]) H Q E:=⟨l,t,w,f,rfl,h1,h2,h3,q⟩
local macro_rules | `(tactic| walk_at "rdc")=>`(tactic| ((with_reducible refine' zJe ?h1 ?h2 ?h3 ?_);(case h1=>walk_at "tl");(case h2=>walk_at "tl");(case h3=>omega);intro H' g'))
def zCS (K:W.Frag) (C:Addr):Sp:=fun vs H Q _=>∃ (a:Addr) (fg pl b:Int) (sn:Str) (z:Int) (m pt:Nat) (wy:Str) (wd:Int) (f:Nat) (x:Str) (st:Bool) (t:List Nat) (bl:Bool),vs=[.ref a,.str (T t)]/\zAT K H a C wd f x st (zB9 fg pl b sn z m pt wy)/\zEN sn/\Asc t/\t.length<=400/\Sgd sn bl t /\ ∀ H',Same H H'->Q (.str (T (stL sn bl))) H'
variable {bl:Bool}
theorem zRO {a:Addr} {z:Int} {pt:Nat} {t:List Nat} (h1:zAT K H a C wd f x st (zB9 fg pl b sn z m pt wy)) (h2:zEN sn) (h3:Asc t) (h4:t.length<=400) (h5:Sgd sn bl t) (q : ∀ H',Same H H'->Q (.str (T (stL sn bl))) H'):zCS K C (.ref a::([.str (T t)]++[])) H Q E:=⟨a,fg,pl,b,sn,z,m,pt,wy,wd,f,x,st,t,bl,rfl,h1,h2,h3,h4,h5,q⟩
def nfil (ld t:List Nat) (wd:Int) (f:Nat) (x:Str):List Nat:=if x = "inside" then ld++pad (t.drop ld.length) (wd - ld.length) f "right" else pad t wd f x
theorem zJA (F:Fun K "padded_inside" "padded_inside" zDE fq fd) (B:Blt mg) (zHz:Has P w K mg base "padded" 2 ["text", "width", "fill", "side"] (zFO K)):FnOk P w K mg base CX0 3 fq fd ["lead", "rest", "width", "fill"] (zCv K):=by
 refine F.ok zJK (fun vs H Q E h=>?_) (fun cdv A outer s H vs Q E hr h=>?_)
 ·obtain ⟨l,t,w,f,rfl,h1,h2,h3,q⟩:=h
  rfl
 obtain ⟨l,t,w,f,rfl,h1,h2,h3,q⟩:=h
 refine ⟨_,zAJ (zAO (zAR zDC (pv 0) (zAI zHz hr rfl (zAA (pv 1) (zAA (zAR zCm (pv 2) (zAL zA6 B.vAA rfl zBF (zAA (pv 0) (zAE)))) (zAA (pv 3) (zAA (zA2) (zAE)))))))),?_⟩
 walk_at "st"
 have pl:=zJc (f:=f) (zDa (x:="right") (n:=t.length) (w:=w - l.length) (.inr (.inl rfl)) (by omega) (by omega))
 have b2:=zIj t.length (w - l.length) (by omega) (by omega)
 walk_at "rd"
 exact q _ (by assumption)
theorem zGp (F:FunD K "lead_of" "NumberForm.lead_of" zA8 fq fd) (B:Blt mg) (zDB:Has P w K mg base "ends_of" 1 ["style", "below"] (zC4 K)) (zIJ:Has P w K mg base "unsigned" 3 ["core", "style"] (spc (zDX K))):FnOk P w K mg base CX0 4 fq fd ["self", "core"] (zCS K zAB):=by
 refine F.ok zGQ (fun vs H Q E h=>?_) (fun cdv A outer s H vs Q E hr h=>?_)
 ·obtain ⟨a,fg,pl,b,sn,z,m,pt,wy,wd,f,x,st,t,bl,rfl,F0,hs,ha,hl,sd,q⟩:=h
  rfl
 obtain ⟨a,fg,pl,b,sn,z,m,pt,wy,wd,f,x,st,t,bl,rfl,F0,hs,ha,hl,sd,q⟩:=h
 refine ⟨_,zAJ (zAO (zAb zBc (zAI zDB hr rfl (zAA (zAg (pv 0) rfl) (zAA (zAb zBc (zAI zIJ hr rfl (zAA (pv 1) (zAA (zAg (pv 0) rfl) (zAE)))) (zAG) (fun _ _=>rfl)) (zAE)))) (zAG) (fun _ _=>rfl))),?_⟩
 walk_at "st"
 walk_at "rd"
 refine zOl hs ha (by omega) sd fun p H1 g1 e1=>?_
 have F1:=F0.same g1
 walk_at "rd"
 exact q _ g1
inductive FlA (K:W.Frag) (H:Hp) (a cN:Addr) (wd:Int) (f:Nat) (x:Str) (st:Bool) (t:List Nat):List Nat->Prop
 | num {fg pl b:Int} {sn:Str} {z:Int} {m pt:Nat} {wy:Str} {bl:Bool} (F:zAT K H a cN wd f x st (zB9 fg pl b sn z m pt wy)) (sx:zJv x) (hs:zEN sn) (ha:Asc t) (sd:Sgd sn bl t):FlA K H a cN wd f x st t (stL sn bl)
 | oth {C:Addr} {more:List (Str × V)} (F:zAT K H a C wd f x st more) (sx:Side x):FlA K H a cN wd f x st t []
def zCi (K:W.Frag) (cN:Addr):Sp:=fun vs H Q _=>∃ (a:Addr) (wd:Int) (f:Nat) (x:Str) (st:Bool) (t ld:List Nat),vs=[.ref a,.str (T t)]/\FlA K H a cN wd f x st t ld/\t.length<=400/\wd<=40 /\ ∀ H',Same H H'->Q (.str (T (nfil ld t wd f x))) H'
variable {cN:Addr} {ld:List Nat}
theorem zK3 {a:Addr} {t:List Nat} (h1:FlA K H a cN wd f x st t ld) (h2:t.length<=400) (h4:wd<=40) (q : ∀ H',Same H H'->Q (.str (T (nfil ld t wd f x))) H'):zCi K cN (.ref a::([.str (T t)]++[])) H Q E:=⟨a,wd,f,x,st,t,ld,rfl,h1,h2,h4,q⟩
theorem zLG (h:Side x):x ≠ "inside" := by
 rcases h with rfl | rfl | rfl <;> decide +kernel
theorem zKf (F:FunD K "filled" "Form.filled" zCF fq fd) (B:Blt mg) (zAK:Cls K zAB) (zJY:Has P w K mg base "padded_inside" 3 ["lead", "rest", "width", "fill"] (zCv K)) (zHz:Has P w K mg base "padded" 2 ["text", "width", "fill", "side"] (zFO K)) (zHO:HasM P w K mg base CX0 zAB "lead_of" 4 ["self", "core"] (zCS K zAB)):FnOk P w K mg base CX0 5 fq fd ["self", "core"] (zCi K zAB):=by
 refine F.ok zHU (fun vs H Q E h=>?_) (fun cdv A outer s H vs Q E hr h=>?_)
 ·obtain ⟨a,wd,f,x,st,t,ld,rfl,D0,hl,hw,q⟩:=h
  rfl
 obtain ⟨a,wd,f,x,st,t,ld,rfl,D0,hl,hw,q⟩:=h
 refine ⟨_,zAF (zBN (zAW zIq (zAg (pv 0) rfl) (zA2) (zAZ _)) (zAJ (zAO (zAI zHz hr rfl (zAA (pv 1) (zAA (zAg (pv 0) rfl) (zAA (zAg (pv 0) rfl) (zAA (zAg (pv 0) rfl) (zAE)))))))) (zAY))
  (zAF (zAN (i:=2) zHU.nd rfl (Or.inl rfl) (zAV zHO zAK zBV hr (pv 0) (zAA (pv 1) (zAE))))
  (zAJ (zAO (zAI zJY hr rfl (zAA (pv 2) (zAA (zAw zDN (pv 1) (zAx (zAL zA6 B.vAA rfl zBF (zAA (pv 2) (zAE)))) (zBe)) (zAA (zAg (pv 0) rfl) (zAA (zAg (pv 0) rfl) (zAE))))))))),?_⟩
 walk_at "st"
 cases D0 with
 | @num fg pl b sn z m pt wy bl F0 sx hs ha sd =>
  have sl:=zIz hs bl
  walk_at "rd"
  ·rename_i hc
   refine zRO F0 hs ha hl sd fun H1 g1=>?_
   have F1:=F0.same g1
   walk_at "rd"
   rename_i H2 g2
   have q':=q _ (g1.trans g2)
   unfold nfil at q'
   rw [if_pos hc] at q'
   rw [toNat_natCast]
   exact q'
  ·rename_i hc
   have sx':Side x:=sx.elim id fun z=>absurd z hc
   refine zN3 sx' hl hw fun H1 g1=>?_
   have q':=q _ g1
   unfold nfil at q'
   rw [if_neg hc] at q'
   exact q'
 | oth F0 sx =>
  have hc:=zLG sx
  walk_at "rd"
  have q':=q _ (by assumption)
  unfold nfil at q'
  rw [if_neg hc] at q'
  exact q'
def zCB (K:W.Frag) (C:Addr):Sp:=fun vs H Q _=>∃ (a:Addr) (sg:List Nat) (lo hi wd:Int) (f:Nat) (x:Str) (st:Bool) (t:List Nat),vs=[.ref a,.str (T t)]/\zAT K H a C wd f x st (zGh sg lo hi)/\t.length<=400 /\ ∀ H',Same H H'->Q (.bl (decide (Isw sg lo hi t))) H'
theorem zQj {a:Addr} {sg:List Nat} {t:List Nat} (h1:zAT K H a C wd f x st (zGh sg lo hi)) (h2:t.length<=400) (q : ∀ H',Same H H'->Q (.bl (decide (Isw sg lo hi t))) H'):zCB K C (.ref a::([.str (T t)]++[])) H Q E:=⟨a,sg,lo,hi,wd,f,x,st,t,rfl,h1,h2,q⟩
local macro_rules | `(tactic| walk_at "rdc")=>`(tactic| ((with_reducible refine' zQj ?h1 ?h2 ?_);(case h1=>walk_at "fm");(case h2=>omega);intro H' g'))
theorem zHa (F:FunD K "is_word" "WordForm.is_word" zBJ fq fd) (B:Blt mg):FnOk P w K mg base CX0 1 fq fd ["self", "thing"] (zCB K zAD):=by
 refine F.ok zHn (fun vs H Q E h=>?_) (fun cdv A outer s H vs Q E hr h=>?_)
 ·obtain ⟨a,sg,lo,hi,wd,f,x,st,t,rfl,F0,h0,q⟩:=h
  rfl
 obtain ⟨a,sg,lo,hi,wd,f,x,st,t,rfl,F0,h0,q⟩:=h
 refine ⟨_,zAF (zBN (PW.pt (zI8 (zCT (zBt (zAL zCt B.vAC rfl zBC (zAA (pv 1) (zAA (zE0 rfl B.vAD zOa (v:=.ty "str") rfl) (zAE)))))) (zGA (zCT (zLP zOd zOd (zAg (pv 0) rfl) (zAL zA6 B.vAA rfl zBF (zAA (pv 1) (zAE))) (zAg (pv 0) rfl)))))) (zAJ (zAO (zEz))) (zAY))
  (zAJ (zAO (zAL (zL7 rfl) B.vAL rfl zTD (zAA (zDF (cl:=[("self", s.heap.objs.size+1+0)]) (fr:=["self"]) (is:=[0]) rfl rfl ⟨rfl,trivial⟩ rfl ⟨⟨rfl,rfl,Or.inl rfl⟩,trivial⟩ (by decide) (by decide +kernel) rfl (by decide +kernel) rfl (zPk (pv 1)) (fun _ _ _ _=>zCn) (fun _ _ _ _=>zBu zOH (pv 0) (zE6 (K:=K) rfl (pv 1) rfl) (by with_unfolding_all rfl))) (zAE))))),?_⟩
 walk_at "st"
 walk_at "rd"
 ·rename_i c1 c2
  refine zSC (Nat.le_of_lt (zBm (by omega))) (fun i ys H'=>H'=H/\ys=((t.take i).map fun c=>decide (c ∈ sg)).map V.bl) ⟨rfl,rfl⟩ (fun i ys H' hi z=>by rw [z.2];simp;omega) ?_ ?_
  ·rintro i c ys H' hc hi ⟨rfl,rfl⟩
   walk_at "rd"
   refine nxC hi ⟨rfl,?_⟩
   rw [take_succ,hc,map_append,map_append];rfl
  ·rintro ys H' ⟨rfl,rfl⟩ p H2 g2 e2
   rw [take_length] at e2
   walk_at "rd"
   have e:(t.map fun c=>decide (c ∈ sg)).all id=decide (Isw sg lo hi t):=by
    rw [Bool.eq_iff_iff,List.all_eq_true,decide_eq_true_iff]
    constructor
    ·intro h
     exact ⟨⟨c1,c2⟩,fun c hc=>of_decide_eq_true (h _ (List.mem_map.mpr ⟨c,hc,rfl⟩))⟩
    ·rintro h b hb
     obtain ⟨c,hc,rfl⟩:=List.mem_map.mp hb
     exact decide_eq_true (h.2 c hc)
   rw [e]
   exact q _ g2
 ·rename_i c1 c2
  have q':=q _ (Same.refl _)
  rw [decide_eq_false (fun z=>c2 z.1.2)] at q';exact q'
 ·rename_i c1
  have q':=q _ (Same.refl _)
  rw [decide_eq_false (fun z=>c1 z.1.1)] at q';exact q'
def zCu (K:W.Frag) (C:Addr):Sp:=fun vs H Q _=>∃ (a:Addr) (sg:List Nat) (lo hi wd:Int) (f:Nat) (x:Str) (st:Bool) (t:List Nat),vs=[.ref a,.str (T t)]/\zAT K H a C wd f x st (zGh sg lo hi)/\t.length<=400/\Isw sg lo hi t /\ ∀ H',Same H H'->Q (.str (T t)) H'
theorem zJJ (F:FunD K "core" "WordForm.core" zBn fq fd) (B:Blt mg) (zAS:Cls K zAD) (zDJ:HasM P w K mg base CX0 zAD "is_word" 1 ["self", "thing"] (zCB K zAD)):FnOk P w K mg base CX0 2 fq fd ["self", "value"] (zCu K zAD):=by
 refine F.ok zJC (fun vs H Q E h=>?_) (fun cdv A outer s H vs Q E hr h=>?_)
 ·obtain ⟨a,sg,lo,hi,wd,f,x,st,t,rfl,F0,h0,iw,q⟩:=h
  rfl
 obtain ⟨a,sg,lo,hi,wd,f,x,st,t,rfl,F0,h0,iw,q⟩:=h
 refine ⟨_,zAF (zBN (zCT (zBt (zAV zDJ zAS zBV hr (pv 0) (zAA (pv 1) (zAE))))) (zAJ (zFt)) (zAY))
  (zAJ (zAO (pv 1))),?_⟩
 walk_at "st"
 walk_at "rd"
 rename_i H' g'
 exact q _ g'
def zCN (K:W.Frag) (C:Addr):Sp:=fun vs H Q _=>∃ (a L:Addr) (ns:List (List Nat)) (wd:Int) (f:Nat) (x:Str) (st:Bool) (t:List Nat),vs=[.ref a,.str (T t)]/\zAT K H a C wd f x st (zLH L)/\H L=some (.lst (tsV ns))/\t ∈ ns /\ ∀ H',Same H H'->Q (.str (T t)) H'
theorem zIA (F:FunD K "core" "ChoiceForm.core" zBT fq fd) (B:Blt mg):FnOk P w K mg base CX0 1 fq fd ["self", "value"] (zCN K zAC):=by
 refine F.ok zH0 (fun vs H Q E h=>?_) (fun cdv A outer s H vs Q E hr h=>?_)
 ·obtain ⟨a,L,ns,wd,f,x,st,t,rfl,F0,e0,hm,q⟩:=h
  rfl
 obtain ⟨a,L,ns,wd,f,x,st,t,rfl,F0,e0,hm,q⟩:=h
 refine ⟨_,zAF (zBN (PW.pt (zI8 (zCT (zBt (zAL zCt B.vAC rfl zBC (zAA (pv 1) (zAA (zE0 rfl B.vAD zOa (v:=.ty "str") rfl) (zAE)))))) (zGA (zAW zMf (pv 1) (zAg (pv 0) rfl) (by with_unfolding_all rfl))))) (zAJ (zFt)) (zAY))
  (zAJ (zAO (pv 1))),?_⟩
 walk_at "st"
 walk_at "rd"
 exact q _ (Same.refl _)
inductive CoA (K:W.Frag) (H:Hp) (o:Addr) (v:V) (cN cW cC:Addr) (wd:Int) (f:Nat) (x:Str) (st:Bool):List Nat->List Nat->Prop
 | num {p:Addr} {fg pl b:Int} {sn:Str} {z:Int} {m pt:Nat} {wy:Str} {u d k:Int} (hv:v = .ref p) (F:zAT K H o cN wd f x st (zB9 fg pl b sn z m pt wy)) (ok:NumS fg pl b sn z m pt wy wd f x) (hp:H p=some (.tup [.int u,.int d])) (gb:GrB u d) (gc:Int.gcd u d=1) (gk:grid wy u d (b ^ pl.toNat)=k) (lim:LimN fg pl b k):CoA K H o v cN cW cC wd f x st (zCh pl b sn z m pt k) (stL sn (decide (k < 0)))
 | word {sg:List Nat} {lo hi:Int} {t:List Nat} (hv:v = .str (T t)) (F:zAT K H o cW wd f x st (zGh sg lo hi)) (h0:t.length<=400) (iw:Isw sg lo hi t) (sx:Side x):CoA K H o v cN cW cC wd f x st t []
 | cho {L:Addr} {ns:List (List Nat)} {t:List Nat} (hv:v = .str (T t)) (F:zAT K H o cC wd f x st (zLH L)) (e:H L=some (.lst (tsV ns))) (h0:t.length<=400) (hm:t ∈ ns) (sx:Side x):CoA K H o v cN cW cC wd f x st t []
def zBq (K:W.Frag) (cN cW cC cT:Addr):Sp:=fun vs H Q E=>∃ (o:Addr) (v:V) (wd:Int) (f:Nat) (x:Str) (st:Bool) (t ld:List Nat),vs=[.ref o,v]/\CoA K H o v cN cW cC wd f x st t ld/\wd<=40/\((st && decide (wd < (t.length:Int)))=false -> ∀ H',Same H H'->Q (.str (T (nfil ld t wd f x))) H')/\((st && decide (wd < (t.length:Int)))=true -> ∀ H',Same H H'->E (.ref cT) none H')
variable {zAu:Addr}
theorem zNT (F:FunD K "put" "Form.put" zDU fq fd) (B:Blt mg) (zAK:Cls K zAB) (zAS:Cls K zAD) (zAQ:Cls K zAC) (zJ2:mg "TooWide" = some (.ref zAu)) (zJb:Exc K zAu) (zDZ:HasM P w K mg base CX0 zAB "core" 4 ["self", "value"] (zBy K zAB)) (zEZ:HasM P w K mg base CX0 zAD "core" 2 ["self", "value"] (zCu K zAD)) (zDY:HasM P w K mg base CX0 zAC "core" 1 ["self", "value"] (zCN K zAC)) (zAl:HasM P w K mg base CX0 zAB "is_too_wide" 1 ["self", "core"] (zAX K)) (zBP:HasM P w K mg base CX0 zAD "is_too_wide" 1 ["self", "core"] (zAX K)) (zBG:HasM P w K mg base CX0 zAC "is_too_wide" 1 ["self", "core"] (zAX K)) (zHq:HasM P w K mg base CX0 zAB "filled" 5 ["self", "core"] (zCi K zAB)) (zIe:HasM P w K mg base CX0 zAD "filled" 5 ["self", "core"] (zCi K zAB)) (zHb:HasM P w K mg base CX0 zAC "filled" 5 ["self", "core"] (zCi K zAB)):FnOk P w K mg base (CXE P w) 6 fq fd ["self", "value"] (zBq K zAB zAD zAC zAu):=by
 refine F.okX zJz (fun vs H Q E h=>?_) (fun cdv A outer s H vs Q E hr h tk pp=>?_)
 ·obtain ⟨o,v,wd,f,x,st,t,ld,rfl,D0,hw,q,e⟩:=h
  all_goals rfl
 refine ⟨_,zAF (zAN (i:=2) zJz.nd rfl (Or.inl rfl) (zCb (zAV zDZ zAK zBV hr (pv 0) (zAA (pv 1) (zAE))) (zCb (zAV zEZ zAS zBV hr (pv 0) (zAA (pv 1) (zAE))) (zAV zDY zAQ zBV hr (pv 0) (zAA (pv 1) (zAE))))))
  (zAF (zBN (zBt (zCb (zAV zAl zAK zBV hr (pv 0) (zAA (pv 2) (zAE))) (zCb (zAV zBP zAS zBV hr (pv 0) (zAA (pv 2) (zAE))) (zAV zBG zAQ zBV hr (pv 0) (zAA (pv 2) (zAE)))))) (zAJ (zFl tk rfl zJb rfl zJ2 (zAA (zA2) (zAE)))) (zAY))
  (zAJ (zAO (zCb (zAV zHq zAK zBV hr (pv 0) (zAA (pv 2) (zAE))) (zCb (zAV zIe zAS zBV hr (pv 0) (zAA (pv 2) (zAE))) (zAV zHb zAQ zBV hr (pv 0) (zAA (pv 2) (zAE)))))))),?_⟩
 obtain ⟨o,v,wd,f,x,st,t,ld,rfl,D0,hw,q,e⟩:=h
 all_goals walk_at "st"
 cases D0 with
 | @num p fg pl b sn z m pt wy u d k hv F0 ok hp gb gc gk lim =>
  subst hv
  obtain ⟨nb,n2,n3,n4⟩:=zJV ok lim
  walk_at "rd"
  refine zHK ?_
  walk_at "rd"
  refine zTC F0 ok hp gb gc gk lim fun H1 g1=>?_
  have F1:=F0.same g1
  walk_at "rd"
  refine zHK ?_
  walk_at "rd"
  ·rename_i hc
   exact ⟨small (by decide),e hc _ g1⟩
  ·rename_i hc
   refine zHK ?_
   walk_at "rd"
   refine zK3 (.num F1 ok.x ok.sn n3 n2) n4 hw fun H2 g2=>?_
   exact q (by simpa using hc) _ (g1.trans g2)
 | @word sg lo hi t hv F0 h0 iw sx =>
  subst hv
  walk_at "rd"
  refine zD5 (zHK ?_)
  walk_at "rd"
  refine ⟨o,sg,lo,hi,wd,f,x,st,t,rfl,F0,h0,iw,fun H1 g1=>?_⟩
  have F1:=F0.same g1
  walk_at "rd"
  refine zD5 (zHK ?_)
  walk_at "rd"
  ·rename_i hc
   exact ⟨small (by decide),e hc _ g1⟩
  ·rename_i hc
   refine zD5 (zHK ?_)
   walk_at "rd"
   refine zK3 (.oth F1 sx) h0 hw fun H2 g2=>?_
   exact q (by simpa using hc) _ (g1.trans g2)
 | @cho L ns t hv F0 e0 h0 hm sx =>
  subst hv
  walk_at "rd"
  refine zD5 (zD5 ?_)
  walk_at "rd"
  refine ⟨o,L,ns,wd,f,x,st,t,rfl,F0,e0,hm,fun H1 g1=>?_⟩
  have F1:=F0.same g1
  walk_at "rd"
  refine zD5 (zD5 ?_)
  walk_at "rd"
  ·rename_i hc
   exact ⟨small (by decide),e hc _ g1⟩
  ·rename_i hc
   refine zD5 (zD5 ?_)
   walk_at "rd"
   refine zK3 (.oth F1 sx) h0 hw fun H2 g2=>?_
   exact q (by simpa using hc) _ (g1.trans g2)
def zEP (K:W.Frag):Sp:=fun vs H Q _=>∃ (t:List Nat) (w:Int) (f:Nat) (x:Str),vs=[.str (T t),.int w,.str (T [f]),.str x]/\Side x/\t.length<=400/\w<=40 /\ -1000<=w /\ ∀ p H',Same H H'->H p=none->H' p=some (.lst (tsV (zBs t w f x)))->Q (.ref p) H'
theorem zPW {t:List Nat} {w:Int} (h1:Side x) (h2:t.length<=400) (h3:w<=40) (h4 : -1000<=w) (q : ∀ p H',Same H H'->H p=none->H' p=some (.lst (tsV (zBs t w f x)))->Q (.ref p) H'):zEP K ([.str (T t),.int w,.str (T [f]),.str x]++[]) H Q E:=⟨t,w,f,x,rfl,h1,h2,h3,h4,q⟩
local macro_rules | `(tactic| walk_at "rdc")=>`(tactic| ((with_reducible refine' zPW ?h1 ?h2 ?h3 ?h4 ?_);(case h1=>first | assumption | exact .inl rfl | exact .inr (.inl rfl) | exact .inr (.inr rfl));(case h2=>walk_at "tl");(case h3=>omega);(case h4=>omega);intro p' H' g' n' e'))
local macro_rules | `(tactic| walk_at "rdc")=>`(tactic| ((with_reducible refine' zIa ?hz ?_);(case hz=>exact small (by simp only [length_cons,length_nil];decide));intro p' H' g' n' e'))
local macro_rules | `(tactic| walk_at "rd1")=>`(tactic| ((with_reducible refine' zIa ?hz ?_);(case hz=>exact small (by simp only [length_cons,length_nil];decide));intro p' H' g' n' e'))
theorem zNN (F:Fun K "stripped" "stripped" zHB fq fd) (B:Blt mg) (zFW:Has P w K mg base "pads_of" 1 ["length", "width", "side"] (zEE K)) (zHz:Has P w K mg base "padded" 2 ["text", "width", "fill", "side"] (zFO K)):FnOk P w K mg base CX0 3 fq fd ["text", "width", "fill", "side"] (zEP K):=by
 refine F.ok zEX (fun vs H Q E h=>?_) (fun cdv A outer s H vs Q E hr h=>?_)
 ·obtain ⟨t,w,f,x,rfl,hs,h0,hw,hw1,q⟩:=h
  rfl
 obtain ⟨t,w,f,x,rfl,hs,h0,hw,hw1,q⟩:=h
 refine ⟨_,zAF (zBN (zAW zIf (zAL zA6 B.vAA rfl zBF (zAA (pv 0) (zAE))) (pv 1) (zAZ _)) (zAJ (zAO (zA1 (zAA (pv 0) (zAE))))) (zAY))
  (zAF (zAN (i:=4) zEX.nd rfl (Or.inl rfl) (zA1 (zAE)))
  (zAF (zGC PassesOwn.never rfl (zDm rfl B.vAB (zAA (zAR zBA (pv 1) (zAG)) (zAE))) (zAz (i:=5) zEX.nd rfl (Or.inl rfl)) (zAF (zAN (i:=6) zEX.nd rfl (Or.inl rfl) (zAb zBc (zAI zFW hr rfl (zAA (pv 5) (zAA (pv 1) (zAA (pv 3) (zAE))))) (zAG) (fun _ _=>rfl)))
  (zAF (zAN (i:=7) zEX.nd rfl (Or.inl rfl) (zAw zDN (pv 0) (zAx (pv 6)) (zAx (zAR zBA (pv 6) (pv 5)))))
  (zAJ (zBN (zAW zCl (zAI zHz hr rfl (zAA (pv 7) (zAA (pv 1) (zAA (pv 2) (zAA (pv 3) (zAE)))))) (pv 0) (zAZ _)) (zAJ (zCy (zGL PySem.F.plainAttrs_list PySem.F.slot_list_append PySem.F.type_list_append zDn (pv 4) (zAA (pv 7) (zAE))))) (zAY))))))
  (zAJ (zAO (pv 4))))),?_⟩
 walk_at "st"
 walk_at "rd"
 ·rename_i hc p' H' g' n' e'
  exact q _ _ g' n' (by rw [e',zFb hc];rfl)
 ·rename_i hc p' H0 g' n' e'
  refine zJq (by omega) (by omega) (fun i σ H2=>Same H H2 /\ ∃ (r1 r2 r3:Option V),H2 p'=some (.lst (tsV (((List.range i).filter (gd t w f x)).map (sl t w x))))/\σ=[some (.str (T t)),some (.int w),some (.str (T [f])),some (.str x),some (.ref p'),r1,r2,r3]) ⟨g',none,none,none,by rw [e'];rfl,rfl⟩ ?_ ?_
  ·rintro i σ H2 hi ⟨gg,r1,r2,r3,e2,rfl⟩
   obtain ⟨b1,b2,b3,_⟩:=zDa (n:=(i:Int)) hs (by omega) hw
   have bl:=zIj (i:Int) w (by omega) hw
   rw [show (0+(i:Int))=(i:Int) by omega]
   have hl:(((List.range i).filter (gd t w f x)).map (sl t w x)).length<=i:=by
    rw [length_map];exact le_trans (length_filter_le _ _) (by rw [length_range];exact Nat.le_refl _)
   walk_at "rd"
   ·rename_i p1 H1 g1 e1 H3 g3 hc3
    refine zJX (g3.at (g1.at e2)) (zBm (by rw [length_map];omega)) ?_
    refine ⟨zBi (gg.trans (g1.trans g3)) n',_,_,_,?_,rfl⟩
    rw [zAU,range_succ,filter_append,filter_cons,if_pos (show gd t w f x i=true from decide_eq_true hc3),filter_nil,map_append]
    unfold tsV
    rw [map_append];rfl
   ·rename_i p1 H1 g1 e1 H3 g3 hc3
    refine ⟨gg.trans (g1.trans g3),_,_,_,?_,rfl⟩
    rw [g3.at (g1.at e2),range_succ,filter_append,filter_cons,if_neg (show ¬ gd t w f x i=true from fun z=>hc3 (of_decide_eq_true z)),filter_nil,append_nil]
  ·rintro σ H2 ⟨gg,r1,r2,r3,e2,rfl⟩
   walk_at "rd"
   refine q _ _ gg n' ?_
   rw [e2];unfold zBs;rw [if_neg hc]
theorem zWt {t:List Nat} {w:Int}:(sl t w x n).length<=t.length/\(Asc t->Asc (sl t w x n)):=by
 unfold sl
 exact ⟨by rw [length_drop,length_take];omega,fun h=>(h.take _).drop _⟩
theorem zGZ {t:List Nat} {w:Int} : ∀ c ∈ zBs t w f x,c.length<=t.length/\(Asc t->Asc c):=fun c hc=>by
 unfold zBs at hc
 split at hc
 ·rw [List.mem_singleton.mp hc];exact ⟨Nat.le_refl _,id⟩
 ·obtain ⟨n,_,rfl⟩:=List.mem_map.mp hc
  exact zWt
theorem zIV {t:List Nat} {w:Int} (h:w<=40):(zBs t w f x).length<=41:=by
 unfold zBs
 split
 ·simp
 ·rw [length_map]
  refine le_trans (length_filter_le _ _) ?_
  rw [length_range];omega
def nwd (wd:Int) (st:Bool) (c:List Nat):Bool:=!(st && decide (wd < (c.length:Int)))
def ucs (t:List Nat) (wd:Int) (f:Nat) (x:Str) (st:Bool):List (List Nat):=(zBs t wd f x).filter (nwd wd st)
theorem zNw {t:List Nat} (h:wd<=40):(ucs t wd f x st).length<=41 /\ ∀ c ∈ ucs t wd f x st,c.length<=t.length/\(Asc t->Asc c):=
 ⟨le_trans (length_filter_le _ _) (zIV h),fun c hc=>zGZ c (List.mem_filter.mp hc).1⟩
theorem fil1 {α:Type} {p:α->Bool} {cs:List α} {i:Nat} {c:α} (hc:cs[i]? = some c):(cs.take (i+1)).filter p=(cs.take i).filter p++[c].filter p:=by rw [take_succ,hc,filter_append];rfl
inductive UnA (K:W.Frag) (H:Hp) (a cN cW cC:Addr) (wd:Int) (f:Nat) (x:Str) (st:Bool):Prop
 | num {fg pl b:Int} {sn:Str} {z:Int} {m pt:Nat} {wy:Str} (F:zAT K H a cN wd f x st (zB9 fg pl b sn z m pt wy)):UnA K H a cN cW cC wd f x st
 | word {sg:List Nat} {lo hi:Int} (F:zAT K H a cW wd f x st (zGh sg lo hi)):UnA K H a cN cW cC wd f x st
 | cho {L:Addr} (F:zAT K H a cC wd f x st (zLH L)):UnA K H a cN cW cC wd f x st
def zCK (K:W.Frag) (cN cW cC:Addr):Sp:=fun vs H Q _=>∃ (a:Addr) (wd:Int) (f:Nat) (x:Str) (st:Bool) (t:List Nat),vs=[.ref a,.str (T t)]/\UnA K H a cN cW cC wd f x st/\Side x/\t.length<=400/\0<=wd/\wd<=40 /\ ∀ l H',Same H H'->H' l=some (.lst (tsV (ucs t wd f x st)))->Q (.ref l) H'
variable {cW cC:Addr}
theorem zIp {a:Addr} {t:List Nat} (h1:UnA K H a cN cW cC wd f x st) (h2:Side x) (h3:t.length<=400) (h4:0<=wd) (h5:wd<=40) (q : ∀ l H',Same H H'->H' l=some (.lst (tsV (ucs t wd f x st)))->Q (.ref l) H'):zCK K cN cW cC (.ref a::([.str (T t)]++[])) H Q E:=⟨a,wd,f,x,st,t,rfl,h1,h2,h3,h4,h5,q⟩
theorem zJD (F:FunD K "unfilled" "Form.unfilled" zBo fq fd) (B:Blt mg) (zAK:Cls K zAB) (zAS:Cls K zAD) (zAQ:Cls K zAC) (zId:Has P w K mg base "stripped" 3 ["text", "width", "fill", "side"] (zEP K)) (zAl:HasM P w K mg base CX0 zAB "is_too_wide" 1 ["self", "core"] (zAX K)) (zBP:HasM P w K mg base CX0 zAD "is_too_wide" 1 ["self", "core"] (zAX K)) (zBG:HasM P w K mg base CX0 zAC "is_too_wide" 1 ["self", "core"] (zAX K)):FnOk P w K mg base CX0 4 fq fd ["self", "text"] (zCK K zAB zAD zAC):=by
 refine F.ok zJH (fun vs H Q E h=>?_) (fun cdv A outer s H vs Q E hr h=>?_)
 ·obtain ⟨a,wd,f,x,st,t,rfl,D0,hs,h3,w0,w1,q⟩:=h
  rfl
 obtain ⟨a,wd,f,x,st,t,rfl,D0,hs,h3,w0,w1,q⟩:=h
 refine ⟨_,zAJ (zAO (zDF (cl:=[("self", s.heap.objs.size+1+0)]) (fr:=["self"]) (is:=[0]) rfl rfl ⟨rfl,trivial⟩ rfl ⟨⟨rfl,rfl,Or.inl rfl⟩,trivial⟩ (by decide) (by decide +kernel) rfl (by decide +kernel) rfl (zCg (zAI zId hr rfl (zAA (pv 1) (zAA (zAg (pv 0) rfl) (zAA (zAg (pv 0) rfl) (zAA (zAg (pv 0) rfl) (zAE))))))) (fun _ _ _ _=>zEk (zCT (zBt (zCb (zAV zAl zAK zBV hr (pv 1) (zAA (pv 0) (zAE))) (zCb (zAV zBP zAS zBV hr (pv 1) (zAA (pv 0) (zAE))) (zAV zBG zAQ zBV hr (pv 1) (zAA (pv 0) (zAE)))))))) (fun _ _ _ _=>pv 0))),?_⟩
 walk_at "st"
 have sl:=zIV (t:=t) (f:=f) (x:=x) w1
 have sb:=zGZ (t:=t) (w:=wd) (f:=f) (x:=x)
 cases D0 with
 | num F0 =>
  walk_at "rd"
  rename_i l1 H1 g1 n1 e1
  have F1:=F0.same g1
  refine zBM (SqL.of e1) (small (by rw [zA9];omega)) (fun i ys H'=>Same H1 H'/\ys=tsV (((zBs t wd f x).take i).filter (nwd wd st))) ⟨Same.refl _,rfl⟩ (fun i ys H' hi h=>⟨SqL.of (h.1.at e1),by rw [h.2,zA9];exact le_trans (length_filter_le _ _) (by rw [length_take];omega)⟩) ?_ ?_
  ·rintro i v ys H2 hv hi ⟨g2,rfl⟩
   obtain ⟨c,hc,rfl⟩:=zFg hv
   have F2:=F1.same g2
   have cb:=sb c (mem_of_getElem? hc)
   walk_at "rd"
   refine zHK ?_
   walk_at "rd"
   ·rename_i hk
    refine nxC hi ⟨g2,?_⟩
    rw [fil1 hc,filter_cons_of_pos (show nwd wd st c=true from hk),<- zEx];rfl
   ·rename_i hk
    refine nxC hi ⟨g2,?_⟩
    rw [fil1 hc,filter_cons_of_neg (show ¬ nwd wd st c=true by unfold nwd;rw [hk];decide),filter_nil,append_nil]
  ·rintro ys H2 ⟨g2,rfl⟩ p2 H3 g3 n3 e3
   rw [take_of_length_le (by rw [zA9];exact Nat.le_refl _)] at e3
   exact q _ _ (g1.trans (g2.trans g3)) e3
 | word F0 =>
  walk_at "rd"
  rename_i l1 H1 g1 n1 e1
  have F1:=F0.same g1
  refine zBM (SqL.of e1) (small (by rw [zA9];omega)) (fun i ys H'=>Same H1 H'/\ys=tsV (((zBs t wd f x).take i).filter (nwd wd st))) ⟨Same.refl _,rfl⟩ (fun i ys H' hi h=>⟨SqL.of (h.1.at e1),by rw [h.2,zA9];exact le_trans (length_filter_le _ _) (by rw [length_take];omega)⟩) ?_ ?_
  ·rintro i v ys H2 hv hi ⟨g2,rfl⟩
   obtain ⟨c,hc,rfl⟩:=zFg hv
   have F2:=F1.same g2
   have cb:=sb c (mem_of_getElem? hc)
   walk_at "rd"
   refine zD5 (zHK ?_)
   walk_at "rd"
   ·rename_i hk
    refine nxC hi ⟨g2,?_⟩
    rw [fil1 hc,filter_cons_of_pos (show nwd wd st c=true from hk),<- zEx];rfl
   ·rename_i hk
    refine nxC hi ⟨g2,?_⟩
    rw [fil1 hc,filter_cons_of_neg (show ¬ nwd wd st c=true by unfold nwd;rw [hk];decide),filter_nil,append_nil]
  ·rintro ys H2 ⟨g2,rfl⟩ p2 H3 g3 n3 e3
   rw [take_of_length_le (by rw [zA9];exact Nat.le_refl _)] at e3
   exact q _ _ (g1.trans (g2.trans g3)) e3
 | cho F0 =>
  walk_at "rd"
  rename_i l1 H1 g1 n1 e1
  have F1:=F0.same g1
  refine zBM (SqL.of e1) (small (by rw [zA9];omega)) (fun i ys H'=>Same H1 H'/\ys=tsV (((zBs t wd f x).take i).filter (nwd wd st))) ⟨Same.refl _,rfl⟩ (fun i ys H' hi h=>⟨SqL.of (h.1.at e1),by rw [h.2,zA9];exact le_trans (length_filter_le _ _) (by rw [length_take];omega)⟩) ?_ ?_
  ·rintro i v ys H2 hv hi ⟨g2,rfl⟩
   obtain ⟨c,hc,rfl⟩:=zFg hv
   have F2:=F1.same g2
   have cb:=sb c (mem_of_getElem? hc)
   walk_at "rd"
   refine zD5 (zD5 ?_)
   walk_at "rd"
   ·rename_i hk
    refine nxC hi ⟨g2,?_⟩
    rw [fil1 hc,filter_cons_of_pos (show nwd wd st c=true from hk),<- zEx];rfl
   ·rename_i hk
    refine nxC hi ⟨g2,?_⟩
    rw [fil1 hc,filter_cons_of_neg (show ¬ nwd wd st c=true by unfold nwd;rw [hk];decide),filter_nil,append_nil]
  ·rintro ys H2 ⟨g2,rfl⟩ p2 H3 g3 n3 e3
   rw [take_of_length_le (by rw [zA9];exact Nat.le_refl _)] at e3
   exact q _ _ (g1.trans (g2.trans g3)) e3
def zFe (K:W.Frag):Sp:=fun vs H Q _=>∃ t b:Int,vs=[.int t,.int b]/\0 < b/\b < 10000000000000000000000000000000000000000000000000000000000000000000000000000000000000000000000000000000000000000000000000000000000000000000000000000000000000000000000000000000000000000000000 /\ ∀ p H',Same H H'->H' p=some (.tup [.int (low1 t b),.int (low2 t b)])->Q (.ref p) H'
theorem zOg (h1:0 < b) (h2:b < 10000000000000000000000000000000000000000000000000000000000000000000000000000000000000000000000000000000000000000000000000000000000000000000000000000000000000000000000000000000000000000000000) (q : ∀ p H',Same H H'->H' p=some (.tup [.int (low1 t b),.int (low2 t b)])->Q (.ref p) H'):zFe K ([.int t,.int b]++[]) H Q E:=⟨t,b,rfl,h1,h2,q⟩
theorem zNY (F:Fun K "fraction" "fraction" zGx fq fd) (B:Blt mg) (zDw:Has P w K mg base "common_divisor" 1 ["one", "other"] (zCA K)) (zFF:Has P w K mg base "is_whole" 1 ["thing"] (zEM K)):FnOk P w K mg base CX0 2 fq fd ["top", "bottom"] (zFe K):=by
 refine F.ok zHc (fun vs H Q E h=>?_) (fun cdv A outer s H vs Q E hr h=>?_)
 ·obtain ⟨t,b,rfl,hb,h1,q⟩:=h
  rfl
 obtain ⟨t,b,rfl,hb,h1,q⟩:=h
 refine ⟨_,zAF (zBN (PW.pt (zI8 (zCT (zBt (zAI zFF hr rfl (zAA (pv 0) (zAE))))) (zGA (zCT (zBt (zAI zFF hr rfl (zAA (pv 1) (zAE)))))))) (zAJ (zFt)) (zAY))
  (zAF (zBN (zAW zCl (pv 1) (zAG) (zAZ _)) (zAJ (zFt)) (zAY))
  (zAF (zAN (i:=2) zHc.nd rfl (Or.inl rfl) (zAI zDw hr rfl (zAA (pv 0) (zAA (pv 1) (zAE)))))
  (zAF (zBN (zAW zPH (pv 1) (zAG) (zAZ _)) (zAJ (zAN (i:=2) zHc.nd rfl (Or.inl rfl) (zPV zKy (pv 2)))) (zAY))
  (zAJ (zAO (zFI (zAA (zAR zDL (pv 0) (pv 2)) (zAA (zAR zDL (pv 1) (pv 2)) (zAE))))))))),?_⟩
 walk_at "st"
 have e0:0 < (Int.gcd t b:Int):=by have:=Int.gcd_pos_of_ne_zero_right t (show b≠0 by omega);omega
 have e1:(Int.gcd t b:Int)<=b.natAbs:=by have:=Int.gcd_le_natAbs_right (a:=t) (b:=b) (by omega);omega
 walk_at "rd"
 refine q _ _ (by walk_at "sm") ?_
 unfold low1 low2 lowS;rw [if_neg (show ¬ b < 0 by omega),Int.fdiv_eq_ediv_of_nonneg _ (Int.le_of_lt e0),Int.fdiv_eq_ediv_of_nonneg _ (Int.le_of_lt e0)];assumption
local macro_rules | `(tactic| walk_at "rdc")=>`(tactic| ((with_reducible refine' zOg ?h1 ?h2 ?_);(case h1=>omega);(case h2=>omega);intro p' H' g' e'))
def zD2 (K:W.Frag):Sp:=fun vs H Q _=>∃ k c t:Int,vs=[.int k,.int c,.int t]/\2<=c/\c<=16/\0<=t/\t<=6 /\ ∀ p H',Same H H'->H' p=some (.tup [.int (low1 k (c ^ t.toNat)),.int (low2 k (c ^ t.toNat))])->Q (.ref p) H'
theorem zMe (h1:2<=c) (h2:c<=16) (h3:0<=t) (h4:t<=6) (q : ∀ p H',Same H H'->H' p=some (.tup [.int (low1 k (c ^ t.toNat)),.int (low2 k (c ^ t.toNat))])->Q (.ref p) H'):zD2 K ([.int k,.int c,.int t]++[]) H Q E:=⟨k,c,t,rfl,h1,h2,h3,h4,q⟩
theorem zLb (F:Fun K "grid_value" "grid_value" zEl fq fd) (B:Blt mg) (zOe:Has P w K mg base "fraction" 2 ["top", "bottom"] (zFe K)) (zFM:Has P w K mg base "power_of" 1 ["base", "times"] (zDc K)):FnOk P w K mg base CX0 3 fq fd ["k", "base", "places"] (zD2 K):=by
 refine F.ok zLA (fun vs H Q E h=>?_) (fun cdv A outer s H vs Q E hr h=>?_)
 ·obtain ⟨k,c,t,rfl,h1,h2,h3,h4,q⟩:=h
  rfl
 obtain ⟨k,c,t,rfl,h1,h2,h3,h4,q⟩:=h
 refine ⟨_,zAJ (zAO (zAI zOe hr rfl (zAA (pv 0) (zAA (zAI zFM hr rfl (zAA (pv 1) (zAA (pv 2) (zAE)))) (zAE))))),?_⟩
 walk_at "st"
 have z:=pw6 (t:=t) h1 h2 h4
 walk_at "rd"
 exact q _ _ (by walk_at "sm") (by assumption)
local macro_rules | `(tactic| walk_at "rdc")=>`(tactic| ((with_reducible refine' zMe ?h1 ?h2 ?h3 ?h4 ?_);(case h1=>omega);(case h2=>omega);(case h3=>omega);(case h4=>omega);intro p' H' g' e'))
variable {X:Cx}
theorem zEa (e:X.K=K):IxR X (rIxT K):=e ▸ zBc
open Classical in
noncomputable def zBj (fg pl b:Int) (sn:Str) (z:Int) (m pt:Nat) (bl:Bool) (t:List Nat):Option Int:=
 if Sgd sn bl t/\IsB b pl.toNat pt z.toNat m (bod sn bl t)/\bval b pl.toNat z.toNat (bod sn bl t) < b ^ (fg+pl).toNat/\(bl=true->0 < bval b pl.toNat z.toNat (bod sn bl t)) then some (if bl=true then -bval b pl.toNat z.toNat (bod sn bl t) else bval b pl.toNat z.toNat (bod sn bl t)) else none
def oV:Option Int->V
 | some k=>.int k
 | none=>.non
def zB1 (K:W.Frag) (C:Addr):Sp:=fun vs H Q _=>∃ (a:Addr) (fg pl b:Int) (sn:Str) (z:Int) (m pt:Nat) (wy:Str) (wd:Int) (f:Nat) (x:Str) (st:Bool) (t:List Nat) (bl:Bool),vs=[.ref a,.str (T t),.bl bl]/\zAT K H a C wd f x st (zB9 fg pl b sn z m pt wy)/\NumS fg pl b sn z m pt wy wd f x/\Asc t/\t.length<=400 /\ ∀ H',Same H H'->Q (oV (zBj fg pl b sn z m pt bl t)) H'
theorem zE9 (F:FunD K "number_with" "NumberForm.number_with" zAk fq fd) (B:Blt mg) {zBB:Addr} (zAK:Cls K zAB) (zG5:mg "NoCore" = some (.ref zBB)) (zDd:mg "NoBody" = some (.ref zA3)) (zIJ:HasX P w K mg base "unsigned" 3 ["core", "style"] (zDX K)) (zNl:HasX P w K mg base "number_in" 4 ["body", "base", "places", "point", "size", "mark"] (zEv K)) (zB2:HasM P w K mg base CX0 zAB "is_too_great" 2 ["self", "number"] (zBO K zAB))(vAU:Nm K "NoCore" zBB) (vAT:Nm K "NoBody" zA3) (xc:W.exmAny K (.ref zBB) [.ref zBB,.ref zA3]=some true) (xb:W.exmAny K (.ref zA3) [.ref zBB,.ref zA3]=some true):FnOk P w K mg base CX0 5 fq fd ["self", "core", "below"] (zB1 K zAB):=by
 refine F.ok zB0 (fun vs H Q E h=>?_) (fun cdv A outer s H vs Q E hr h=>?_)
 ·obtain ⟨a,fg,pl,b,sn,z,m,pt,wy,wd,f,x,st,t,bl,rfl,F0,ok,at',ht,q⟩:=h
  rfl
 obtain ⟨a,fg,pl,b,sn,z,m,pt,wy,wd,f,x,st,t,bl,rfl,F0,ok,at',ht,q⟩:=h
 refine ⟨_,zAF (zU3 rfl rfl (fun _ _ _=>zAF (zAN (i:=3) zB0.nd rfl (Or.inl rfl) (zOY zIJ hr rfl (zAA (pv 1) (zAA (zE6 (K:=K) rfl (pv 0) rfl) (zAE)))))
  (zAJ (zAN (i:=4) zB0.nd rfl (Or.inl rfl) (zOY zNl hr rfl (zAA (zAb (zEa (K:=K) rfl) (pv 3) (zAG) (fun _ _=>rfl)) (zAA (zE6 (K:=K) rfl (pv 0) rfl) (zAA (zE6 (K:=K) rfl (pv 0) rfl) (zAA (zE6 (K:=K) rfl (pv 0) rfl) (zAA (zE6 (K:=K) rfl (pv 0) rfl) (zAA (zE6 (K:=K) rfl (pv 0) rfl) (zAE))))))))))) (zRw rfl zG5 rfl zDd (fun _=>zAJ (zAO (zN5)))))
  (zAF (zBN (PW.pt (zI8 (zAW zIq (zAb zBc (pv 3) (zAG) (fun _ _=>rfl)) (pv 2) (zAZ _)) (zGA (zBt (zAV zB2 zAK zBV hr (pv 0) (zAA (pv 4) (zAE))))))) (zAJ (zAO (zN5))) (zAY))
  (zAF (zBN (zCT (zBt (pv 2))) (zAJ (zAO (pv 4))) (zAY))
  (zAJ (zAO (zLC (zAW zIf (pv 4) (zAG) (zAZ _)) (zPV zKy (pv 4)) (zN5)))))),?_⟩
 walk_at "st"
 have o1:=ok.fg1;have o2:=ok.fg2;have o3:=ok.pl1;have o4:=ok.pl2;have o5:=ok.b1;have o6:=ok.b2;have o9:=ok.z1;have o10:=ok.z2
 walk_at "rd"
 refine zWg [some (.ref a),some (.str (T t)),some (.bl bl),none,none] ?_
 walk_at "rd"
 refine ⟨t,sn,rfl,ok.sn,at',by omega,fun b' sd p1 H1 g1 e1=>?_,fun n0 n1 C H1 nC g1=>?_⟩
 ·have F1:=F0.same g1
  have hl:(bod sn b' t).length<=t.length:=by unfold bod;rw [length_drop,length_take];omega
  have ha:Asc (bod sn b' t):=(at'.take _).drop _
  walk_at "rd"
  refine ⟨bod sn b' t,b,pl,z,pt,m,rfl,o5,o6,o3,o4,o9,o10,by omega,ha,fun ib H2 g2=>?_,fun ni C H2 nC g2=>?_⟩
  ·have F2:=F1.same g2
   have e2:=g2.at e1
   have fin : ∀ o,zBj fg pl b sn z m pt bl t=o->Q (oV o) H2:=fun o h=>h ▸ q _ (g1.trans g2)
   walk_at "rd"
   rcases Decidable.em (b'=bl) with rfl | hb
   ·refine zXA ?_
    rw [decide_eq_true rfl]
    generalize hn:bval b pl.toNat z.toNat (bod sn b' t)=n
    walk_at "rd"
    ·rename_i hc
     refine fin none ?_
     unfold zBj
     rw [hn]
     exact if_neg fun h=>by have:=h.2.2.1;omega
    ·rename_i h1 h2
     have hb:b'=false:=by cases b' <;> simp_all
     subst hb
     refine fin (some n) ?_
     unfold zBj
     rw [hn,if_pos ⟨sd,ib,by omega,fun h=>by cases h⟩,if_neg Bool.false_ne_true]
    ·rename_i h1 h2 h3
     have hb:b'=true:=by cases b' <;> simp_all
     subst hb
     refine fin (some (-n)) ?_
     unfold zBj
     rw [hn,if_pos ⟨sd,ib,by omega,fun h=>h3⟩,if_pos rfl]
    ·rename_i h1 h2 h3
     have hb:b'=true:=by cases b' <;> simp_all
     subst hb
     refine fin none ?_
     unfold zBj
     rw [hn]
     exact if_neg fun h=>h3 (h.2.2.2 rfl)
   ·refine zXA ?_
    rw [decide_eq_false hb]
    walk_at "rd"
    refine fin none ?_
    unfold zBj
    refine if_neg fun h=>?_
    cases bl <;> cases b'
    ·exact hb rfl
    ·exact zFf ok.sn h.1 sd
    ·exact zFf ok.sn sd h.1
    ·exact hb rfl
  ·have:=Nm.eq nC vAT
   subst this
   refine ⟨_,rfl,r_Hd xb ?_⟩
   walk_at "rd"
   have q':=q _ (g1.trans g2)
   rw [show zBj fg pl b sn z m pt bl t=none from ?_] at q'
   ·exact q'
   ·unfold zBj
    refine if_neg fun h=>ni ?_
    obtain rfl:bl=b':=by
     cases bl <;> cases b'
     ·rfl
     ·exact (zFf ok.sn h.1 sd).elim
     ·exact (zFf ok.sn sd h.1).elim
     ·rfl
    exact h.2.1
 ·have:=Nm.eq nC vAU
  subst this
  refine ⟨_,rfl,r_Hd xc ?_⟩
  walk_at "rd"
  have q':=q _ g1
  rw [show zBj fg pl b sn z m pt bl t=none from ?_] at q'
  ·exact q'
  ·unfold zBj
   refine if_neg fun h=>?_
   cases bl
   ·exact n0 h.1
   ·exact n1 h.1
theorem zLk {a:Addr} {z:Int} {pt:Nat} {t:List Nat} (h1:zAT K H a C wd f x st (zB9 fg pl b sn z m pt wy)) (h2:NumS fg pl b sn z m pt wy wd f x) (h3:Asc t) (h4:t.length<=400) (q : ∀ H',Same H H'->Q (oV (zBj fg pl b sn z m pt bl t)) H'):zB1 K C (.ref a::([.str (T t),.bl bl]++[])) H Q E:=⟨a,fg,pl,b,sn,z,m,pt,wy,wd,f,x,st,t,bl,rfl,h1,h2,h3,h4,q⟩
def RT (H:Hp) (S:Int) (v:V) (k:Int):Prop:=∃ p,v = .ref p/\H p=some (.tup [.int (low1 k S),.int (low2 k S)])
variable {S:Int}
theorem RT.same (g:Same H H') (h:RT H S v k):RT H' S v k:=let ⟨p,e,k⟩:=h;⟨p,e,g.at k⟩
theorem two_ways {z:Int} {pt:Nat} (hs:zEN sn) (cs:List (List Nat)):(cs.filterMap (zBj fg pl b sn z m pt false)).length+(cs.filterMap (zBj fg pl b sn z m pt true)).length<=cs.length:=by
 induction cs with
 | nil=>exact Nat.le_refl _
 | cons c cs ih =>
  rw [filterMap_cons,filterMap_cons,length_cons]
  cases h0:zBj fg pl b sn z m pt false c with
  | none =>
   cases h1:zBj fg pl b sn z m pt true c with
   | none=>dsimp only;omega
   | some k=>dsimp only;rw [length_cons];omega
  | some j =>
   cases h1:zBj fg pl b sn z m pt true c with
   | none=>dsimp only;rw [length_cons];omega
   | some k =>
    exfalso
    unfold zBj at h0 h1
    split at h0
    ·rename_i a0
     split at h1
     ·rename_i a1
      exact zFf hs a0.1 a1.1
     ·cases h1
    ·cases h0
def stin (t l:List Nat) (w:Int) (f:Nat):List (List Nat):=if t.take l.length=l then zBs (t.drop l.length) (w - l.length) f "right" else []
def zCM (K:W.Frag):Sp:=fun vs H Q _=>∃ (t l:List Nat) (w:Int) (f:Nat),vs=[.str (T t),.str (T l),.int w,.str (T [f])]/\t.length<=1000/\l.length<=400/\t.length - l.length<=400/\w<=40/\0<=w /\ ∀ p H',Same H H'->H p=none->H' p=some (.lst (tsV (stin t l w f)))->Q (.ref p) H'
theorem zIl {t l:List Nat} {w:Int} (h1:t.length<=1000) (h2:l.length<=400) (h5:t.length - l.length<=400) (h3:w<=40) (h4:0<=w) (q : ∀ p H',Same H H'->H p=none->H' p=some (.lst (tsV (stin t l w f)))->Q (.ref p) H'):zCM K ([.str (T t),.str (T l),.int w,.str (T [f])]++[]) H Q E:=⟨t,l,w,f,rfl,h1,h2,h5,h3,h4,q⟩
local macro_rules | `(tactic| walk_at "rdc")=>`(tactic| ((with_reducible refine' zIl ?h1 ?h2 ?h5 ?h3 ?h4 ?_);(case h1=>walk_at "tl");(case h2=>walk_at "tl");(case h5=>walk_at "tl");(case h3=>omega);(case h4=>omega);intro p' H' g' n' e'))
theorem zH6 (F:Fun K "stripped_inside" "stripped_inside" zCa fq fd) (B:Blt mg) (zId:Has P w K mg base "stripped" 3 ["text", "width", "fill", "side"] (zEP K)):FnOk P w K mg base CX0 4 fq fd ["text", "lead", "width", "fill"] (zCM K):=by
 refine F.ok zIB (fun vs H Q E h=>?_) (fun cdv A outer s H vs Q E hr h=>?_)
 ·obtain ⟨t,l,w,f,rfl,h1,h2,h5,h3,h4,q⟩:=h
  rfl
 obtain ⟨t,l,w,f,rfl,h1,h2,h5,h3,h4,q⟩:=h
 refine ⟨_,zAF (zBN (zCT (zBt (zGL PySem.F.plainAttrs_str PySem.F.slot_str_startswith PySem.F.type_str_startswith zKb (pv 0) (zAA (pv 1) (zAE))))) (zAJ (zAO (zA1 (zAE)))) (zAY))
  (zAJ (zAO (zAI zId hr rfl (zAA (zAw zDN (pv 0) (zAx (zAL zA6 B.vAA rfl zBF (zAA (pv 1) (zAE)))) (zBe)) (zAA (zAR zCm (pv 2) (zAL zA6 B.vAA rfl zBF (zAA (pv 1) (zAE)))) (zAA (pv 3) (zAA (zA2) (zAE)))))))),?_⟩
 walk_at "st"
 walk_at "rd"
 ·rename_i hc p' H' g' n' e'
  exact q _ _ g' n' (by rw [e'];unfold stin;rw [if_pos hc,toNat_natCast])
 ·rename_i hc p' H' g' n' e'
  exact q _ _ g' n' (by rw [e'];unfold stin;rw [if_neg hc];rfl)
def cin (t:List Nat) (sn:Str) (bl:Bool) (wd:Int) (f:Nat) (x:Str) (st:Bool):List (List Nat):=if x = "inside" then ((stin t (stL sn bl) wd f).map fun r=>stL sn bl++r).filter (nwd wd st) else ucs t wd f x st
theorem zOK {t l:List Nat} {w:Int} (h:w<=40):(stin t l w f).length<=41:=by
 unfold stin
 split
 ·exact zIV (by omega)
 ·exact Nat.zero_le _
theorem zLD {t:List Nat} (h:wd<=40):(cin t sn bl wd f x st).length<=41:=by
 unfold cin
 split
 ·exact le_trans (length_filter_le _ _) (by rw [length_map];exact zOK h)
 ·exact (zNw h).1
theorem zQN {α β:Type} {g:α->Option β} : ∀ {l:List α},(∀ a ∈ l,g a=none)->l.filterMap g=[]
 | [],_=>rfl
 | a::l,h=>by rw [List.filterMap_cons_none (h a (mem_cons_self ..))];exact zQN fun b hb=>h b (mem_cons_of_mem _ hb)
theorem zTL {α β:Type} {g:α->Option β} {a:α} {l:List α} (h : ∀ b ∈ l,g b=none):((a::l).filterMap g).length<=1:=by
 rw [filterMap_cons,zQN h]
 cases g a <;> simp
theorem zLu {α β:Type} {g:α->Option β} {p:α->Bool} : ∀ l:List α,((l.filter p).filterMap g).length<=(l.filterMap g).length
 | []=>Nat.le_refl _
 | a::l=>by
  have ih:=zLu (g:=g) (p:=p) l
  rw [filter_cons]
  split
  ·rw [filterMap_cons,filterMap_cons]
   cases g a <;> simp <;> omega
  ·rw [filterMap_cons]
   cases g a <;> simp <;> omega
theorem zRm {z:Int} {pt:Nat} {u:List Nat} (hL:stL sn false=[]) (h:zBj fg pl b sn z m pt false u=some k):0<=fv (u.getD 0 0):=by
 unfold zBj at h
 split at h
 ·rename_i a
  obtain ⟨⟨ne,h0,_⟩,e⟩:=a.1
  rw [hL,nil_append] at e
  have:u.getD 0 0=(bod sn false u).getD 0 0:=by
   conv=>lhs;rw [<- e]
   cases hb:bod sn false u with
   | nil=>exact absurd hb ne
   | cons c r=>rfl
  rw [this];exact h0
 ·cases h
theorem zSb {z:Int} {pt:Nat} {t:List Nat} (hL:stL sn false=[]) (hw:wd<=40) (hc:fv (t.getD 0 0) < 0):((zBs t wd f "right").filterMap (zBj fg pl b sn z m pt false)).length<=1:=by
 rcases Int.lt_trichotomy wd t.length with h | h | h
 ·rw [zFb h];exact zTL (l:=[]) (fun _ h=>nomatch h)
 ·rw [zL9 hw h.symm,List.range_succ_eq_map,map_cons]
  refine zTL fun u hu=>?_
  rw [map_map] at hu
  obtain ⟨k,hk,rfl⟩:=List.mem_map.mp hu
  have hk:=List.mem_range.mp hk
  cases hn:zBj fg pl b sn z m pt false (((fun k=>t.drop (fa f t - k)) ∘ Nat.succ) k) with
  | none=>rfl
  | some j =>
   exfalso
   have h1:=zRm hL hn
   have h2:(((fun k=>t.drop (fa f t - k)) ∘ Nat.succ) k).getD 0 0=t.getD (fa f t - (k+1)) 0:=by
    show (t.drop (fa f t - (k+1))).getD 0 0=_
    rw [getD_eq_getElem?_getD,List.getElem?_drop,getD_eq_getElem?_getD,Nat.add_zero]
   rw [h2,zTc (show fa f t - (k+1) < fa f t by omega)] at h1
   rw [zTc (show 0 < fa f t by omega)] at hc
   omega
 ·rw [zIw (.inr (.inl rfl)) hw (by omega)];exact Nat.zero_le _
theorem zQH {z:Int} {pt:Nat} {t:List Nat} (hs:zEN sn) (hw:wd<=40):((cin t sn false wd f x st).filterMap (zBj fg pl b sn z m pt false)).length+((cin t sn true wd f x st).filterMap (zBj fg pl b sn z m pt true)).length<=42:=by
 have l0:=le_trans (List.length_filterMap_le (zBj fg pl b sn z m pt false) (cin t sn false wd f x st)) (zLD (bl:=false) (f:=f) (x:=x) (st:=st) (t:=t) (sn:=sn) hw)
 have l1:=le_trans (List.length_filterMap_le (zBj fg pl b sn z m pt true) (cin t sn true wd f x st)) (zLD (bl:=true) (f:=f) (x:=x) (st:=st) (t:=t) (sn:=sn) hw)
 by_cases hx:x = "inside"
 ·have same:stL sn false=stL sn true->((cin t sn false wd f x st).filterMap (zBj fg pl b sn z m pt false)).length+((cin t sn true wd f x st).filterMap (zBj fg pl b sn z m pt true)).length<=42:=fun e=>by
   have e2:cin t sn true wd f x st=cin t sn false wd f x st:=by unfold cin;rw [e]
   rw [e2]
   have tw:=two_ways (fg:=fg) (pl:=pl) (b:=b) (z:=z) (m:=m) (pt:=pt) hs (cin t sn false wd f x st)
   have:=zLD (bl:=false) (f:=f) (x:=x) (st:=st) (t:=t) (sn:=sn) hw
   omega
  have zero : ∀ bl c,stL sn bl=[c]->t.take 1≠[c]->cin t sn bl wd f x st=[]:=fun bl c e h=>by
   unfold cin
   rw [if_pos hx,e]
   unfold stin
   rw [if_neg (show ¬ t.take [c].length=[c] from h)];rfl
  have apart : ∀ c d,stL sn false=[c]->stL sn true=[d]->c≠d->((cin t sn false wd f x st).filterMap (zBj fg pl b sn z m pt false)).length+((cin t sn true wd f x st).filterMap (zBj fg pl b sn z m pt true)).length<=42:=fun c d e0 e1 hn=>by
   by_cases h0:t.take 1=[c]
   ·rw [zero true d e1 (fun h=>hn (List.singleton_inj.mp (h0.symm.trans h))),List.filterMap_nil,length_nil];omega
   ·rw [zero false c e0 h0,List.filterMap_nil,length_nil];omega
  have ahead : ∀ c,stL sn false=[]->stL sn true=[c]->fv c < 0->((cin t sn false wd f x st).filterMap (zBj fg pl b sn z m pt false)).length+((cin t sn true wd f x st).filterMap (zBj fg pl b sn z m pt true)).length<=42:=fun c e0 e1 hc=>by
   by_cases h0:t.take 1=[c]
   ·have ht:t.getD 0 0=c:=by
     cases t with
     | nil=>simp at h0
     | cons d r=>simp at h0;rw [h0];rfl
    have hone:=zSb (fg:=fg) (pl:=pl) (b:=b) (z:=z) (m:=m) (pt:=pt) (t:=t) (wd:=wd) (f:=f) e0 hw (by rw [ht];exact hc)
    have e2:cin t sn false wd f x st=(zBs t wd f "right").filter (nwd wd st):=by
     unfold cin
     rw [if_pos hx,e0]
     unfold stin
     rw [if_pos (by simp)]
     simp
    rw [e2]
    have:=zLu (g:=zBj fg pl b sn z m pt false) (p:=nwd wd st) (zBs t wd f "right")
    omega
   ·rw [zero true c e1 h0,List.filterMap_nil,length_nil];omega
  rcases hs with rfl | rfl | rfl | rfl | rfl
  ·exact ahead 45 (by decide +kernel) (by decide +kernel) (by decide +kernel)
  ·exact apart 43 45 (by decide +kernel) (by decide +kernel) (by decide)
  ·exact apart 32 45 (by decide +kernel) (by decide +kernel) (by decide)
  ·exact ahead 40 (by decide +kernel) (by decide +kernel) (by decide +kernel)
  ·exact same (by decide +kernel)
 ·have e : ∀ bl,cin t sn bl wd f x st=ucs t wd f x st:=fun bl=>by unfold cin;rw [if_neg hx]
  rw [e,e]
  have tw:=two_ways (fg:=fg) (pl:=pl) (b:=b) (z:=z) (m:=m) (pt:=pt) hs (ucs t wd f x st)
  have:=(zNw (t:=t) (f:=f) (x:=x) (st:=st) hw).1
  omega
theorem zWv {t:List Nat} (hs:zEN sn) : ∀ c ∈ cin t sn bl wd f x st,c.length<=t.length+2/\(Asc t->Asc c):=fun c hc=>by
 unfold cin at hc
 split at hc
 ·have hc:=(List.mem_filter.mp hc).1
  obtain ⟨r,hr,rfl⟩:=List.mem_map.mp hc
  unfold stin at hr
  split at hr
  ·have b:=zGZ r hr
   have sl:=zIz hs bl
   have sa:=zMC hs bl
   rw [length_drop] at b
   exact ⟨by rw [length_append];omega,fun h=>sa.1.app (b.2 (h.drop _))⟩
  ·cases hr
 ·have b:=zGZ c (List.mem_filter.mp hc).1
  exact ⟨by omega,b.2⟩
def zDT (K:W.Frag) (C:Addr):Sp:=fun vs H Q _=>∃ (a:Addr) (fg pl b:Int) (sn:Str) (z:Int) (m pt:Nat) (wy:Str) (wd:Int) (f:Nat) (x:Str) (st:Bool) (t:List Nat) (bl:Bool),vs=[.ref a,.str (T t),.bl bl]/\zAT K H a C wd f x st (zB9 fg pl b sn z m pt wy)/\NumS fg pl b sn z m pt wy wd f x/\t.length<=300 /\ ∀ l H',Same H H'->H' l=some (.lst (tsV (cin t sn bl wd f x st)))->Q (.ref l) H'
theorem zGD (F:FunD K "cores_in" "NumberForm.cores_in" zA4 fq fd) (B:Blt mg) (zAK:Cls K zAB) (zDB:Has P w K mg base "ends_of" 1 ["style", "below"] (zC4 K)) (zIM:Has P w K mg base "stripped_inside" 4 ["text", "lead", "width", "fill"] (zCM K)) (zGb:HasM P w K mg base CX0 zAB "unfilled" 4 ["self", "text"] (zCK K zAB zAD zAC)) (zAl:HasM P w K mg base CX0 zAB "is_too_wide" 1 ["self", "core"] (zAX K)):FnOk P w K mg base CX0 5 fq fd ["self", "text", "below"] (zDT K zAB):=by
 refine F.ok zCL (fun vs H Q E h=>?_) (fun cdv A outer s H vs Q E hr h=>?_)
 ·obtain ⟨a,fg,pl,b,sn,z,m,pt,wy,wd,f,x,st,t,bl,rfl,F0,ok,ht,q⟩:=h
  rfl
 obtain ⟨a,fg,pl,b,sn,z,m,pt,wy,wd,f,x,st,t,bl,rfl,F0,ok,ht,q⟩:=h
 refine ⟨_,zAF (zBN (zAW zIq (zAg (pv 0) rfl) (zA2) (zAZ _)) (zAJ (zAO (zAV zGb zAK zBV hr (pv 0) (zAA (pv 1) (zAE))))) (zAY))
  (zAF (zAN (i:=3) zCL.nd rfl (Or.inr rfl) (zAb zBc (zAI zDB hr rfl (zAA (zAg (pv 0) rfl) (zAA (pv 2) (zAE)))) (zAG) (fun _ _=>rfl)))
  (zAF (zEF (cl:=[("lead", s.heap.objs.size+1+1)]) (fr:=["lead"]) (is:=[3]) (i:=4) zCL.nd rfl (Or.inl rfl) rfl rfl rfl ⟨rfl,trivial⟩ rfl ⟨⟨rfl,rfl,Or.inl rfl⟩,trivial⟩ (by decide) (by decide +kernel) rfl (by decide +kernel) rfl (zCg (zAI zIM hr rfl (zAA (pv 1) (zAA (pv 3) (zAA (zAg (pv 0) rfl) (zAA (zAg (pv 0) rfl) (zAE))))))) (fun _ _ _ _=>zCn) (fun _ _ _ _=>zAR zDC (pv 1) (pv 0)))
  (zAJ (zAO (zDF (cl:=[("self", s.heap.objs.size+1+0)]) (fr:=["self"]) (is:=[0]) rfl rfl ⟨rfl,trivial⟩ rfl ⟨⟨rfl,rfl,Or.inl rfl⟩,trivial⟩ (by decide) (by decide +kernel) rfl (by decide +kernel) rfl (zCg (pv 4)) (fun _ _ _ _=>zEk (zCT (zBt (zAV zAl zAK zBV hr (pv 1) (zAA (pv 0) (zAE)))))) (fun _ _ _ _=>pv 0)))))),?_⟩
 walk_at "st"
 have sl:=zIz ok.sn bl
 have w0:=ok.wd1;have w1:=ok.wd2;have o7:=ok.sn
 have ec : ∀ b:Bool,(x = "inside")->cin t sn bl wd f x st=((stin t (stL sn bl) wd f).map fun r=>stL sn bl++r).filter (nwd wd st):=fun _ h=>by unfold cin;rw [if_pos h]
 walk_at "rd"
 ·rename_i hc p0 s0 l1 H1 g1 n1 e1
  have F1:=F0.same g1
  have sl1:=zOK (t:=t) (l:=stL sn bl) (f:=f) w1
  have sb1 : ∀ r ∈ stin t (stL sn bl) wd f,r.length<=t.length:=fun r hr=>by
   unfold stin at hr
   split at hr
   ·have:=(zGZ r hr).1
    rw [length_drop] at this
    omega
   ·cases hr
  refine zBM (SqL.of e1) (small (by rw [zA9];omega)) (fun i ys H'=>H'=H1/\ys=tsV (((stin t (stL sn bl) wd f).take i).map fun r=>stL sn bl++r)) ⟨rfl,rfl⟩ (fun i ys H' hi h=>⟨h.1 ▸ SqL.of e1,by rw [h.2,zA9,length_map,length_take];omega⟩) ?_ ?_
  ·rintro i v ys H2 hv hi ⟨rfl,rfl⟩
   obtain ⟨c,hc2,rfl⟩:=zFg hv
   have cb:=sb1 c (mem_of_getElem? hc2)
   walk_at "rd"
   refine nxC hi ⟨rfl,?_⟩
   rw [take_succ,hc2,map_append,<- zEx];rfl
  ·rintro ys H2 ⟨rfl,rfl⟩ p2 H3 g3 n3 e3
   rw [take_of_length_le (by rw [zA9];exact Nat.le_refl _)] at e3
   have F3:=F1.same g3
   have g03:=g1.trans g3
   generalize hcs:(stin t (stL sn bl) wd f).map (fun r=>stL sn bl++r)=cs at e3
   have lcs:cs.length<=41:=by rw [<- hcs,length_map];exact sl1
   have bcs : ∀ c ∈ cs,c.length<=400:=fun c hc=>by
    rw [<- hcs] at hc
    obtain ⟨r,hr,rfl⟩:=List.mem_map.mp hc
    have:=sb1 r hr
    rw [length_append];omega
   walk_at "rd"
   refine zBM (SqL.of e3) (small (by rw [zA9];omega)) (fun i ys H'=>Same H3 H'/\ys=tsV ((cs.take i).filter (nwd wd st))) ⟨Same.refl _,rfl⟩ (fun i ys H' hi h=>⟨SqL.of (h.1.at e3),by rw [h.2,zA9];exact le_trans (length_filter_le _ _) (by rw [length_take];omega)⟩) ?_ ?_
   ·rintro i v ys H4 hv hi ⟨g4,rfl⟩
    obtain ⟨c,hc2,rfl⟩:=zFg hv
    have F4:=F3.same g4
    have cb:=bcs c (mem_of_getElem? hc2)
    walk_at "rd"
    ·rename_i hk
     refine nxC hi ⟨g4,?_⟩
     rw [fil1 hc2,filter_cons_of_pos (show nwd wd st c=true from hk),<- zEx];rfl
    ·rename_i hk
     refine nxC hi ⟨g4,?_⟩
     rw [fil1 hc2,filter_cons_of_neg (show ¬ nwd wd st c=true by unfold nwd;rw [hk];decide),filter_nil,append_nil]
   ·rintro ys H4 ⟨g4,rfl⟩ p4 H5 g5 n5 e5
    rw [take_of_length_le (by rw [zA9];exact Nat.le_refl _)] at e5
    exact q _ _ (g03.trans (g4.trans g5)) (by rw [ec true hc,hcs];exact e5)
 ·rename_i hc
  have sx:Side x:=ok.x.elim id fun z=>absurd z hc
  refine zIp (.num F0) sx (by omega) w0 w1 fun l1 H1 g1 e1=>?_
  exact q _ _ g1 (by unfold cin;rw [if_neg hc];exact e1)
def zB6 (K:W.Frag) (C:Addr):Sp:=fun vs H Q _=>∃ (a:Addr) (fg pl b:Int) (sn:Str) (z:Int) (m pt:Nat) (wy:Str) (wd:Int) (f:Nat) (x:Str) (st:Bool) (t:List Nat) (bl:Bool),vs=[.ref a,.str (T t),.bl bl]/\zAT K H a C wd f x st (zB9 fg pl b sn z m pt wy)/\NumS fg pl b sn z m pt wy wd f x/\Asc t/\t.length<=300 /\ ∀ l H',Same H H'->H' l=some (.lst (((cin t sn bl wd f x st).filterMap (zBj fg pl b sn z m pt bl)).map V.int))->Q (.ref l) H'
theorem zI0 {a:Addr} {z:Int} {pt:Nat} {t:List Nat} (h1:zAT K H a C wd f x st (zB9 fg pl b sn z m pt wy)) (h2:NumS fg pl b sn z m pt wy wd f x) (h4:Asc t) (h5:t.length<=300) (q : ∀ l H',Same H H'->H' l=some (.lst (((cin t sn bl wd f x st).filterMap (zBj fg pl b sn z m pt bl)).map V.int))->Q (.ref l) H'):zB6 K C (.ref a::([.str (T t),.bl bl]++[])) H Q E:=⟨a,fg,pl,b,sn,z,m,pt,wy,wd,f,x,st,t,bl,rfl,h1,h2,h4,h5,q⟩
theorem zXd (g:List Nat->Option Int) (cs:List (List Nat)):((cs.map fun c=>oV (g c)).filter fun v=>decide (v ≠ .non))=(cs.filterMap g).map V.int:=by
 induction cs with
 | nil=>rfl
 | cons c cs ih =>
  rw [map_cons,filterMap_cons]
  cases h:g c with
  | none=>rw [filter_cons_of_neg (by simp [oV]),ih]
  | some k=>rw [filter_cons_of_pos (by simp [oV]),ih];rfl
theorem zFG (F:FunD K "numbers_in" "NumberForm.numbers_in" zAs fq fd) (B:Blt mg) (zAK:Cls K zAB) (zFC:HasM P w K mg base CX0 zAB "number_with" 5 ["self", "core", "below"] (zB1 K zAB)) (zGY:HasM P w K mg base CX0 zAB "cores_in" 5 ["self", "text", "below"] (zDT K zAB)):FnOk P w K mg base CX0 6 fq fd ["self", "text", "below"] (zB6 K zAB):=by
 refine F.ok zC7 (fun vs H Q E h=>?_) (fun cdv A outer s H vs Q E hr h=>?_)
 ·obtain ⟨a,fg,pl,b,sn,z,m,pt,wy,wd,f,x,st,t,bl,rfl,F0,ok,at',ht,q⟩:=h
  rfl
 obtain ⟨a,fg,pl,b,sn,z,m,pt,wy,wd,f,x,st,t,bl,rfl,F0,ok,at',ht,q⟩:=h
 refine ⟨_,zAF (zEF (cl:=[("self", s.heap.objs.size+1+0),("below", s.heap.objs.size+1+1)]) (fr:=["below", "self"]) (is:=[2,0]) (i:=3) zC7.nd rfl (Or.inl rfl) rfl rfl rfl ⟨rfl,⟨rfl,trivial⟩⟩ rfl ⟨⟨rfl,rfl,Or.inl rfl⟩,⟨⟨rfl,rfl,Or.inl rfl⟩,trivial⟩⟩ (by decide) (by decide +kernel) rfl (by decide +kernel) rfl (zCg (zAV zGY zAK zBV hr (pv 0) (zAA (pv 1) (zAA (pv 2) (zAE))))) (fun _ _ _ _=>zCn) (fun _ _ _ _=>zAV zFC zAK zBV hr (pv 2) (zAA (pv 0) (zAA (pv 1) (zAE)))))
  (zAJ (zAO (zDF (cl:=[]) (fr:=[]) (is:=[]) rfl rfl trivial rfl trivial (by decide) (by decide +kernel) rfl (by decide +kernel) rfl (zCg (pv 3)) (fun _ _ _ _=>zEk (zAW zSa (pv 0) (zN5) (zAZ _))) (fun _ _ _ _=>pv 0)))),?_⟩
 walk_at "st"
 have ul:=zLD (t:=t) (sn:=sn) (bl:=bl) (f:=f) (x:=x) (st:=st) ok.wd2
 have ub:=zWv (t:=t) (bl:=bl) (wd:=wd) (f:=f) (x:=x) (st:=st) ok.sn
 walk_at "rd"
 refine ⟨a,fg,pl,b,sn,z,m,pt,wy,wd,f,x,st,t,bl,rfl,F0,ok,ht,fun l1 H1 g1 e1=>?_⟩
 have F1:=F0.same g1
 refine zBM (SqL.of e1) (small (by rw [zA9];omega)) (fun i ys H'=>Same H1 H'/\ys=((cin t sn bl wd f x st).take i).map fun c=>oV (zBj fg pl b sn z m pt bl c)) ⟨Same.refl _,rfl⟩ (fun i ys H' hi h=>⟨SqL.of (h.1.at e1),by rw [h.2,length_map,length_take];omega⟩) ?_ ?_
 ·rintro i v ys H2 hv hi ⟨g2,rfl⟩
  obtain ⟨c,hc,rfl⟩:=zFg hv
  have F2:=F1.same g2
  have cb:=ub c (mem_of_getElem? hc)
  walk_at "rd"
  refine zLk F2 ok (cb.2 at') (by omega) fun H3 g3=>nxC hi ⟨g2.trans g3,?_⟩
  rw [take_succ,hc,map_append];rfl
 ·rintro ys H2 ⟨g2,rfl⟩ p2 H3 g3 n3 e3
  rw [take_of_length_le (by rw [zA9];exact Nat.le_refl _)] at e3
  have g03:=g1.trans (g2.trans g3)
  walk_at "rd"
  generalize hks:(cin t sn bl wd f x st).map (fun c=>oV (zBj fg pl b sn z m pt bl c))=ks at e3
  have lk:ks.length<=41:=by rw [<- hks,length_map];exact ul
  refine zBM (SqL.of e3) (small (by omega)) (fun i ys H'=>Same H3 H'/\ys=(ks.take i).filter fun v=>decide (v ≠ .non)) ⟨Same.refl _,rfl⟩ (fun i ys H' hi h=>⟨SqL.of (h.1.at e3),by rw [h.2];exact le_trans (length_filter_le _ _) (by rw [length_take];omega)⟩) ?_ ?_
  ·rintro i v ys H4 hv hi ⟨g4,rfl⟩
   have hm:v ∈ (cin t sn bl wd f x st).map fun c=>oV (zBj fg pl b sn z m pt bl c):=hks ▸ mem_of_getElem? hv
   obtain ⟨c,_,hov⟩:=List.mem_map.mp hm
   cases ho:zBj fg pl b sn z m pt bl c with
   | none =>
    have hov:V.non=v:=by rw [ho] at hov;exact hov
    subst hov
    walk_at "rd"
    refine ⟨rfl,?_⟩
    rw [decide_eq_true rfl]
    walk_at "rd"
    refine nxC hi ⟨g4,?_⟩
    rw [fil1 hv,filter_cons_of_neg (by simp),filter_nil,append_nil]
   | some k =>
    have hov:V.int k=v:=by rw [ho] at hov;exact hov
    subst hov
    walk_at "rd"
    refine zUD ?_
    walk_at "rd"
    refine nxC hi ⟨g4,?_⟩
    rw [fil1 hv,filter_cons_of_pos (by simp),filter_nil]
  ·rintro ys H4 ⟨g4,rfl⟩ p4 H5 g5 n5 e5
   rw [take_length,<- hks,zXd] at e5
   exact q _ _ (g03.trans (g4.trans g5)) e5
noncomputable def nks (fg pl b:Int) (sn:Str) (z:Int) (m pt:Nat) (wd:Int) (f:Nat) (x:Str) (st:Bool) (t:List Nat):List Int:=(cin t sn false wd f x st).filterMap (zBj fg pl b sn z m pt false)++(cin t sn true wd f x st).filterMap (zBj fg pl b sn z m pt true)
def zBE (K:W.Frag) (C:Addr):Sp:=fun vs H Q _=>∃ (a:Addr) (fg pl b:Int) (sn:Str) (z:Int) (m pt:Nat) (wy:Str) (wd:Int) (f:Nat) (x:Str) (st:Bool) (t:List Nat),vs=[.ref a,.str (T t)]/\zAT K H a C wd f x st (zB9 fg pl b sn z m pt wy)/\NumS fg pl b sn z m pt wy wd f x/\Asc t/\t.length<=300 /\ ∀ l H' us ms,Same H H'->H' l=some (.lst us)->ms.Perm (nks fg pl b sn z m pt wd f x st t)->ms.Pairwise (· <= ·)->Al (RT H' (b ^ pl.toNat)) us ms->Q (.ref l) H'
theorem zFQ (F:FunD K "values_for" "NumberForm.values_for" zAt fq fd) (B:Blt mg) (zAK:Cls K zAB) (zMY:Has P w K mg base "grid_value" 3 ["k", "base", "places"] (zD2 K)) (zDO:HasM P w K mg base CX0 zAB "numbers_in" 6 ["self", "text", "below"] (zB6 K zAB)):FnOk P w K mg base CX0 7 fq fd ["self", "text"] (zBE K zAB):=by
 refine F.ok zC6 (fun vs H Q E h=>?_) (fun cdv A outer s H vs Q E hr h=>?_)
 ·obtain ⟨a,fg,pl,b,sn,z,m,pt,wy,wd,f,x,st,t,rfl,F0,ok,at',ht,q⟩:=h
  rfl
 obtain ⟨a,fg,pl,b,sn,z,m,pt,wy,wd,f,x,st,t,rfl,F0,ok,at',ht,q⟩:=h
 refine ⟨_,zAF (zAN (i:=2) zC6.nd rfl (Or.inl rfl) (zAR zDP (zAV zDO zAK zBV hr (pv 0) (zAA (pv 1) (zAA (zEz) (zAE)))) (zAV zDO zAK zBV hr (pv 0) (zAA (pv 1) (zAA (zEz) (zAE))))))
  (zAJ (zAO (zDF (cl:=[("self", s.heap.objs.size+1+0)]) (fr:=["self"]) (is:=[0]) rfl rfl ⟨rfl,trivial⟩ rfl ⟨⟨rfl,rfl,Or.inl rfl⟩,trivial⟩ (by decide) (by decide +kernel) rfl (by decide +kernel) rfl (zCg (zAL zNI B.vAM rfl zMB (zAA (pv 2) (zAE)))) (fun _ _ _ _=>zCn) (fun _ _ _ _=>zAI zMY hr rfl (zAA (pv 0) (zAA (zE6 (K:=K) rfl (pv 1) rfl) (zAA (zE6 (K:=K) rfl (pv 1) rfl) (zAE)))))))),?_⟩
 walk_at "st"
 have tw:=zQH (fg:=fg) (pl:=pl) (b:=b) (z:=z) (m:=m) (pt:=pt) (t:=t) (f:=f) (x:=x) (st:=st) ok.sn ok.wd2
 have o3:=ok.pl1;have o4:=ok.pl2;have o5:=ok.b1;have o6:=ok.b2
 walk_at "rd"
 refine zI0 F0 ok at' ht fun l1 H1 g1 e1=>?_
 have F1:=F0.same g1
 walk_at "rd"
 refine zI0 F1 ok at' ht fun l2 H2 g2 e2=>?_
 have F2:=F1.same g2
 have e12:=g2.at e1
 generalize hA:(cin t sn false wd f x st).filterMap (zBj fg pl b sn z m pt false)=A at *
 generalize hB:(cin t sn true wd f x st).filterMap (zBj fg pl b sn z m pt true)=Bs at *
 walk_at "rd"
 refine zWB e12 e2 (small (by rw [length_map,length_map];omega)) fun l3 H3 g3 e3=>?_
 rw [<- map_append] at e3
 have F3:=F2.same g3
 walk_at "rd"
 refine zSQ (SqL.of e3) (by rw [length_append];omega) fun ms l4 H4 pm ps g4 e4=>?_
 have F4:=F3.same g4
 have lm:ms.length<=42:=by rw [pm.length_eq,length_append];omega
 refine zBM (SqL.of e4) (small (by rw [length_map];omega)) (fun i ys H'=>Same H4 H'/\Al (RT H' (b ^ pl.toNat)) ys (ms.take i)) ⟨Same.refl _,.nil⟩ (fun i ys H' hi h=>⟨SqL.of (h.1.at e4),by rw [h.2.len,length_take];omega⟩) ?_ ?_
 ·rintro i v ys H5 hv hi ⟨g5,al⟩
  obtain ⟨k,hk,rfl⟩ : ∃ k,ms[i]? = some k/\v = .int k:=by
   rw [getElem?_map] at hv
   cases hc:ms[i]? with
   | none=>rw [hc] at hv;cases hv
   | some c=>rw [hc] at hv;cases hv;exact ⟨c,rfl,rfl⟩
  have F5:=F4.same g5
  walk_at "rd"
  rename_i p6 H6 g6 e6
  refine nxC hi ⟨g5.trans g6,?_⟩
  rw [take_succ,hk]
  exact (al.imp fun _ _ h=>h.same g6).app (.one ⟨p6,rfl,e6⟩)
 ·rintro ys H5 ⟨g5,al⟩ p6 H6 g6 n6 e6
  rw [take_of_length_le (by rw [length_map];exact Nat.le_refl _)] at al
  refine q _ _ _ ms (by walk_at "sm") e6 ?_ ps (al.imp fun _ _ h=>h.same g6)
  unfold nks
  rw [hA,hB]
  exact pm
theorem zW8 (e:X.K=K):OpR X (compareOp .In) (rIn K false):=e ▸ zRR
def cvs (ns:List (List Nat)) (t:List Nat) (wd:Int) (f:Nat) (x:Str) (st:Bool):List (List Nat):=ns.filter fun n=>decide (n ∈ ucs t wd f x st)
def zBH (K:W.Frag) (C:Addr):Sp:=fun vs H Q _=>∃ (a L:Addr) (ns:List (List Nat)) (wd:Int) (f:Nat) (x:Str) (st:Bool) (t:List Nat),vs=[.ref a,.str (T t)]/\zAT K H a C wd f x st (zLH L)/\H L=some (.lst (tsV ns))/\ns.length<=40/\Side x/\0<=wd/\wd<=40/\t.length<=400 /\ ∀ l H',Same H H'->H' l=some (.lst (tsV (cvs ns t wd f x st)))->Q (.ref l) H'
theorem zFK (F:FunD K "values_for" "ChoiceForm.values_for" zAr fq fd) (B:Blt mg) (zAQ:Cls K zAC) (zGX:HasM P w K mg base CX0 zAC "unfilled" 4 ["self", "text"] (zCK K zAB zAD zAC)):FnOk P w K mg base CX0 5 fq fd ["self", "text"] (zBH K zAC):=by
 refine F.ok zC5 (fun vs H Q E h=>?_) (fun cdv A outer s H vs Q E hr h=>?_)
 ·obtain ⟨a,L,ns,wd,f,x,st,t,rfl,F0,e0,nl,hs,w0,w1,ht,q⟩:=h
  rfl
 obtain ⟨a,L,ns,wd,f,x,st,t,rfl,F0,e0,nl,hs,w0,w1,ht,q⟩:=h
 refine ⟨_,zAF (zAN (i:=2) zC5.nd rfl (Or.inr rfl) (zAV zGX zAQ zBV hr (pv 0) (zAA (pv 1) (zAE))))
  (zAJ (zAO (zDF (cl:=[("cores", s.heap.objs.size+1+0)]) (fr:=["cores"]) (is:=[2]) rfl rfl ⟨rfl,trivial⟩ rfl ⟨⟨rfl,rfl,Or.inl rfl⟩,trivial⟩ (by decide) (by decide +kernel) rfl (by decide +kernel) rfl (zCg (zAg (pv 0) rfl)) (fun _ _ _ _=>zEk (zAW (zW8 (K:=K) rfl) (pv 0) (pv 1) (by with_unfolding_all rfl))) (fun _ _ _ _=>pv 0)))),?_⟩
 walk_at "st"
 walk_at "rd"
 refine zIp (.cho F0) hs ht w0 w1 fun l1 H1 g1 e1=>?_
 have F1:=F0.same g1
 have e01:=g1.at e0
 walk_at "rd"
 refine zBM (SqL.of e01) (small (by rw [zA9];omega)) (fun i ys H'=>Same H1 H'/\ys=tsV ((ns.take i).filter fun n=>decide (n ∈ ucs t wd f x st))) ⟨Same.refl _,rfl⟩ (fun i ys H' hi h=>⟨SqL.of (h.1.at e01),by rw [h.2,zA9];exact le_trans (length_filter_le _ _) (by rw [length_take];omega)⟩) ?_ ?_
 ·rintro i v ys H2 hv hi ⟨g2,rfl⟩
  obtain ⟨c,hc,rfl⟩:=zFg hv
  have e12:=g2.at e1
  walk_at "rd"
  ·rename_i hk
   refine nxC hi ⟨g2,?_⟩
   rw [fil1 hc,filter_cons_of_pos (p:=fun n=>decide (n ∈ ucs t wd f x st)) (decide_eq_true hk),<- zEx];rfl
  ·rename_i hk
   refine nxC hi ⟨g2,?_⟩
   rw [fil1 hc,filter_cons_of_neg (p:=fun n=>decide (n ∈ ucs t wd f x st)) (by simpa using hk),filter_nil,append_nil]
 ·rintro ys H2 ⟨g2,rfl⟩ p2 H3 g3 n3 e3
  rw [take_of_length_le (by rw [zA9];exact Nat.le_refl _)] at e3
  exact q _ _ (g1.trans (g2.trans g3)) e3
def wvs (sg:List Nat) (lo hi:Int) (t:List Nat) (wd:Int) (f:Nat) (x:Str) (st:Bool):List (List Nat):=(ucs t wd f x st).filter fun c=>decide (Isw sg lo hi c)
def zBQ (K:W.Frag) (C:Addr):Sp:=fun vs H Q _=>∃ (a:Addr) (sg:List Nat) (lo hi:Int) (wd:Int) (f:Nat) (x:Str) (st:Bool) (t:List Nat),vs=[.ref a,.str (T t)]/\zAT K H a C wd f x st (zGh sg lo hi)/\Side x/\0<=wd/\wd<=40/\t.length<=400 /\ ∀ l H' ds,Same H H'->H' l=some (.lst (tsV ds))->ds.Perm (wvs sg lo hi t wd f x st)->Q (.ref l) H'
theorem zGG (F:FunD K "values_for" "WordForm.values_for" zA5 fq fd) (B:Blt mg) (zAS:Cls K zAD) (zHj:HasM P w K mg base CX0 zAD "unfilled" 4 ["self", "text"] (zCK K zAB zAD zAC)) (zDJ:HasM P w K mg base CX0 zAD "is_word" 1 ["self", "thing"] (zCB K zAD)):FnOk P w K mg base CX0 5 fq fd ["self", "text"] (zBQ K zAD):=by
 refine F.ok zGE (fun vs H Q E h=>?_) (fun cdv A outer s H vs Q E hr h=>?_)
 ·obtain ⟨a,sg,lo,hi,wd,f,x,st,t,rfl,F0,hs,w0,w1,ht,q⟩:=h
  rfl
 obtain ⟨a,sg,lo,hi,wd,f,x,st,t,rfl,F0,hs,w0,w1,ht,q⟩:=h
 refine ⟨_,zAJ (zAO (zAL zLz B.vAM rfl zMB (zAA (zDF (cl:=[("self", s.heap.objs.size+1+0)]) (fr:=["self"]) (is:=[0]) rfl rfl ⟨rfl,trivial⟩ rfl ⟨⟨rfl,rfl,Or.inl rfl⟩,trivial⟩ (by decide) (by decide +kernel) rfl (by decide +kernel) rfl (zCg (zAV zHj zAS zBV hr (pv 0) (zAA (pv 1) (zAE)))) (fun _ _ _ _=>zEk (zBt (zAV zDJ zAS zBV hr (pv 1) (zAA (pv 0) (zAE))))) (fun _ _ _ _=>pv 0)) (zAE)))),?_⟩
 walk_at "st"
 obtain ⟨ul,ub⟩:=zNw (t:=t) (f:=f) (x:=x) (st:=st) w1
 walk_at "rd"
 refine zIp (.word F0) hs ht w0 w1 fun l1 H1 g1 e1=>?_
 have F1:=F0.same g1
 refine zBM (SqL.of e1) (small (by rw [zA9];omega)) (fun i ys H'=>Same H1 H'/\ys=tsV (((ucs t wd f x st).take i).filter fun c=>decide (Isw sg lo hi c))) ⟨Same.refl _,rfl⟩ (fun i ys H' hi h=>⟨SqL.of (h.1.at e1),by rw [h.2,zA9];exact le_trans (length_filter_le _ _) (by rw [length_take];omega)⟩) ?_ ?_
 ·rintro i v ys H2 hv hi' ⟨g2,rfl⟩
  obtain ⟨c,hc,rfl⟩:=zFg hv
  have F2:=F1.same g2
  have cb:=(ub c (mem_of_getElem? hc)).1
  walk_at "rd"
  ·rename_i H3 g3 hk
   refine nxC hi' ⟨g2.trans g3,?_⟩
   rw [fil1 hc,filter_cons_of_pos (p:=fun c=>decide (Isw sg lo hi c)) (by simpa using hk),<- zEx];rfl
  ·rename_i H3 g3 hk
   refine nxC hi' ⟨g2.trans g3,?_⟩
   rw [fil1 hc,filter_cons_of_neg (p:=fun c=>decide (Isw sg lo hi c)) (by simpa using hk),filter_nil,append_nil]
 ·rintro ys H2 ⟨g2,rfl⟩ p2 H3 g3 n3 e3
  rw [take_of_length_le (by rw [zA9];exact Nat.le_refl _)] at e3
  walk_at "rd"
  refine zPg e3 (Nat.lt_of_le_of_lt (length_filter_le _ _) (by omega)) fun ds l4 H4 pm g4 e4=>?_
  exact q _ _ _ (g1.trans (g2.trans (g3.trans g4))) e4 pm
def RP (H:Hp) (P:Addr->Prop) (v:V) (x:Ce × Ce):Prop:=∃ t a b,v = .ref t/\(P t/\P a/\P b)/\H t=some (.tup [.ref a,.ref b])/\H a=some (.lst (tsV x.1))/\H b=some (.lst (tsV x.2))
def Tr:Addr->Prop:=fun _=>True
variable {cs:Ce}
theorem RL.same {P:Addr->Prop} (g:Same H H') (h:RL H P v cs):RL H' P v cs:=let ⟨q,e,p,k⟩:=h;⟨q,e,p,g.at k⟩
theorem RL.wk {P P':Addr->Prop} (f : ∀ a,P a->P' a) (h:RL H P v cs):RL H P' v cs:=let ⟨q,e,p,k⟩:=h;⟨q,e,f _ p,k⟩
theorem RP.same {P:Addr->Prop} {x:Ce × Ce} (g:Same H H') (h:RP H P v x):RP H' P v x:=let ⟨t,a,b,e,p,k,k1,k2⟩:=h;⟨t,a,b,e,p,g.at k,g.at k1,g.at k2⟩
theorem RP.wk {P P':Addr->Prop} {x:Ce × Ce} (f : ∀ a,P a->P' a) (h:RP H P v x):RP H P' v x:=let ⟨t,a,b,e,p,k,k1,k2⟩:=h;⟨t,a,b,e,⟨f _ p.1,f _ p.2.1,f _ p.2.2⟩,k,k1,k2⟩
theorem RL.put {P:Addr->Prop} (n : ∀ a,P a->a≠l) (h:RL H P v cs):RL (upd H l o) P v cs:=let ⟨q,e,p,k⟩:=h;⟨q,e,p,by rw [zBY (n _ p)];exact k⟩
theorem RP.put {P:Addr->Prop} {x:Ce × Ce} (n : ∀ a,P a->a≠l) (h:RP H P v x):RP (upd H l o) P v x:=let ⟨t,a,b,e,p,k,k1,k2⟩:=h;⟨t,a,b,e,p,by rw [zBY (n _ p.1)];exact k,by rw [zBY (n _ p.2.1)];exact k1,by rw [zBY (n _ p.2.2)];exact k2⟩
theorem zTo (n:Nat) (c:List Nat):(List.replicate n [V.str (T c)]).flatten=tsV (List.replicate n c):=by
 induction n with
 | zero=>rfl
 | succ n ih=>rw [List.replicate_succ,flatten_cons,ih];rfl
theorem zRy (l:Ce) (n:Nat):(tsV l).take n=tsV (l.take n):=by unfold tsV;rw [List.map_take]
theorem zRd (l:Ce) (n:Nat):(tsV l).drop n=tsV (l.drop n):=by unfold tsV;rw [List.map_drop]
section
variable {K : W.Frag} {H : Hp} {Q : VK}
theorem zUW {c:List Nat} (q : ∀ p H',Same H H'->H p=none->H' p=some (.lst (tsV [c]))->Q (.ref p) H'):kLst Q [.str (T c)] H:=zIa (small (by simp only [length_cons,length_nil];decide)) fun p H1 g n e=>q p H1 g n e
theorem zUm (q : ∀ p H',Same H H'->H p=none->H' p=some (.lst (tsV []))->Q (.ref p) H'):kLst Q [] H:=zIa (small (by simp only [length_cons,length_nil];decide)) fun p H1 g n e=>q p H1 g n e
variable {xs:Ce}
theorem zS8 {b:Addr} {zs:Ce} (h1:H l=some (.lst (tsV xs))) (h2:H b=some (.lst (tsV zs))) (hz:xs.length+zs.length<=900) (q : ∀ p H',Same H H'->H p=none->H' p=some (.lst (tsV (xs++zs)))->Q (.ref p) H'):rCat (.ref l) (.ref b) H Q:=
 ⟨l,b,_,_,rfl,rfl,h1,h2,Nat.le_of_lt (zBm (by rw [zA9,zA9];omega)),fun p hp=>q p _ (zBi (Same.refl _) hp) hp (by rw [zAU];unfold tsV;rw [map_append])⟩
theorem zXD {c:List Nat} (h1:H l=some (.lst (tsV [c]))) (h0 : -1000<=k) (hk:k<=900) (q : ∀ p H',Same H H'->H p=none->H' p=some (.lst (tsV (List.replicate k.toNat c)))->Q (.ref p) H'):rRep (.ref l) (.int k) H Q:=
 ⟨l,k,_,rfl,rfl,h1,by omega,by omega,Nat.le_of_lt (zBm (by rw [zA9,length_singleton];omega)),fun p hp=>q p _ (zBi (Same.refl _) hp) hp (by rw [zAU,<- zTo];rfl)⟩
theorem zTp {a:Addr} {ys:Ce} {lo hi:Option Int} (h:H a=some (.lst (tsV xs))) (e:(xs.drop (HT.sIx xs.length 0 lo)).take (HT.sIx xs.length xs.length hi - HT.sIx xs.length 0 lo)=ys) (q : ∀ p H',Same H H'->H p=none->H' p=some (.lst (tsV ys))->Q (.ref p) H'):rSlL K (.ref a) lo hi H Q:=
 ⟨a,_,rfl,SqL.of h,fun p hp=>q p _ (zBi (Same.refl _) hp) hp (by rw [zAU,<- e];unfold cutV;rw [zA9,zRd,zRy])⟩
theorem zJW {d:Nat} {v:Int} (h:0<=v):HT.sIx n d (some v)=min v.toNat n:=by
 show (if v < 0 then (v+(n:Int)).toNat else min v.toNat n)=_
 rw [if_neg (by omega)]
theorem zXp {a:Addr} {j:Int} (h:H a=some (.lst (tsV xs))) (h0:0<=i) (h1:0<=j) (q : ∀ p H',Same H H'->H p=none->H' p=some (.lst (tsV ((xs.take j.toNat).drop i.toNat)))->Q (.ref p) H'):rSlL K (.ref a) (some i) (some j) H Q:=by
 refine zTp h ?_ q
 rw [zJW h0,zJW h1,List.drop_take]
 rcases le_total i.toNat xs.length with z | z
 ·rw [min_eq_left z]
  rcases le_total j.toNat xs.length with y | y
  ·rw [min_eq_left y]
  ·rw [min_eq_right y,take_of_length_le (by rw [length_drop];exact Nat.le_refl _),take_of_length_le (by rw [length_drop];omega)]
 ·rw [min_eq_right z,List.drop_of_length_le (Nat.le_refl _),List.drop_of_length_le z,take_nil,take_nil]
theorem zWI {a:Addr} {j:Int} (h:H a=some (.lst (tsV xs))) (h1:0<=j) (q : ∀ p H',Same H H'->H p=none->H' p=some (.lst (tsV (xs.take j.toNat)))->Q (.ref p) H'):rSlL K (.ref a) none (some j) H Q:=by
 refine zTp h ?_ q
 rw [HT.sIx_none,zJW h1,List.drop_zero,sub_zero]
 rcases le_total j.toNat xs.length with y | y
 ·rw [min_eq_left y]
 ·rw [min_eq_right y,take_length,take_of_length_le y]
theorem zRk {a:Addr} (h:H a=some (.lst (tsV xs))) (h0:0<=i) (q : ∀ p H',Same H H'->H p=none->H' p=some (.lst (tsV (xs.drop i.toNat)))->Q (.ref p) H'):rSlL K (.ref a) (some i) none H Q:=by
 refine zTp h ?_ q
 rw [HT.sIx_none,zJW h0]
 rcases le_total i.toNat xs.length with z | z
 ·rw [min_eq_left z,take_of_length_le (by rw [length_drop];exact Nat.le_refl _)]
 ·rw [min_eq_right z,List.drop_of_length_le (Nat.le_refl _),List.drop_of_length_le z,take_nil]
theorem zWN {ys:Ce} (h:H p=some (.lst (tsV ys))) (q:Q (.int ys.length) H):zSR K [.ref p] H Q:=zS1 (SqL.of h) (by rw [zA9];exact q)
end
local macro_rules | `(tactic| walk_at "rd1")=>`(tactic| first | (with_reducible refine zR8 ?_) | fail "none")
local macro_rules | `(tactic| walk_at "rd1")=>`(tactic| first | ((with_reducible refine' zWN ?h ?_);(case h=>walk_at "hp")) | fail "none")
local macro_rules | `(tactic| walk_at "rd1")=>`(tactic| first | ((with_reducible refine' zIa ?hz ?_);(case hz=>exact small (by simp only [length_cons,length_nil];decide));intro p' H' g' n' e') | fail "none")
local macro_rules | `(tactic| walk_at "rd1")=>`(tactic| first | ((with_reducible refine zUm ?_);intro p' H' g' n' e') | fail "none")
local macro_rules | `(tactic| walk_at "rd1")=>`(tactic| first | ((with_reducible refine zUW ?_);intro p' H' g' n' e') | fail "none")
local macro_rules | `(tactic| walk_at "rd1")=>`(tactic| first | ((with_reducible refine' zS8 ?h1 ?h2 ?hz ?_);(case h1=>walk_at "hp");(case h2=>walk_at "hp");(case hz=>walk_at "tl");intro p' H' g' n' e') | fail "none")
local macro_rules | `(tactic| walk_at "rd1")=>`(tactic| first | ((with_reducible refine' zXD ?h1 ?h0 ?hk ?_);(case h1=>walk_at "hp");(case h0=>omega);(case hk=>omega);intro p' H' g' n' e') | fail "none")
local macro_rules | `(tactic| walk_at "rd1")=>`(tactic| first | ((with_reducible refine' zXp ?h ?h0 ?h1 ?_);(case h=>walk_at "hp");(case h0=>omega);(case h1=>omega);intro p' H' g' n' e') | ((with_reducible refine' zWI ?h ?h1 ?_);(case h=>walk_at "hp");(case h1=>omega);intro p' H' g' n' e') | ((with_reducible refine' zRk ?h ?h0 ?_);(case h=>walk_at "hp");(case h0=>omega);intro p' H' g' n' e'))
local macro_rules | `(tactic| walk_at "rd1")=>`(tactic| first | ((with_reducible refine' zVR ?hz ?_);(case hz=>omega);intro p' H' g' n' e') | fail "none")
variable {vs:List V}
theorem zRX {α:Type} {R:Hp->V->α->Prop} {H0 H1:Hp} {as:List α} {a:α} (st : ∀ H o v a,R H v a->R (upd H l o) v a) (n:H0 l=none) (g:Same H0 H1) (e:H1 l=some (.lst vs)) (al:Al (R H1) vs as) (hv:R H1 v a) (hz:as.length<=900)
  (q : ∀ H2 us,Same H0 H2->H2 l=some (.lst us)->Al (R H2) us (as++[a])->Q .non H2):zLn (.ref l) [v] H1 Q:=
 zJX e (zBm (by rw [al.len];omega)) (q _ _ (zBi g n) zAU ((al.app (.one hv)).imp fun v a h=>st _ _ v a h))
theorem zTf : ∀ (H:Hp) (o:HO) (v:V) (cs:Ce),RL H (· ≠ l) v cs->RL (upd H l o) (· ≠ l) v cs:=fun _ _ _ _ h=>h.put fun _ z=>z
local macro_rules | `(tactic| walk_at "tl")=>`(tactic| (simp only [length_map,length_append,length_replicate,length_cons,length_nil,length_take,length_drop];omega))
local macro_rules | `(tactic| walk_at "fm")=>`(tactic| first | assumption | (refine' zAT.same ?s (by assumption);(case s=>walk_at "sm")))
inductive Fd where
 | num (fg pl b:Int) (sn:Str) (z:Int) (m pt:Nat) (wy:Str)
 | word (sg:List Nat) (lo hi:Int)
 | cho (ns:Ce)
structure WdS (sg:List Nat) (lo hi wd:Int) (f:Nat) (x:Str):Prop where
 s1:1<=sg.length
 s2:sg.length<=200
 lo1:0<=lo
 lo2:lo<=hi
 hi2:hi<=24
 wd1:0<=wd
 wd2:wd<=40
 x:Side x
 sa:Asc sg
 f:f < 127
structure ChS (ns:Ce) (wd:Int) (f:Nat) (x:Str):Prop where
 n1:1<=ns.length
 n2:ns.length<=12
 len : ∀ t ∈ ns,t.length<=13
 wd1:0<=wd
 wd2:wd<=40
 x:Side x
 ta : ∀ t ∈ ns,Asc t
 nd:ns.Nodup
 f:f < 127
inductive FdAt (K:W.Frag) (H:Hp) (o cN cW cC:Addr) (wd:Int) (f:Nat) (x:Str) (st:Bool):Fd->Prop
 | num {fg pl b:Int} {sn:Str} {z:Int} {m pt:Nat} {wy:Str} (F:zAT K H o cN wd f x st (zB9 fg pl b sn z m pt wy)) (ok:NumS fg pl b sn z m pt wy wd f x):FdAt K H o cN cW cC wd f x st (.num fg pl b sn z m pt wy)
 | word {sg:List Nat} {lo hi:Int} (F:zAT K H o cW wd f x st (zGh sg lo hi)) (ok:WdS sg lo hi wd f x):FdAt K H o cN cW cC wd f x st (.word sg lo hi)
 | cho {L:Addr} {ns:Ce} (F:zAT K H o cC wd f x st (zLH L)) (e:H L=some (.lst (tsV ns))) (ok:ChS ns wd f x):FdAt K H o cN cW cC wd f x st (.cho ns)
variable {d:Fd}
theorem FdAt.same {o:Addr} (g:Same H H') (h:FdAt K H o cN cW cC wd f x st d):FdAt K H' o cN cW cC wd f x st d:=by
 cases h with
 | num F ok=>exact .num (F.same g) ok
 | word F ok=>exact .word (F.same g) ok
 | cho F e ok=>exact .cho (F.same g) (g.at e) ok
theorem FdAt.bd {o:Addr} (h:FdAt K H o cN cW cC wd f x st d) : ∃ C more,zAT K H o C wd f x st more/\zJv x/\0<=wd/\wd<=40:=by
 cases h with
 | num F ok=>exact ⟨_,_,F,ok.x,ok.wd1,ok.wd2⟩
 | word F ok=>exact ⟨_,_,F,.inl ok.x,ok.wd1,ok.wd2⟩
 | cho F e ok=>exact ⟨_,_,F,.inl ok.x,ok.wd1,ok.wd2⟩
theorem zLV (F:Fun K "parts_of" "parts_of" zEC fq fd) (B:Blt mg):FnOk P w K mg base CX0 1 fq fd ["text", "size", "between"] (zIG K):=by
 refine F.ok zCU (fun vs H Q E h=>?_) (fun cdv A outer s H vs Q E hr h=>?_)
 ·obtain ⟨p,a,z,rfl,hp,h1,h2,h5,q⟩:=h
  rfl
 obtain ⟨p,a,z,rfl,hp,h1,h2,h5,q⟩:=h
 refine ⟨_,zAF (zAN (i:=3) zCU.nd rfl (Or.inl rfl) (zA1 (zAE)))
  (zAF (zAN (i:=4) zCU.nd rfl (Or.inl rfl) (zAL zBR B.vAA rfl zBF (zAA (pv 0) (zAE))))
  (zAF (zJN PassesOwn.never (zAW zIf (pv 4) (zAG) (zAZ _)) (zAF (zCy (zGL PySem.F.plainAttrs_list PySem.F.slot_list_append PySem.F.type_list_append zDn (pv 3) (zAA (zAw zHi (pv 0) (zAx (zAL (zG1 rfl) B.vAE rfl zOJ (zAA (zAG) (zAA (zAR zCm (pv 4) (pv 1)) (zAE))))) (zAx (pv 4))) (zAE))))
  (zAJ (zAN (i:=4) zCU.nd rfl (Or.inl rfl) (zAR zCm (zAR zCm (pv 4) (pv 1)) (pv 2))))))
  (zAF (zCy (zSk PySem.F.plainAttrs_list PySem.F.slot_list_reverse PySem.F.type_list_reverse zKx (pv 3)))
  (zAJ (zAO (pv 3)))))),?_⟩
 walk_at "st"
 refine zUa (zUg (zVT (zUV (zIa (by decide) fun l H1 g1 n1 e1=>?_))))
 walk_at "rd"
 refine zLB (fun k σ H'=>∃ (e:Int) (qs:List V) (pss:List Ce),σ=[some (.ref p),some (.int z),some (.int 0),some (.ref l),some (.int e)]/\Same H H'/\H' l=some (.lst qs)/\Al (RL H' (fun q=>q≠l/\H q=none)) qs pss/\k=e.toNat/\pss.length+e.toNat<=a.length/\e<=a.length/\pcA a z.toNat a.length=pcA a z.toNat e.toNat++pss.reverse) ⟨_,a.length,[],[],rfl,g1,e1,.nil,rfl,by simp,Int.le_refl _,by simp⟩ ?_
 rintro k σ H2 ⟨e,qs,pss,rfl,g2,e2,al,rfl,b1,b2,ep⟩
 have hp2:=g2.at hp
 walk_at "rd"
 ·rename_i hc k' hk' p3 H3 g3 n3 e3
  refine zRX (R:=fun H'=>RL H' (fun q=>q≠l/\H q=none)) (fun _ _ _ _ h=>h.put fun _ z=>z.1) n1 (g2.trans g3) (g3.at e2) (al.imp fun _ _ h=>h.same g3) ⟨p3,rfl,⟨zM2 n3 e2,none_of g2 n3⟩,e3⟩ (by omega) fun H4 us g4 e4 al4=>?_
  walk_at "rd"
  refine ⟨(e - z - 0).toNat,by omega,e - z - 0,us,_,rfl,g4,e4,al4,rfl,by rw [length_append,length_singleton];omega,by omega,?_⟩
  rw [ep,zIg (by omega) (by omega),List.reverse_append,show (e - z - 0).toNat=e.toNat - z.toNat by omega,show k'.toNat=e.toNat - z.toNat by omega]
  simp
 ·rename_i hc
  refine zMA e2 ?_
  walk_at "rd"
  refine q _ _ _ (zBi g2 n1) n1 zAU ?_
  rw [ep,show e.toNat=0 by omega,zDe,nil_append]
  exact (al.rev).imp fun v a h=>(h.put fun _ z=>z.1).wk fun _ z=>z.2
theorem zM9 {a:Ce} {z:Int} (h0:H p=some (.lst (tsV a))) (h1:0 < z) (h2:z<=9) (h5:a.length<=400) (q : ∀ l H' qs,Same H H'->H l=none->H' l=some (.lst qs)->Al (RL H' (fun q=>H q=none)) qs (pcA a z.toNat a.length)->Q (.ref l) H'):zC1 K ([.ref p,.int z,.int 0]++[]) H Q E:=.inr ⟨p,a,z,rfl,h0,h1,h2,h5,q⟩
local macro_rules | `(tactic| walk_at "rdc")=>`(tactic| first | ((with_reducible refine' zM9 ?h0 ?h1 ?h2 ?h5 ?_);(case h0=>walk_at "hp");(case h1=>omega);(case h2=>omega);(case h5=>omega);intro l' H' qs' g' n' e' al') | fail "none")
theorem zSq {α:Type} {a:List α} (hz:0 < z) : ∀ (n e:Nat),e<=n->e<=a.length->(pcA a z e).length<=e/\(pcA a z e).flatten.length=e:=by
 intro n
 induction n with
 | zero=>intro e h _;rw [show e=0 by omega,zDe];exact ⟨by simp,rfl⟩
 | succ n ih =>
  intro e h h2
  by_cases he:e=0
  ·rw [he,zDe];exact ⟨by simp,rfl⟩
  ·rw [zIg he (by omega)]
   have:=ih (e - z) (by omega) (by omega)
   simp only [length_append,length_singleton,List.flatten_append,flatten_cons,List.flatten_nil,length_nil,length_drop,length_take,min_eq_left h2]
   omega
theorem zWM {α:Type} {l:List (List α)} {x:List α} (h:x ∈ l):x.length<=l.flatten.length:=by
 induction l with
 | nil=>cases h
 | cons y l ih =>
  rw [flatten_cons,length_append]
  rcases List.mem_cons.mp h with rfl | h
  ·omega
  ·have:=ih h;omega
theorem zTv {α:Type} (l:List (List α)) : ∀ i,(l.take i).flatten.length<=l.flatten.length:=by
 induction l with
 | nil=>intro i;rw [take_nil];exact Nat.le_refl _
 | cons y l ih =>
  intro i
  cases i with
  | zero=>exact Nat.zero_le _
  | succ i=>rw [List.take_succ_cons,flatten_cons,flatten_cons,length_append,length_append];have:=ih i;omega
theorem zXC {α:Type} (m:α) (l:List (List α)):((l.map fun p=>m::p).flatten).length=l.flatten.length+l.length:=by
 induction l with
 | nil=>rfl
 | cons y l ih=>rw [map_cons,flatten_cons,length_append,ih,length_cons,flatten_cons,length_append,length_cons];omega
theorem zXU {α:Type} (m:α) (l:List (List α)) (i:Nat):(((l.take i).map fun p=>m::p).flatten).length<=l.flatten.length+l.length:=by
 rw [zXC]
 have:=zTv l i
 have:(l.take i).length<=l.length:=by rw [length_take];omega
 omega
def gcs (z:Nat) (m:List Nat) (a:Ce):Ce:=if z=0 then a else (((pcA a z a.length).map fun p=>m::p).flatten).drop 1
def zCp (K:W.Frag):Sp:=fun vs H Q _=>∃ (p:Addr) (a:Ce) (z:Int) (m:Nat),vs=[.ref p,.int z,.str (T [m])]/\H p=some (.lst (tsV a))/\0<=z/\z<=9/\a.length<=100 /\ ∀ l H',Same H H'->H' l=some (.lst (tsV (gcs z.toNat [m] a)))->Q (.ref l) H'
theorem zJw {a:Ce} {z:Int} (h0:H p=some (.lst (tsV a))) (h1:0<=z) (h2:z<=9) (h5:a.length<=100) (q : ∀ l H',Same H H'->H' l=some (.lst (tsV (gcs z.toNat [m] a)))->Q (.ref l) H'):zCp K ([.ref p,.int z,.str (T [m])]++[]) H Q E:=⟨p,a,z,m,rfl,h0,h1,h2,h5,q⟩
theorem zJF (F:Fun K "grouped_cells" "grouped_cells" zDI fq fd) (B:Blt mg) (zFH:Has P w K mg base "parts_of" 1 ["text", "size", "between"] (zC1 K)):FnOk P w K mg base CX0 2 fq fd ["row", "size", "mark"] (zCp K):=by
 refine F.ok zDs (fun vs H Q E h=>?_) (fun cdv A outer s H vs Q E hr h=>?_)
 ·obtain ⟨p,a,z,m,rfl,hp,h1,h2,h5,q⟩:=h
  rfl
 obtain ⟨p,a,z,m,rfl,hp,h1,h2,h5,q⟩:=h
 refine ⟨_,zAF (zBN (zAW zCl (pv 1) (zAG) (zAZ _)) (zAJ (zAO (pv 0))) (zAY))
  (zAF (zAN (i:=3) zDs.nd rfl (Or.inl rfl) (zA1 (zAE)))
  (zAF (zGC PassesOwn.never rfl (zCg (zAI zFH hr rfl (zAA (pv 0) (zAA (pv 1) (zAA (zAG) (zAE)))))) (zAz (i:=4) zDs.nd rfl (Or.inl rfl)) (zAJ (zCy (zGL PySem.F.plainAttrs_list PySem.F.slot_list_extend PySem.F.type_list_extend zPx (pv 3) (zAA (zAR zDP (zA1 (zAA (pv 2) (zAE))) (pv 4)) (zAE))))))
  (zAJ (zAO (zAw zHi (pv 3) (zAx (zAG)) (zBe)))))),?_⟩
 walk_at "st"
 walk_at "rd"
 ·rename_i hc
  subst hc
  exact q _ _ (Same.refl _) (by rw [show gcs (Int.toNat 0) [m] a=a from if_pos rfl];exact hp)
 ·rename_i hc p1 H1 g1 n1 e1 l2 H2 qs g2 n2 e2 al
  have bd:=zSq (a:=a) (z:=z.toNat) (by omega) a.length a.length (Nat.le_refl _) (Nat.le_refl _)
  have ln:=al.len
  refine zT1 (SqL.of e2) (fun i σ H'=>SB p1 H2 H'/\(∃ r:Option V,σ=[some (.ref p),some (.int z),some (.str (T [m])),some (.ref p1),r])/\H' p1=some (.lst (tsV (((pcA a z.toNat a.length).take i).map fun p=>[m]::p).flatten))) ⟨SB.refl,⟨none,rfl⟩,g2.at e1⟩ (fun i σ H' _ zz=>SqL.of (zz.1 _ _ (zM2 n2 e1) e2)) ?_ ?_
  ·rintro i x σ H3 hx ⟨sb,⟨r,rfl⟩,e3⟩
   obtain ⟨cs,hcs,q3,rfl,nq,eq⟩:=al.get hx
   have eq3:=sb _ _ (zM2 nq e1) eq
   have lc:cs.length<=100:=by
    have:=zWM (mem_of_getElem? hcs)
    omega
   walk_at "rd"
   rename_i p4 H4 g4 n4 e4 p5 H5 g5 n5 e5
   have fb:=zXU [m] (pcA a z.toNat a.length) i
   refine ⟨p1,p5,_,_,rfl,rfl,g5.at (g4.at e3),e5,small (by rw [zA9,zA9,length_append,length_singleton];omega),?_⟩
   refine ⟨((sb.then g4).then g5).put,⟨_,rfl⟩,?_⟩
   rw [zAU,take_succ,hcs,zEx,map_append,List.flatten_append]
   simp
  ·rintro σ H3 ⟨sb,⟨r,rfl⟩,e3⟩
   walk_at "rd"
   rename_i p4 H4 g4 n4 e4
   refine q _ _ (SB.same (((SB.of (g1.trans g2)).trans sb).then g4) n1) ?_
   rw [e4,ln,take_length,show gcs z.toNat [m] a=_ from if_neg (by omega)]
   rfl
def chs (l:List Nat):Ce:=l.map fun c=>[c]
theorem zPw {m:List Nat} {a:Ce}:(gcs z m a).length<=2*a.length:=by
 unfold gcs
 split
 ·omega
 ·have bd:=zSq (a:=a) (z:=z) (by omega) a.length a.length (Nat.le_refl _) (Nat.le_refl _)
  rw [length_drop,zXC];omega
def bcs (pl z:Int) (m pt:Nat) (row:Ce):Ce:=if pl=0 then gcs z.toNat [m] (row.take ((row.length:Int) - pl).toNat) else gcs z.toNat [m] (row.take ((row.length:Int) - pl).toNat)++[[pt]]++row.drop ((row.length:Int) - pl).toNat
variable {row:Ce}
theorem zQc {z:Int} {pt:Nat}:(bcs pl z m pt row).length<=3*row.length+1:=by
 have h:=zPw (z:=z.toNat) (m:=[m]) (a:=row.take ((row.length:Int) - pl).toNat)
 rw [length_take] at h
 unfold bcs
 split
 ·omega
 ·rw [length_append,length_append,length_singleton,length_drop];omega
local macro_rules | `(tactic| walk_at "rdc")=>`(tactic| first | ((with_reducible refine' zJw ?h0 ?h1 ?h2 ?h5 ?_);(case h0=>walk_at "hp");(case h1=>omega);(case h2=>omega);(case h5=>walk_at "tl");intro l' H' g' e') | fail "none")
def zD3 (K:W.Frag):Sp:=fun vs H Q _=>∃ (o C r:Addr) (fg pl b:Int) (sn:Str) (z:Int) (m pt:Nat) (wy:Str) (wd:Int) (f:Nat) (x:Str) (st:Bool) (row:Ce),vs=[.ref o,.ref r]/\zAT K H o C wd f x st (zB9 fg pl b sn z m pt wy)/\NumS fg pl b sn z m pt wy wd f x/\H r=some (.lst (tsV row))/\pl<=row.length/\row.length<=40 /\ ∀ l H',Same H H'->H' l=some (.lst (tsV (bcs pl z m pt row)))->Q (.ref l) H'
theorem zMi {o r:Addr} {z:Int} {pt:Nat} (h1:zAT K H o C wd f x st (zB9 fg pl b sn z m pt wy)) (h2:NumS fg pl b sn z m pt wy wd f x) (h3:H r=some (.lst (tsV row))) (h4:pl<=row.length) (h5:row.length<=40) (q : ∀ l H',Same H H'->H' l=some (.lst (tsV (bcs pl z m pt row)))->Q (.ref l) H'):zD3 K ([.ref o,.ref r]++[]) H Q E:=⟨o,C,r,fg,pl,b,sn,z,m,pt,wy,wd,f,x,st,row,rfl,h1,h2,h3,h4,h5,q⟩
theorem zLa (F:Fun K "body_cells" "body_cells" zEu fq fd) (B:Blt mg) (zJ3:Has P w K mg base "grouped_cells" 2 ["row", "size", "mark"] (zCp K)):FnOk P w K mg base CX0 3 fq fd ["form", "row"] (zD3 K):=by
 refine F.ok zFw (fun vs H Q E h=>?_) (fun cdv A outer s H vs Q E hr h=>?_)
 ·obtain ⟨o,C,r,fg,pl,b,sn,z,m,pt,wy,wd,f,x,st,row,rfl,F0,ok,hr0,h4,h5,q⟩:=h
  rfl
 obtain ⟨o,C,r,fg,pl,b,sn,z,m,pt,wy,wd,f,x,st,row,rfl,F0,ok,hr0,h4,h5,q⟩:=h
 refine ⟨_,zAF (zAN (i:=2) zFw.nd rfl (Or.inl rfl) (zAR zCm (zAL zBR B.vAA rfl zBF (zAA (pv 1) (zAE))) (zAg (pv 0) rfl)))
  (zAF (zAN (i:=3) zFw.nd rfl (Or.inl rfl) (zAI zJ3 hr rfl (zAA (zAw zHi (pv 1) (zBe) (zAx (pv 2))) (zAA (zAg (pv 0) rfl) (zAA (zAg (pv 0) rfl) (zAE))))))
  (zAF (zBN (zAW zCl (zAg (pv 0) rfl) (zAG) (zAZ _)) (zAJ (zAO (pv 3))) (zAY))
  (zAJ (zAO (zAR zDP (zAR zDP (pv 3) (zA1 (zAA (zAg (pv 0) rfl) (zAE)))) (zAw zHi (pv 1) (zAx (pv 2)) (zBe))))))),?_⟩
 walk_at "st"
 have o3:=ok.pl1;have o4:=ok.pl2;have o9:=ok.z1;have o10:=ok.z2
 have gl:=zPw (z:=z.toNat) (m:=[m]) (a:=row.take ((row.length:Int) - pl).toNat)
 rw [length_take] at gl
 walk_at "rd"
 ·rename_i p1 H1 g1 n1 e1 l2 H2 g2 e2 hc
  refine q _ _ (g1.trans g2) ?_
  unfold bcs
  rw [if_pos hc]
  exact e2
 ·rename_i p1 H1 g1 n1 e1 l2 H2 g2 e2 hc p3 H3 g3 n3 e3 p4 H4 g4 n4 e4 p5 H5 g5 n5 e5 p6 H6 g6 n6 e6
  refine q _ _ (by walk_at "sm") ?_
  unfold bcs
  rw [if_neg hc]
  exact e6
local macro_rules | `(tactic| walk_at "rdc")=>`(tactic| first | ((with_reducible refine' zMi ?h1 ?h2 ?h3 ?h4 ?h5 ?_);(case h1=>walk_at "fm");(case h2=>assumption);(case h3=>walk_at "hp");(case h4=>omega);(case h5=>omega);intro l' H' g' e') | fail "none")
theorem zQn (h:zEN x) (b:Bool):(stL x b).length<=2/\(stT x b).length<=2:=by have:=zIz h b;omega
def sgc (pl:Int) (sn:Str) (z:Int) (m pt:Nat) (b:Bool) (row:Ce):Ce × Ce:=(chs (stL sn b),bcs pl z m pt row++chs (stT sn b))
def zDD (K:W.Frag):Sp:=fun vs H Q _=>∃ (o C r:Addr) (fg pl b:Int) (sn:Str) (z:Int) (m pt:Nat) (wy:Str) (wd:Int) (f:Nat) (x:Str) (st:Bool) (row:Ce) (bl:Bool),vs=[.ref o,.ref r,.bl bl]/\zAT K H o C wd f x st (zB9 fg pl b sn z m pt wy)/\NumS fg pl b sn z m pt wy wd f x/\H r=some (.lst (tsV row))/\pl<=row.length/\row.length<=40 /\ ∀ v H',Same H H'->RP H' Tr v (sgc pl sn z m pt bl row)->Q v H'
theorem zHX {o r:Addr} {z:Int} {pt:Nat} (h1:zAT K H o C wd f x st (zB9 fg pl b sn z m pt wy)) (h2:NumS fg pl b sn z m pt wy wd f x) (h3:H r=some (.lst (tsV row))) (h4:pl<=row.length) (h5:row.length<=40) (q : ∀ v H',Same H H'->RP H' Tr v (sgc pl sn z m pt bl row)->Q v H'):zDD K ([.ref o,.ref r,.bl bl]++[]) H Q E:=⟨o,C,r,fg,pl,b,sn,z,m,pt,wy,wd,f,x,st,row,bl,rfl,h1,h2,h3,h4,h5,q⟩
theorem zKR (F:Fun K "signed_cells" "signed_cells" zDf fq fd) (B:Blt mg) (zDB:Has P w K mg base "ends_of" 1 ["style", "below"] (zC4 K)) (zMF:Has P w K mg base "body_cells" 3 ["form", "row"] (zD3 K)):FnOk P w K mg base CX0 4 fq fd ["form", "row", "below"] (zDD K):=by
 refine F.ok zGM (fun vs H Q E h=>?_) (fun cdv A outer s H vs Q E hr h=>?_)
 ·obtain ⟨o,C,r,fg,pl,b,sn,z,m,pt,wy,wd,f,x,st,row,bl,rfl,F0,ok,hr0,h4,h5,q⟩:=h
  rfl
 obtain ⟨o,C,r,fg,pl,b,sn,z,m,pt,wy,wd,f,x,st,row,bl,rfl,F0,ok,hr0,h4,h5,q⟩:=h
 refine ⟨_,zAF (zAN (i:=3) zGM.nd rfl (Or.inl rfl) (zAI zDB hr rfl (zAA (zAg (pv 0) rfl) (zAA (pv 2) (zAE)))))
  (zAJ (zAO (zFI (zAA (zGo (zIX rfl) rfl B.vAJ zKJ (zAA (zAb zBc (pv 3) (zAG) (fun _ _=>rfl)) (zAE))) (zAA (zAR zDP (zAI zMF hr rfl (zAA (pv 0) (zAA (pv 1) (zAE)))) (zGo (zIX rfl) rfl B.vAJ zKJ (zAA (zAb zBc (pv 3) (zAG) (fun _ _=>rfl)) (zAE)))) (zAE)))))),?_⟩
 walk_at "st"
 have o7:=ok.sn
 have sl:=zQn o7 bl
 have bl':=zQc (pl:=pl) (z:=z) (m:=m) (pt:=pt) (row:=row)
 walk_at "rd"
 rename_i p1 e1 p2 H2 g2 n2 e2 l3 H3 g3 e3 p4 H4 g4 n4 e4 p5 H5 g5 n5 e5 t6 H6 g6 e6
 exact q _ _ (by walk_at "sm") ⟨t6,p2,p5,rfl,⟨trivial,trivial,trivial⟩,e6,g6.at (g5.at (g4.at (g3.at e2))),g6.at e5⟩
def evs (b:Int):List Nat:=(Lt "0123456789abcdef").take b.toNat
def rwN (pl:Int) (ev:List Nat) (i:Nat):Ce:=(if i=0 then ev else ev.drop 1)::List.replicate (i+pl.toNat) ev
def rwB (pl:Int) (ev:List Nat) (i:Nat):Ce:=List.replicate (pl.toNat - i) [48]++[ev.drop 1]++List.replicate i ev
theorem zLl {ev:List Nat} {i:Nat}:(rwN pl ev i).length=i+1+pl.toNat:=by unfold rwN;rw [length_cons,length_replicate];omega
theorem zLW {ev:List Nat} {i:Nat}:(rwB pl ev i).length=(pl.toNat - i)+1+i:=by unfold rwB;rw [length_append,length_append,length_replicate,length_replicate,length_singleton]
def zCx (K:W.Frag):Sp:=fun vs H Q _=>∃ (o C:Addr) (fg pl b:Int) (sn:Str) (z:Int) (m pt:Nat) (wy:Str) (wd:Int) (f:Nat) (x:Str) (st:Bool),vs=[.ref o]/\zAT K H o C wd f x st (zB9 fg pl b sn z m pt wy)/\NumS fg pl b sn z m pt wy wd f x /\ ∀ l H' us,Same H H'->H' l=some (.lst us)->Al (RL H' Tr) us ((List.range fg.toNat).map (rwN pl (evs b)))->Q (.ref l) H'
def zCe (K:W.Frag):Sp:=fun vs H Q _=>∃ (o C:Addr) (fg pl b:Int) (sn:Str) (z:Int) (m pt:Nat) (wy:Str) (wd:Int) (f:Nat) (x:Str) (st:Bool),vs=[.ref o]/\zAT K H o C wd f x st (zB9 fg pl b sn z m pt wy)/\NumS fg pl b sn z m pt wy wd f x /\ ∀ l H' us,Same H H'->H' l=some (.lst us)->Al (RL H' Tr) us ((List.range (fg+pl).toNat).map (rwB pl (evs b)))->Q (.ref l) H'
theorem zJU {α:Type} (f:Nat->α) (k:Nat):(List.range (k+1)).map f=(List.range k).map f++[f k]:=by rw [range_succ,map_append];rfl
theorem zHk (F:Fun K "rows_from_nought" "rows_from_nought" zCP fq fd) (B:Blt mg) (zBa:mg "FIGURES" = some (.str "0123456789abcdef" zEc)):FnOk P w K mg base CX0 1 fq fd ["form"] (zCx K):=by
 refine F.ok zBr (fun vs H Q E h=>?_) (fun cdv A outer s H vs Q E hr h=>?_)
 ·obtain ⟨o,C,fg,pl,b,sn,z,m,pt,wy,wd,f,x,st,rfl,F0,ok,q⟩:=h
  rfl
 obtain ⟨o,C,fg,pl,b,sn,z,m,pt,wy,wd,f,x,st,rfl,F0,ok,q⟩:=h
 refine ⟨_,zAF (zAN (i:=1) zBr.nd rfl (Or.inl rfl) (zAw zDN (zDb rfl zBa (v:=.str "0123456789abcdef") ⟨_,rfl⟩) (zBe) (zAx (zAg (pv 0) rfl))))
  (zAF (zAN (i:=2) zBr.nd rfl (Or.inl rfl) (zA1 (zAE)))
  (zAF (zGC PassesOwn.never rfl (zJn rfl B.vAB (zAA (zAG) (zAA (zAR zBA (zAg (pv 0) rfl) (zAG)) (zAE)))) (zAz (i:=3) zBr.nd rfl (Or.inl rfl)) (zAF (zAN (i:=4) zBr.nd rfl (Or.inl rfl) (zLC (zAW zCl (pv 3) (zAG) (zAZ _)) (pv 1) (zAw zDN (pv 1) (zAx (zAG)) (zBe))))
  (zAJ (zCy (zGL PySem.F.plainAttrs_list PySem.F.slot_list_append PySem.F.type_list_append zDn (pv 2) (zAA (zAR zDP (zA1 (zAA (pv 4) (zAE))) (zAR zKC (zA1 (zAA (pv 1) (zAE))) (zAR zBA (zAR zCm (pv 3) (zAG)) (zAg (pv 0) rfl)))) (zAE)))))))
  (zAJ (zAO (pv 2))))),?_⟩
 walk_at "st"
 have o1:=ok.fg1;have o2:=ok.fg2;have o3:=ok.pl1;have o4:=ok.pl2;have o5:=ok.b1;have o6:=ok.b2
 have l16:(Lt "0123456789abcdef").length=16:=by decide +kernel
 walk_at "rd"
 rw [<- T_Lt ("0123456789abcdef" : Str)]
 walk_at "rd"
 rename_i l H1 g1 n1 e1
 have e1':H1 l=some (.lst []):=e1
 have hev:(Lt "0123456789abcdef").take b.toNat=evs b:=rfl
 rw [hev]
 have el:(evs b).length<=16:=by unfold evs;rw [length_take];omega
 generalize evs b=ev at q el ⊢
 refine zNz (by omega) (fun i σ H'=>Same H H' /\ ∃ (us:List V) (r1 r2:Option V),H' l=some (.lst us)/\Al (RL H' (· ≠ l)) us ((List.range i).map (rwN pl ev))/\σ=[some (.ref o),some (.str (T ev)),some (.ref l),r1,r2]) ⟨g1,[],none,none,e1',.nil,rfl⟩ ?_ ?_
 ·rintro i σ H2 hi ⟨g2,us,r1,r2,e2,al,rfl⟩
  have lr:((List.range i).map (rwN pl ev)).length<=900:=by rw [length_map,length_range];omega
  walk_at "rd"
  ·rename_i hc p3 H3 g3 n3 e3 p4 H4 g4 n4 e4 p5 H5 g5 n5 e5 p6 H6 g6 n6 e6
   have gg:=g3.trans (g4.trans (g5.trans g6))
   refine zRX (R:=fun H=>RL H (· ≠ l)) zTf n1 (g2.trans gg) (gg.at e2) (al.imp fun _ _ h=>h.same gg) (a:=rwN pl ev i) ⟨p6,rfl,zM2 (none_of (g3.trans (g4.trans g5)) n6) e2,?_⟩ lr fun H7 us7 g7 e7 al7=>?_
   ·have i0:i=0:=by omega
    subst i0
    rw [e6,show ((1+((0:Nat):Int)) - 1+pl).toNat=0+pl.toNat by omega];rfl
   ·exact ⟨g7,us7,_,_,e7,by rw [zJU];exact al7,rfl⟩
  ·rename_i hc p3 H3 g3 n3 e3 p4 H4 g4 n4 e4 p5 H5 g5 n5 e5 p6 H6 g6 n6 e6
   have gg:=g3.trans (g4.trans (g5.trans g6))
   refine zRX (R:=fun H=>RL H (· ≠ l)) zTf n1 (g2.trans gg) (gg.at e2) (al.imp fun _ _ h=>h.same gg) (a:=rwN pl ev i) ⟨p6,rfl,zM2 (none_of (g3.trans (g4.trans g5)) n6) e2,?_⟩ lr fun H7 us7 g7 e7 al7=>?_
   ·have i0:i≠0:=by omega
    rw [e6,show ((1+(i:Int)) - 1+pl).toNat=i+pl.toNat by omega]
    unfold rwN
    rw [if_neg i0];rfl
   ·exact ⟨g7,us7,_,_,e7,by rw [zJU];exact al7,rfl⟩
 ·rintro σ H2 ⟨g2,us,r1,r2,e2,al,rfl⟩
  walk_at "rd"
  refine q _ _ _ g2 e2 ?_
  rw [show fg.toNat=(fg+1 - 1).toNat by omega]
  exact al.imp fun _ _ h=>h.wk fun _ _=>trivial
theorem zHP (F:Fun K "rows_below_nought" "rows_below_nought" zCE fq fd) (B:Blt mg) (zBa:mg "FIGURES" = some (.str "0123456789abcdef" zEc)):FnOk P w K mg base CX0 1 fq fd ["form"] (zCe K):=by
 refine F.ok zBh (fun vs H Q E h=>?_) (fun cdv A outer s H vs Q E hr h=>?_)
 ·obtain ⟨o,C,fg,pl,b,sn,z,m,pt,wy,wd,f,x,st,rfl,F0,ok,q⟩:=h
  rfl
 obtain ⟨o,C,fg,pl,b,sn,z,m,pt,wy,wd,f,x,st,rfl,F0,ok,q⟩:=h
 refine ⟨_,zAF (zAN (i:=1) zBh.nd rfl (Or.inl rfl) (zAw zDN (zDb rfl zBa (v:=.str "0123456789abcdef") ⟨_,rfl⟩) (zBe) (zAx (zAg (pv 0) rfl))))
  (zAF (zAN (i:=2) zBh.nd rfl (Or.inl rfl) (zA1 (zAE)))
  (zAF (zGC PassesOwn.never rfl (zJn rfl B.vAB (zAA (zAG) (zAA (zAR zBA (zAR zBA (zAg (pv 0) rfl) (zAg (pv 0) rfl)) (zAG)) (zAE)))) (zAz (i:=3) zBh.nd rfl (Or.inl rfl)) (zAF (zAN (i:=4) zBh.nd rfl (Or.inl rfl) (zAR zKC (zA1 (zAA (zF7 (l:=[48]) (by decide +kernel)) (zAE))) (zAR zCm (zAR zBA (zAg (pv 0) rfl) (zAG)) (pv 3))))
  (zAJ (zCy (zGL PySem.F.plainAttrs_list PySem.F.slot_list_append PySem.F.type_list_append zDn (pv 2) (zAA (zAR zDP (zAR zDP (pv 4) (zA1 (zAA (zAw zDN (pv 1) (zAx (zAG)) (zBe)) (zAE)))) (zAR zKC (zA1 (zAA (pv 1) (zAE))) (zAR zCm (pv 3) (zAG)))) (zAE)))))))
  (zAJ (zAO (pv 2))))),?_⟩
 walk_at "st"
 have o1:=ok.fg1;have o2:=ok.fg2;have o3:=ok.pl1;have o4:=ok.pl2;have o5:=ok.b1;have o6:=ok.b2
 have l16:(Lt "0123456789abcdef").length=16:=by decide +kernel
 walk_at "rd"
 rw [<- T_Lt ("0123456789abcdef" : Str)]
 walk_at "rd"
 rename_i l H1 g1 n1 e1
 have e1':H1 l=some (.lst []):=e1
 have hev:(Lt "0123456789abcdef").take b.toNat=evs b:=rfl
 rw [hev]
 have el:(evs b).length<=16:=by unfold evs;rw [length_take];omega
 generalize evs b=ev at q el ⊢
 refine zNz (by omega) (fun i σ H'=>Same H H' /\ ∃ (us:List V) (r1 r2:Option V),H' l=some (.lst us)/\Al (RL H' (· ≠ l)) us ((List.range i).map (rwB pl ev))/\σ=[some (.ref o),some (.str (T ev)),some (.ref l),r1,r2]) ⟨g1,[],none,none,e1',.nil,rfl⟩ ?_ ?_
 ·rintro i σ H2 hi ⟨g2,us,r1,r2,e2,al,rfl⟩
  have lr:((List.range i).map (rwB pl ev)).length<=900:=by rw [length_map,length_range];omega
  walk_at "rd"
  rename_i p3 H3 g3 n3 e3 p4 H4 g4 n4 e4 p5 H5 g5 n5 e5 p6 H6 g6 n6 e6 p7 H7 g7 n7 e7 p8 H8 g8 n8 e8 p9 H9 g9 n9 e9
  have gg:=g3.trans (g4.trans (g5.trans (g6.trans (g7.trans (g8.trans g9)))))
  refine zRX (R:=fun H=>RL H (· ≠ l)) zTf n1 (g2.trans gg) (gg.at e2) (al.imp fun _ _ h=>h.same gg) (a:=rwB pl ev i) ⟨p9,rfl,zM2 (none_of (g3.trans (g4.trans (g5.trans (g6.trans (g7.trans g8))))) n9) e2,?_⟩ lr fun HA usA gA eA alA=>?_
  ·rw [e9,show (pl+1 - (1+(i:Int))).toNat=pl.toNat - i by omega,show ((1+(i:Int)) - 1).toNat=i by omega];rfl
  ·exact ⟨gA,usA,_,_,eA,by rw [zJU];exact alA,rfl⟩
 ·rintro σ H2 ⟨g2,us,r1,r2,e2,al,rfl⟩
  walk_at "rd"
  refine q _ _ _ g2 e2 ?_
  rw [show (fg+pl).toNat=(fg+pl+1 - 1).toNat by omega]
  exact al.imp fun _ _ h=>h.wk fun _ _=>trivial
theorem zIU {α:Type} {f:Nat->α} {i:Nat} {x:α} (h:((List.range n).map f)[i]? = some x):i < n/\x=f i:=by
 rw [getElem?_map] at h
 rcases Nat.lt_or_ge i n with z | z
 ·rw [List.getElem?_range z] at h;exact ⟨z,(Option.some.inj h).symm⟩
 ·rw [List.getElem?_eq_none (by rw [length_range];exact z)] at h;cases h
def ncs (fg pl b:Int) (sn:Str) (z:Int) (m pt:Nat):List (Ce × Ce):=((List.range fg.toNat).map (rwN pl (evs b))).map (sgc pl sn z m pt false)++((List.range (fg+pl).toNat).map (rwB pl (evs b))).map (sgc pl sn z m pt true)
def zEV (K:W.Frag):Sp:=fun vs H Q _=>∃ (o C:Addr) (fg pl b:Int) (sn:Str) (z:Int) (m pt:Nat) (wy:Str) (wd:Int) (f:Nat) (x:Str) (st:Bool),vs=[.ref o]/\zAT K H o C wd f x st (zB9 fg pl b sn z m pt wy)/\NumS fg pl b sn z m pt wy wd f x /\ ∀ l H' us,Same H H'->H' l=some (.lst us)->Al (RP H' Tr) us (ncs fg pl b sn z m pt)->Q (.ref l) H'
theorem zJ7 (F:Fun K "number_cores" "number_cores" zDj fq fd) (B:Blt mg) (zHT:Has P w K mg base "signed_cells" 4 ["form", "row", "below"] (zDD K)) (zHv:Has P w K mg base "rows_from_nought" 1 ["form"] (zCx K)) (zHg:Has P w K mg base "rows_below_nought" 1 ["form"] (zCe K)):FnOk P w K mg base CX0 5 fq fd ["form"] (zEV K):=by
 refine F.ok zGn (fun vs H Q E h=>?_) (fun cdv A outer s H vs Q E hr h=>?_)
 ·obtain ⟨o,C,fg,pl,b,sn,z,m,pt,wy,wd,f,x,st,rfl,F0,ok,q⟩:=h
  rfl
 obtain ⟨o,C,fg,pl,b,sn,z,m,pt,wy,wd,f,x,st,rfl,F0,ok,q⟩:=h
 refine ⟨_,zAF (zEF (cl:=[("form", s.heap.objs.size+1+0)]) (fr:=["form"]) (is:=[0]) (i:=1) zGn.nd rfl (Or.inl rfl) rfl rfl rfl ⟨rfl,trivial⟩ rfl ⟨⟨rfl,rfl,Or.inl rfl⟩,trivial⟩ (by decide) (by decide +kernel) rfl (by decide +kernel) rfl (zCg (zAI zHv hr rfl (zAA (pv 0) (zAE)))) (fun _ _ _ _=>zCn) (fun _ _ _ _=>zAI zHT hr rfl (zAA (pv 1) (zAA (pv 0) (zAA (zEz) (zAE))))))
  (zAJ (zAO (zAR zDP (pv 1) (zDF (cl:=[("form", s.heap.objs.size+1+0)]) (fr:=["form"]) (is:=[0]) rfl rfl ⟨rfl,trivial⟩ rfl ⟨⟨rfl,rfl,Or.inl rfl⟩,trivial⟩ (by decide) (by decide +kernel) rfl (by decide +kernel) rfl (zCg (zAI zHg hr rfl (zAA (pv 0) (zAE)))) (fun _ _ _ _=>zCn) (fun _ _ _ _=>zAI zHT hr rfl (zAA (pv 1) (zAA (pv 0) (zAA (zEz) (zAE))))))))),?_⟩
 walk_at "st"
 have o1:=ok.fg1;have o2:=ok.fg2;have o3:=ok.pl1;have o4:=ok.pl2;have o5:=ok.b1;have o6:=ok.b2
 walk_at "rd"
 refine ⟨o,C,fg,pl,b,sn,z,m,pt,wy,wd,f,x,st,rfl,F0,ok,fun l1 H1 us1 g1 e1 al1=>?_⟩
 have ln1:=al1.len
 rw [length_map,length_range] at ln1
 refine zBM (SqL.of e1) (small (by omega)) (fun i ys H'=>Same H1 H'/\Al (RP H' Tr) ys ((((List.range fg.toNat).map (rwN pl (evs b))).take i).map (sgc pl sn z m pt false))) ⟨Same.refl _,.nil⟩ (fun i ys H' hi h=>⟨SqL.of (h.1.at e1),by rw [h.2.len,length_map,length_take];omega⟩) ?_ ?_
 ·rintro i v ys H2 hv hi ⟨g2,al⟩
  obtain ⟨row,hrow,r0,rfl,_,er⟩:=al1.get hv
  have F2:=F0.same (g1.trans g2)
  obtain ⟨hin,hre⟩:=zIU hrow
  have rl:row.length=i+1+pl.toNat:=by rw [hre,zLl]
  walk_at "rd"
  refine zHX F2 ok (g2.at er) (by omega) (by omega) fun v H3 g3 hv3=>nxC hi ⟨g2.trans g3,?_⟩
  rw [take_succ,hrow,map_append]
  exact (al.imp fun _ _ h=>h.same g3).app (.one hv3)
 ·rintro ys H2 ⟨g2,al⟩ p2 H3 g3 n3 e3
  rw [take_of_length_le (by rw [length_map,length_range];omega)] at al
  have g03:=g1.trans (g2.trans g3)
  have F3:=F0.same g03
  walk_at "rd"
  refine ⟨o,C,fg,pl,b,sn,z,m,pt,wy,wd,f,x,st,rfl,F3,ok,fun l4 H4 us4 g4 e4 al4=>?_⟩
  have ln4:=al4.len
  rw [length_map,length_range] at ln4
  refine zBM (SqL.of e4) (small (by omega)) (fun i ys H'=>Same H4 H'/\Al (RP H' Tr) ys ((((List.range (fg+pl).toNat).map (rwB pl (evs b))).take i).map (sgc pl sn z m pt true))) ⟨Same.refl _,.nil⟩ (fun i ys H' hi h=>⟨SqL.of (h.1.at e4),by rw [h.2.len,length_map,length_take];omega⟩) ?_ ?_
  ·rintro i v zs H5 hv hi ⟨g5,al5⟩
   obtain ⟨row,hrow,r0,rfl,_,er⟩:=al4.get hv
   have F5:=F3.same (g4.trans g5)
   obtain ⟨hin,hre⟩:=zIU hrow
   have rl:row.length=(pl.toNat - i)+1+i:=by rw [hre,zLW]
   walk_at "rd"
   refine zHX F5 ok (g5.at er) (by omega) (by omega) fun v H6 g6 hv6=>nxC hi ⟨g5.trans g6,?_⟩
   rw [take_succ,hrow,map_append]
   exact (al5.imp fun _ _ h=>h.same g6).app (.one hv6)
  ·rintro zs H5 ⟨g5,al5⟩ p6 H6 g6 n6 e6
   rw [take_of_length_le (by rw [length_map,length_range];omega)] at al5
   have l1:=al.len;have l2:=al5.len
   rw [length_map,length_map,length_range] at l1 l2
   have g36:=g4.trans (g5.trans g6)
   refine zWB (g36.at e3) e6 (Nat.le_of_lt (zBm (by omega))) fun p7 H7 g7 e7=>?_
   refine q _ _ _ (g03.trans (g36.trans g7)) e7 ((al.imp fun _ _ h=>(h.same g3).same (g36.trans g7)).app (al5.imp fun _ _ h=>(h.same g6).same g7))
def flk (wd:Int) (f:Nat) (x:Str) (c:Ce × Ce):Ce:=if x = "inside" then c.1++List.replicate (pA "right" ((c.1.length:Int)+c.2.length) wd).toNat [f]++c.2 else List.replicate (pA x ((c.1.length:Int)+c.2.length) wd).toNat [f]++c.1++c.2++List.replicate (pB x ((c.1.length:Int)+c.2.length) wd).toNat [f]
def zDi (K:W.Frag):Sp:=fun vs H Q _=>∃ (o C a b:Addr) (wd:Int) (f:Nat) (x:Str) (st:Bool) (more:List (Str × V)) (c:Ce × Ce),vs=[.ref o,.ref a,.ref b]/\zAT K H o C wd f x st more/\zJv x/\0<=wd/\wd<=40/\H a=some (.lst (tsV c.1))/\H b=some (.lst (tsV c.2))/\c.1.length<=200/\c.2.length<=200 /\ ∀ l H',Same H H'->H l=none->H' l=some (.lst (tsV (flk wd f x c)))->Q (.ref l) H'
theorem zLI {o a b:Addr} {c:Ce × Ce} (h1:zAT K H o C wd f x st more) (h2:zJv x) (h3:0<=wd) (h4:wd<=40) (h5:H a=some (.lst (tsV c.1))) (h6:H b=some (.lst (tsV c.2))) (h7:c.1.length<=200) (h8:c.2.length<=200) (q : ∀ l H',Same H H'->H l=none->H' l=some (.lst (tsV (flk wd f x c)))->Q (.ref l) H'):zDi K ([.ref o,.ref a,.ref b]++[]) H Q E:=⟨o,C,a,b,wd,f,x,st,more,c,rfl,h1,h2,h3,h4,h5,h6,h7,h8,q⟩
theorem zKT (F:Fun K "filled_look" "filled_look" zD4 fq fd) (B:Blt mg) (zFW:Has P w K mg base "pads_of" 1 ["length", "width", "side"] (zEE K)):FnOk P w K mg base CX0 2 fq fd ["form", "lead", "rest"] (zDi K):=by
 refine F.ok zFA (fun vs H Q E h=>?_) (fun cdv A outer s H vs Q E hr h=>?_)
 ·obtain ⟨o,C,a,b,wd,f,x,st,more,c,rfl,F0,sx,w0,w1,ha,hb,l1,l2,q⟩:=h
  rfl
 obtain ⟨o,C,a,b,wd,f,x,st,more,c,rfl,F0,sx,w0,w1,ha,hb,l1,l2,q⟩:=h
 refine ⟨_,zAF (zAN (i:=3) zFA.nd rfl (Or.inl rfl) (zAR zBA (zAL zBR B.vAA rfl zBF (zAA (pv 1) (zAE))) (zAL zBR B.vAA rfl zBF (zAA (pv 2) (zAE)))))
  (zAF (zBN (zAW zCl (zAg (pv 0) rfl) (zA2) (zAZ _)) (zAJ (zAO (zAR zDP (zAR zDP (pv 1) (zAR zKC (zA1 (zAA (zAg (pv 0) rfl) (zAE))) (zAb zBc (zAI zFW hr rfl (zAA (pv 3) (zAA (zAg (pv 0) rfl) (zAA (zA2) (zAE))))) (zAG) (fun _ _=>rfl)))) (pv 2)))) (zAY))
  (zAF (zAN (i:=4) zFA.nd rfl (Or.inl rfl) (zAI zFW hr rfl (zAA (pv 3) (zAA (zAg (pv 0) rfl) (zAA (zAg (pv 0) rfl) (zAE))))))
  (zAJ (zAO (zAR zDP (zAR zDP (zAR zDP (zAR zKC (zA1 (zAA (zAg (pv 0) rfl) (zAE))) (zAb zBc (pv 4) (zAG) (fun _ _=>rfl))) (pv 1)) (pv 2)) (zAR zKC (zA1 (zAA (zAg (pv 0) rfl) (zAE))) (zAb zBc (pv 4) (zAG) (fun _ _=>rfl)))))))),?_⟩
 walk_at "st"
 have br:=zDa (x:="right") (n:=(c.1.length:Int)+c.2.length) (w:=wd) (.inr (.inl rfl)) (by omega) w1
 have bx:=fun hs:Side x=>zDa (n:=(c.1.length:Int)+c.2.length) (w:=wd) hs (by omega) w1
 have bk:=zIj ((c.1.length:Int)+c.2.length) wd (by omega) w1
 unfold zPi at br bx
 walk_at "rd"
 ·rename_i hc p1 H1 g1 n1 e1 p2 H2 g2 e2 p3 H3 g3 n3 e3 p4 H4 g4 n4 e4 p5 H5 g5 n5 e5
  refine q _ _ (by walk_at "sm") (none_of (g1.trans (g2.trans (g3.trans g4))) n5) ?_
  rw [e5]
  unfold flk
  rw [if_pos hc]
 ·rename_i hc
  have sx':Side x:=sx.elim id fun z=>absurd z hc
  have b1:=bx sx'
  clear bx br
  walk_at "rd"
  rename_i p0 H0 g0 e0 p1 H1 g1 n1 e1 p2 H2 g2 n2 e2 p3 H3 g3 n3 e3 p4 H4 g4 n4 e4 p5 H5 g5 n5 e5 p6 H6 g6 n6 e6 p7 H7 g7 n7 e7
  refine q _ _ (by walk_at "sm") (none_of (g0.trans (g1.trans (g2.trans (g3.trans (g4.trans (g5.trans g6)))))) n7) ?_
  rw [e7]
  unfold flk
  rw [if_neg hc]
theorem zHr {a:Addr} {t:Ce} (h1:zAT K H a C wd f x st more) (h2:H l=some (.lst (tsV t))) (q:Q (.bl (st && decide (wd < t.length))) H):zAX K (.ref a::([.ref l]++[])) H Q E:=.inr ⟨a,C,l,wd,f,x,st,more,t,rfl,h1,h2,q⟩
theorem zGU (F:FunD K "is_too_wide" "Form.is_too_wide" zA0 fq fd) (B:Blt mg):FnOk P w K mg base CX0 1 fq fd ["self", "core"] (zDp K):=by
 refine F.ok zET (fun vs H Q E h=>?_) (fun cdv A outer s H vs Q E hr h=>?_)
 ·obtain ⟨a,C,l,wd,f,x,st,more,t,rfl,F0,h0,q⟩:=h
  rfl
 obtain ⟨a,C,l,wd,f,x,st,more,t,rfl,F0,h0,q⟩:=h
 refine ⟨_,zAJ (zAO (zGT (zAg (pv 0) rfl) (zHs (zBu zIf (zAL zBR B.vAA rfl zBF (zAA (pv 1) (zAE))) (zAg (pv 0) rfl) (zAZ _))))),?_⟩
 walk_at "st"
 walk_at "rd"
 ·rename_i hc;rw [hc] at q;exact q
 ·rename_i hc;rw [hc] at q;exact q
structure IsF (K:W.Frag) (c cN cW:Addr) (b1 b2:Bool):Prop where
 cl:Cls K c
 ha:W.findIn K (.ref c) "__class__" = some (some (.builtin "object.__class__"))
 hn:W.specialIn K (.builtin "object.__class__") "__get__" = some (some (.builtin "getset_descriptor.__get__"))
 ht:W.takesIn K (.builtin "object.__class__")=some true
 hm:W.mroIn K c (.type "object")=some true
 k1:W.kitOne K (.ref c) (.ref cN)=some b1
 k2:W.kitOne K (.ref c) (.ref cW)=some b2
theorem IsF.ty {c o:Addr} {b1 b2:Bool} (n:IsF K c cN cW b1 b2) (F:zAT K H o c wd f x st more):TyOf K H (.ref o) (.ref c):=let ⟨_,e⟩:=F.at_;.ins e n.cl n.ha n.hn n.ht n.hm
def cors:Fd->List (Ce × Ce)
 | .num fg pl b sn z m pt _=>ncs fg pl b sn z m pt
 | .word sg lo hi=>(List.range (hi+1 - lo).toNat).map fun i:Nat=>([],List.replicate (lo+(i:Int)).toNat sg)
 | .cho ns=>ns.map fun n=>([],chs n)
def fits (wd:Int) (st:Bool) (c:Ce × Ce):Bool:=!(st && decide (wd < ((c.1++c.2).length:Int)))
theorem zSy {z:Int} {pt:Nat} (h:zEN sn) (hl:row.length<=40):(sgc pl sn z m pt bl row).1.length<=200/\(sgc pl sn z m pt bl row).2.length<=200:=by
 have sl:=zQn h bl
 have b2:=zQc (pl:=pl) (z:=z) (m:=m) (pt:=pt) (row:=row)
 unfold sgc chs
 simp only [length_append,length_map]
 omega
theorem zSl {z:Int} {pt:Nat} (ok:NumS fg pl b sn z m pt wy wd f x) : ∀ c ∈ ncs fg pl b sn z m pt,c.1.length<=200/\c.2.length<=200:=by
 have o1:=ok.fg1;have o2:=ok.fg2;have o3:=ok.pl1;have o4:=ok.pl2
 intro c hc
 unfold ncs at hc
 rcases List.mem_append.mp hc with hc | hc
 ·obtain ⟨r,hr,rfl⟩:=List.mem_map.mp hc
  obtain ⟨i,hi,rfl⟩:=List.mem_map.mp hr
  have:=List.mem_range.mp hi
  exact zSy ok.sn (by rw [zLl];omega)
 ·obtain ⟨r,hr,rfl⟩:=List.mem_map.mp hc
  obtain ⟨i,hi,rfl⟩:=List.mem_map.mp hr
  have:=List.mem_range.mp hi
  exact zSy ok.sn (by rw [zLW];omega)
theorem zLi {H1 H2 H3:Hp} {i:Nat} {cs:List (Ce × Ce)} {ys:List V} {c:Ce × Ce} {T1:Prop} (hi:i < n) (hc:cs[i]? = some c) (al:Al (RP H2 Tr) ys ((cs.take i).filter (fits wd st))) (g2:Same H1 H2) (g3:Same H2 H3) (hv:RP H2 Tr v c)
  (h1:NxC n (fun i ys H'=>Same H1 H'/\Al (RP H' Tr) ys ((cs.take i).filter (fits wd st))) i (ys++[v]) H3->T1):if (!(st && decide (wd < ((c.1++c.2).length:Int))))=true then T1 else NxC n (fun i ys H'=>Same H1 H'/\Al (RP H' Tr) ys ((cs.take i).filter (fits wd st))) i ys H3:=by
 have e:(cs.take (i+1)).filter (fits wd st)=(cs.take i).filter (fits wd st)++[c].filter (fits wd st):=by rw [take_succ,hc,filter_append];rfl
 have al':=al.imp fun _ _ (h:RP H2 Tr _ _)=>h.same g3
 show if fits wd st c=true then T1 else _
 cases hf:fits wd st c with
 | true =>
  rw [if_pos rfl]
  refine h1 (nxC hi ⟨g2.trans g3,?_⟩)
  rw [e,filter_cons_of_pos hf,filter_nil]
  exact al'.app (.one (hv.same g3))
 | false =>
  rw [if_neg Bool.false_ne_true]
  refine nxC hi ⟨g2.trans g3,?_⟩
  rw [e,filter_cons_of_neg (by rw [hf];exact Bool.false_ne_true),filter_nil,append_nil]
  exact al'
def zD1 (K:W.Frag) (cN cW cC:Addr):Sp:=fun vs H Q _=>∃ (o:Addr) (wd:Int) (f:Nat) (x:Str) (st:Bool) (d:Fd),vs=[.ref o]/\FdAt K H o cN cW cC wd f x st d /\ ∀ l H' us,Same H H'->H' l=some (.lst us)->Al (RP H' Tr) us ((cors d).filter (fits wd st))->Q (.ref l) H'
theorem zLF (F:Fun K "core_looks" "core_looks" zEp fq fd) (B:Blt mg) (zAK:Cls K zAB) (zAS:Cls K zAD) (zAQ:Cls K zAC) (zKc:Has P w K mg base "number_cores" 5 ["form"] (zEV K)) (zAl:HasM P w K mg base CX0 zAB "is_too_wide" 1 ["self", "core"] (zAX K)) (zBP:HasM P w K mg base CX0 zAD "is_too_wide" 1 ["self", "core"] (zAX K)) (zBG:HasM P w K mg base CX0 zAC "is_too_wide" 1 ["self", "core"] (zAX K))(zC3:mg "NumberForm" = some (.ref zAB)) (zED:mg "WordForm" = some (.ref zAD)) (isn:IsF K zAB zAB zAD true false) (isw:IsF K zAD zAB zAD false true) (isc:IsF K zAC zAB zAD false false):FnOk P w K mg base CX0 6 fq fd ["form"] (zD1 K zAB zAD zAC):=by
 refine F.ok zD8 (fun vs H Q E h=>?_) (fun cdv A outer s H vs Q E hr h=>?_)
 ·obtain ⟨o,wd,f,x,st,d,rfl,D0,q⟩:=h
  rfl
 obtain ⟨o,wd,f,x,st,d,rfl,D0,q⟩:=h
 refine ⟨_,zAF (zBN (zBt (zAL zCt B.vAC rfl zBC (zAA (pv 0) (zAA (zDb rfl zC3 (v:=.ref zAB) rfl) (zAE))))) (zAJ (zAN (i:=1) zD8.nd rfl (Or.inl rfl) (zAI zKc hr rfl (zAA (pv 0) (zAE))))) (zAJ (zBN (zBt (zAL zCt B.vAC rfl zBC (zAA (pv 0) (zAA (zDb rfl zED (v:=.ref zAD) rfl) (zAE))))) (zAJ (zEF (cl:=[("form", s.heap.objs.size+1+0)]) (fr:=["form"]) (is:=[0]) (i:=1) zD8.nd rfl (Or.inl rfl) rfl rfl rfl ⟨rfl,trivial⟩ rfl ⟨⟨rfl,rfl,Or.inl rfl⟩,trivial⟩ (by decide) (by decide +kernel) rfl (by decide +kernel) rfl (zJn rfl B.vAB (zAA (zAg (pv 0) rfl) (zAA (zAR zBA (zAg (pv 0) rfl) (zAG)) (zAE)))) (fun _ _ _ _=>zCn) (fun _ _ _ _=>zFI (zAA (zA1 (zAE)) (zAA (zAR zKC (zA1 (zAA (zE6 (K:=K) rfl (pv 1) rfl) (zAE))) (pv 0)) (zAE)))))) (zAJ (zEF (cl:=[]) (fr:=[]) (is:=[]) (i:=1) zD8.nd rfl (Or.inl rfl) rfl rfl rfl trivial rfl trivial (by decide) (by decide +kernel) rfl (by decide +kernel) rfl (zCg (zAg (pv 0) rfl)) (fun _ _ _ _=>zCn) (fun _ _ _ _=>zFI (zAA (zA1 (zAE)) (zAA (zGo (zIX rfl) rfl B.vAJ zKJ (zAA (pv 0) (zAE))) (zAE)))))))))
  (zAJ (zAO (zDF (cl:=[("form", s.heap.objs.size+1+0)]) (fr:=["form"]) (is:=[0]) rfl rfl ⟨rfl,trivial⟩ rfl ⟨⟨rfl,rfl,Or.inl rfl⟩,trivial⟩ (by decide) (by decide +kernel) rfl (by decide +kernel) rfl (zCg (pv 1)) (fun _ _ _ _=>zEk (zCT (zBt (zCb (zAV zAl zAK zBV hr (pv 1) (zAA (zAR zDP (zAb (zEa (K:=K) rfl) (pv 0) (zAG) (fun _ _=>rfl)) (zAb (zEa (K:=K) rfl) (pv 0) (zAG) (fun _ _=>rfl))) (zAE))) (zCb (zAV zBP zAS zBV hr (pv 1) (zAA (zAR zDP (zAb (zEa (K:=K) rfl) (pv 0) (zAG) (fun _ _=>rfl)) (zAb (zEa (K:=K) rfl) (pv 0) (zAG) (fun _ _=>rfl))) (zAE))) (zAV zBG zAQ zBV hr (pv 1) (zAA (zAR zDP (zAb (zEa (K:=K) rfl) (pv 0) (zAG) (fun _ _=>rfl)) (zAb (zEa (K:=K) rfl) (pv 0) (zAG) (fun _ _=>rfl))) (zAE)))))))) (fun _ _ _ _=>pv 0)))),?_⟩
 walk_at "st"
 cases D0 with
 | @num fg pl b sn z m pt wy F0 ok =>
  have o1:=ok.fg1;have o2:=ok.fg2;have o3:=ok.pl1;have o4:=ok.pl2
  have T0:=isn.ty F0
  have cbd:=zSl ok
  walk_at "rd"
  refine zHw T0 ⟨"", .inr ⟨_,rfl⟩⟩ isn.k1 ?_
  walk_at "rd"
  refine ⟨o,_,fg,pl,b,sn,z,m,pt,wy,wd,f,x,st,rfl,F0,ok,fun l1 H1 us1 g1 e1 al1=>?_⟩
  have lc:(ncs fg pl b sn z m pt).length<=100:=by
   unfold ncs
   rw [length_append,length_map,length_map,length_map,length_map,length_range,length_range];omega
  walk_at "rd"
  have ln1:=al1.len
  refine zBM (SqL.of e1) (small (by omega)) (fun i ys H'=>Same H1 H'/\Al (RP H' Tr) ys (((ncs fg pl b sn z m pt).take i).filter (fits wd st))) ⟨Same.refl _,.nil⟩ (fun i ys H' hi h=>⟨SqL.of (h.1.at e1),by rw [h.2.len];exact le_trans (length_filter_le _ _) (by rw [length_take];omega)⟩) ?_ ?_
  ·rintro i v ys H2 hv hi ⟨g2,al⟩
   obtain ⟨c,hc,t,a,b,rfl,_,et,ea,eb⟩:=al1.get hv
   have F2:=F0.same (g1.trans g2)
   have et2:=g2.at et;have ea2:=g2.at ea;have eb2:=g2.at eb
   have cl:=cbd c (mem_of_getElem? hc)
   walk_at "rd"
   refine zHK ?_
   walk_at "rd"
   rename_i p3 H3 g3 n3 e3
   refine zHr (F2.same g3) e3 ⟨_,rfl,?_⟩
   exact zLi hi hc al g2 g3 ⟨t,a,b,rfl,⟨trivial,trivial,trivial⟩,et2,ea2,eb2⟩ fun k=>by walk_at "rd"; exact k
  ·rintro ys H2 ⟨g2,al⟩ p2 H3 g3 n3 e3
   rw [take_of_length_le (by omega)] at al
   exact q _ _ _ (g1.trans (g2.trans g3)) e3 (al.imp fun _ _ h=>h.same g3)
 | @word sg lo hi F0 ok =>
  have o1:=ok.s1;have o2:=ok.s2;have o3:=ok.lo1;have o4:=ok.lo2;have o5:=ok.hi2
  have T0:=isw.ty F0
  walk_at "rd"
  refine zHw T0 ⟨"", .inr ⟨_,rfl⟩⟩ isw.k1 ?_
  walk_at "rd"
  refine zHw T0 ⟨"", .inr ⟨_,rfl⟩⟩ isw.k2 ?_
  walk_at "rd"
  refine zQd (by omega) (Nat.le_of_lt (zBm (by omega))) (fun i ys H'=>Same H H'/\Al (RP H' Tr) ys ((List.range i).map fun i:Nat=>(([]:Ce),List.replicate (lo+(i:Int)).toNat sg))) ⟨Same.refl _,.nil⟩ (fun i ys H' hi h=>by rw [h.2.len,length_map,length_range];exact Nat.le_refl _) ?_ ?_
  ·rintro i ys H2 hi ⟨g2,al⟩
   have F2:=F0.same g2
   walk_at "rd"
   rename_i p3 H3 g3 n3 e3 p4 H4 g4 n4 e4 p5 H5 g5 n5 e5 p6 H6 g6 e6
   refine nxC hi ⟨by walk_at "sm", ?_⟩
   rw [zJU]
   exact (al.imp fun _ _ h=>h.same (g3.trans (g4.trans (g5.trans g6)))).app (.one ⟨p6,p3,p5,rfl,⟨trivial,trivial,trivial⟩,e6,g6.at (g5.at (g4.at e3)),g6.at e5⟩)
  rintro ys H1 ⟨g0,al0⟩ l1 H1' g1' n1 e1
  have g1:=g0.trans g1'
  have al1:=al0.imp fun _ _ (h:RP H1 Tr _ _)=>h.same g1'
  have lc:((List.range (hi+1 - lo).toNat).map fun i:Nat=>(([]:Ce),List.replicate (lo+(i:Int)).toNat sg)).length<=100:=by rw [length_map,length_range];omega
  have cbd : ∀ c ∈ (List.range (hi+1 - lo).toNat).map fun i:Nat=>(([]:Ce),List.replicate (lo+(i:Int)).toNat sg),c.1.length<=200/\c.2.length<=200:=fun c hc=>by
   obtain ⟨i,hi,rfl⟩:=List.mem_map.mp hc
   have:=List.mem_range.mp hi
   exact ⟨by simp,by rw [length_replicate];omega⟩
  walk_at "rd"
  have ln1:=al1.len
  refine zBM (SqL.of e1) (small (by omega)) (fun i ys H'=>Same H1' H'/\Al (RP H' Tr) ys ((((List.range (hi+1 - lo).toNat).map fun i:Nat=>(([]:Ce),List.replicate (lo+(i:Int)).toNat sg)).take i).filter (fits wd st))) ⟨Same.refl _,.nil⟩ (fun i ys H' hi h=>⟨SqL.of (h.1.at e1),by rw [h.2.len];exact le_trans (length_filter_le _ _) (by rw [length_take];omega)⟩) ?_ ?_
  ·rintro i v ys H2 hv hi ⟨g2,al⟩
   obtain ⟨c,hc,t,a,b,rfl,_,et,ea,eb⟩:=al1.get hv
   have F2:=F0.same (g1.trans g2)
   have et2:=g2.at et;have ea2:=g2.at ea;have eb2:=g2.at eb
   have cl:=cbd c (mem_of_getElem? hc)
   walk_at "rd"
   refine zD5 (zHK ?_)
   walk_at "rd"
   rename_i p3 H3 g3 n3 e3
   refine zHr (F2.same g3) e3 ⟨_,rfl,?_⟩
   exact zLi hi hc al g2 g3 ⟨t,a,b,rfl,⟨trivial,trivial,trivial⟩,et2,ea2,eb2⟩ fun k=>by walk_at "rd"; exact k
  ·rintro ys H2 ⟨g2,al⟩ p2 H3 g3 n3 e3
   rw [take_of_length_le (by omega)] at al
   exact q _ _ _ (g1.trans (g2.trans g3)) e3 (al.imp fun _ _ h=>h.same g3)
 | @cho L ns F0 e0 ok =>
  have o1:=ok.n1;have o2:=ok.n2
  have T0:=isc.ty F0
  walk_at "rd"
  refine zHw T0 ⟨"", .inr ⟨_,rfl⟩⟩ isc.k1 ?_
  walk_at "rd"
  refine zHw T0 ⟨"", .inr ⟨_,rfl⟩⟩ isc.k2 ?_
  walk_at "rd"
  have tl:=zA9 ns
  refine zBM (SqL.of e0) (small (by omega)) (fun i ys H'=>Same H H'/\Al (RP H' Tr) ys ((ns.take i).map fun n=>(([]:Ce),chs n))) ⟨Same.refl _,.nil⟩ (fun i ys H' hi h=>⟨SqL.of (h.1.at e0),by rw [h.2.len,length_map,length_take];omega⟩) ?_ ?_
  ·rintro i v ys H2 hv hi ⟨g2,al⟩
   obtain ⟨nm,hn,rfl⟩:=zFg hv
   have nl:=ok.len nm (mem_of_getElem? hn)
   walk_at "rd"
   rename_i p3 H3 g3 n3 e3 p4 H4 g4 n4 e4 p6 H6 g6 e6
   refine nxC hi ⟨by walk_at "sm", ?_⟩
   rw [take_succ,hn,map_append]
   exact (al.imp fun _ _ h=>h.same (g3.trans (g4.trans g6))).app (.one ⟨p6,p3,p4,rfl,⟨trivial,trivial,trivial⟩,e6,g6.at (g4.at e3),g6.at e4⟩)
  rintro ys H1 ⟨g0,al0⟩ l1 H1' g1' n1 e1
  rw [take_of_length_le (by omega)] at al0
  have g1:=g0.trans g1'
  have al1:=al0.imp fun _ _ (h:RP H1 Tr _ _)=>h.same g1'
  have lc:(ns.map fun n=>(([]:Ce),chs n)).length<=100:=by rw [length_map];omega
  have cbd : ∀ c ∈ ns.map fun n=>(([]:Ce),chs n),c.1.length<=200/\c.2.length<=200:=fun c hc=>by
   obtain ⟨n,hn,rfl⟩:=List.mem_map.mp hc
   have:=ok.len n hn
   exact ⟨by simp,by unfold chs;rw [length_map];omega⟩
  walk_at "rd"
  have ln1:=al1.len
  refine zBM (SqL.of e1) (small (by omega)) (fun i ys H'=>Same H1' H'/\Al (RP H' Tr) ys (((ns.map fun n=>(([]:Ce),chs n)).take i).filter (fits wd st))) ⟨Same.refl _,.nil⟩ (fun i ys H' hi h=>⟨SqL.of (h.1.at e1),by rw [h.2.len];exact le_trans (length_filter_le _ _) (by rw [length_take];omega)⟩) ?_ ?_
  ·rintro i v ys H2 hv hi ⟨g2,al⟩
   obtain ⟨c,hc,t,a,b,rfl,_,et,ea,eb⟩:=al1.get hv
   have F2:=F0.same (g1.trans g2)
   have et2:=g2.at et;have ea2:=g2.at ea;have eb2:=g2.at eb
   have cl:=cbd c (mem_of_getElem? hc)
   walk_at "rd"
   refine zD5 (zD5 ?_)
   walk_at "rd"
   rename_i p3 H3 g3 n3 e3
   refine zHr (F2.same g3) e3 ⟨_,rfl,?_⟩
   exact zLi hi hc al g2 g3 ⟨t,a,b,rfl,⟨trivial,trivial,trivial⟩,et2,ea2,eb2⟩ fun k=>by walk_at "rd"; exact k
  ·rintro ys H2 ⟨g2,al⟩ p2 H3 g3 n3 e3
   rw [take_of_length_le (by omega)] at al
   exact q _ _ _ (g1.trans (g2.trans g3)) e3 (al.imp fun _ _ h=>h.same g3)
def lks (wd:Int) (f:Nat) (x:Str) (st:Bool) (d:Fd):List Ce:=((cors d).filter (fits wd st)).map (flk wd f x)
theorem zMw {o:Addr} (h:FdAt K H o cN cW cC wd f x st d):(cors d).length<=100 /\ ∀ c ∈ cors d,c.1.length<=200/\c.2.length<=200:=by
 cases h with
 | @num fg pl b sn z m pt wy F ok =>
  have o1:=ok.fg1;have o2:=ok.fg2;have o3:=ok.pl1;have o4:=ok.pl2
  refine ⟨?_,zSl ok⟩
  show (ncs fg pl b sn z m pt).length<=100
  unfold ncs
  rw [length_append,length_map,length_map,length_map,length_map,length_range,length_range];omega
 | @word sg lo hi F ok =>
  have o3:=ok.lo1;have o4:=ok.lo2;have o5:=ok.hi2
  refine ⟨?_,fun c hc=>?_⟩
  ·show (List.map _ (List.range (hi+1 - lo).toNat)).length<=100
   rw [length_map,length_range];omega
  ·obtain ⟨i,hi,rfl⟩:=List.mem_map.mp (show c ∈ List.map _ (List.range (hi+1 - lo).toNat) from hc)
   have:=List.mem_range.mp hi
   exact ⟨by simp,by rw [length_replicate];omega⟩
 | @cho L ns F e ok =>
  have o2:=ok.n2
  refine ⟨?_,fun c hc=>?_⟩
  ·show (List.map _ ns).length<=100
   rw [length_map];omega
  ·obtain ⟨n,hn,rfl⟩:=List.mem_map.mp (show c ∈ List.map _ ns from hc)
   have:=ok.len n hn
   exact ⟨by simp,by unfold chs;rw [length_map];omega⟩
def zEL (K:W.Frag) (cN cW cC:Addr):Sp:=fun vs H Q _=>∃ (o:Addr) (wd:Int) (f:Nat) (x:Str) (st:Bool) (d:Fd),vs=[.ref o]/\FdAt K H o cN cW cC wd f x st d /\ ∀ l H' us,Same H H'->H l=none->H' l=some (.lst us)->Al (RL H' (fun q=>q≠l/\H q=none)) us (lks wd f x st d)->Q (.ref l) H'
theorem zKn {o:Addr} (h:FdAt K H o cN cW cC wd f x st d) (q : ∀ l H' us,Same H H'->H l=none->H' l=some (.lst us)->Al (RL H' (fun q=>q≠l/\H q=none)) us (lks wd f x st d)->Q (.ref l) H'):zEL K cN cW cC ([.ref o]++[]) H Q E:=⟨o,wd,f,x,st,d,rfl,h,q⟩
theorem zMy (F:Fun K "looks_of" "looks_of" zHD fq fd) (B:Blt mg) (zLj:Has P w K mg base "filled_look" 2 ["form", "lead", "rest"] (zDi K)) (zGV:Has P w K mg base "core_looks" 6 ["form"] (zD1 K zAB zAD zAC)):FnOk P w K mg base CX0 7 fq fd ["form"] (zEL K zAB zAD zAC):=by
 refine F.ok zNm (fun vs H Q E h=>?_) (fun cdv A outer s H vs Q E hr h=>?_)
 ·obtain ⟨o,wd,f,x,st,d,rfl,D0,q⟩:=h
  rfl
 obtain ⟨o,wd,f,x,st,d,rfl,D0,q⟩:=h
 refine ⟨_,zAJ (zAO (zDF (cl:=[("form", s.heap.objs.size+1+0)]) (fr:=["form"]) (is:=[0]) rfl rfl ⟨rfl,trivial⟩ rfl ⟨⟨rfl,rfl,Or.inl rfl⟩,trivial⟩ (by decide) (by decide +kernel) rfl (by decide +kernel) rfl (zCg (zAI zGV hr rfl (zAA (pv 0) (zAE)))) (fun _ _ _ _=>zCn) (fun _ _ _ _=>zAI zLj hr rfl (zAA (pv 1) (zAA (zAb (zEa (K:=K) rfl) (pv 0) (zAG) (fun _ _=>rfl)) (zAA (zAb (zEa (K:=K) rfl) (pv 0) (zAG) (fun _ _=>rfl)) (zAE))))))),?_⟩
 walk_at "st"
 obtain ⟨C,more,F0,sx,w0,w1⟩:=D0.bd
 obtain ⟨cl,cb⟩:=zMw D0
 walk_at "rd"
 refine ⟨o,wd,f,x,st,d,rfl,D0,fun l1 H1 us1 g1 e1 al1=>?_⟩
 have fl:=length_filter_le (fits wd st) (cors d)
 have ln1:=al1.len
 refine zBM (SqL.of e1) (small (by omega)) (fun i ys H'=>Same H1 H'/\Al (RL H' (fun q=>H q=none)) ys ((((cors d).filter (fits wd st)).take i).map (flk wd f x))) ⟨Same.refl _,.nil⟩ (fun i ys H' hi h=>⟨SqL.of (h.1.at e1),by rw [h.2.len,length_map,length_take];omega⟩) ?_ ?_
 ·rintro i v ys H2 hv hi ⟨g2,al⟩
  obtain ⟨c,hc,t,a,b,rfl,_,et,ea,eb⟩:=al1.get hv
  have cl:=cb c (List.mem_filter.mp (mem_of_getElem? hc)).1
  have F2:=F0.same (g1.trans g2)
  have et2:=g2.at et;have ea2:=g2.at ea;have eb2:=g2.at eb
  walk_at "rd"
  refine zLI F2 sx w0 w1 ea2 eb2 cl.1 cl.2 fun p3 H3 g3 n3 e3=>nxC hi ⟨g2.trans g3,?_⟩
  rw [take_succ,hc,map_append]
  exact (al.imp fun _ _ h=>h.same g3).app (.one ⟨p3,rfl,none_of (g1.trans g2) n3,e3⟩)
 ·rintro ys H2 ⟨g2,al⟩ p2 H3 g3 n3 e3
  rw [take_of_length_le (by omega)] at al
  refine q _ _ _ (g1.trans (g2.trans g3)) (none_of (g1.trans g2) n3) e3 (al.imp fun _ _ h=>?_)
  obtain ⟨p,e,n,k⟩:=h
  exact ⟨p,e,⟨Ne.symm (zM2 n3 k),n⟩,g3.at k⟩
theorem zVp {CX:CXT} {k:Nat} {f:Addr} {ps:List Str} {s1 s2:Sp} (F:FnOk P w K mg base CX k f fd ps s1) (G:FnOk P w K mg base CX k f fd ps s2):FnOk P w K mg base CX k f fd ps (fun vs H Q E=>s1 vs H Q E\/s2 vs H Q E):=
 ⟨fun vs H Q E h=>h.elim (F.len vs H Q E) (G.len vs H Q E),fun A outer s H args us vs Q E hr he hb hv h=>h.elim (F.run A outer s H args us vs Q E hr he hb hv) (G.run A outer s H args us vs Q E hr he hb hv)⟩
theorem zNQ (F:Fun K "parts_of" "parts_of" zEC fq fd) (B:Blt mg):FnOk P w K mg base CX0 1 fq fd ["text", "size", "between"] (zC1 K):=zVp (zK5 F B) (zLV F B)
theorem zHm (F:FunD K "is_too_wide" "Form.is_too_wide" zA0 fq fd) (B:Blt mg):FnOk P w K mg base CX0 1 fq fd ["self", "core"] (zAX K):=zVp (zGW F B) (zGU F B)
section
open PySem.Spec PyProof.Rows
variable {X : Cx} {H : Hp} {Q : VK} {K : W.Frag}
def zVS (K:W.Frag):V->List V->Hp->VK->Prop:=fun x vs H Q=>∃ (l:Addr) (us:List V) (v:V) (ds:List PyData) (d:PyData),x = .ref l/\vs=[v]/\H l=some (.lst us)/\Dts K H us ds/\Dt K H v d/\PyData.canLayAll0 ds=true/\d.canLay0=true/\d.depth<=18/\Q (.int (ds.countP fun y=>y.eqv d:Nat)) H
theorem zQA (hu:X.A.units+20 < cLine):MtM X "list.count" (zVS X.K):=by
 intro pins s σ H x vs v us Q I rx rv h
 obtain ⟨l,ys,y,ds,d,rfl,rfl,hH,hds,hd,c1,c2,dp,q⟩:=h
 cases rx
 obtain ⟨u,rfl,ru⟩:=rv.one
 obtain ⟨_,its,n,r,hl,e⟩:=I.lstM hH
 obtain ⟨as,ra⟩:=zFZ I hds r
 obtain ⟨bs,rb⟩:=zG9 I hd ru
 have cp:(its.toArray.toList.countP fun w=>PyData.eqv (SeqAt.readOf s.heap w) d)=ds.countP fun y=>y.eqv d:=by
  rw [<- SeqAt.readsAll_map ds _ _ c1 ra,List.countP_map];rfl
 refine call_meets F.slot_list_count ⟨_,e,rfl⟩ F.entry_list_count (F.args_list_count_2 _ _) (SeqAt.list_countAt l its.toArray n none #[] u (fun w=>PyData.eqv (SeqAt.readOf s.heap w) d)) ⟨e,SeqAt.items_eqAt (as:=as) (by simpa using ra) rb c1 c2 ?_,⟨.int _,H,I.tok _,⟨_,rfl⟩,?_⟩⟩
 ·have:=Nat.min_le_right (PyData.depthAll ds) d.depth;omega
 ·rw [cp];exact q
def zTk:V->List V->Hp->VK->Prop:=fun x vs H Q=>∃ (l:Addr) (bs:List Bool) (j:Nat),x = .ref l/\vs=[.bl true]/\H l=some (.lst (bs.map V.bl))/\bs[j]? = some true/\(∀ m,m < j->bs[m]? ≠ some true)/\j < 1000/\Q (.int j) H
theorem zQP:MtM X "list.index" zTk:=by
 intro pins s σ H x vs v us Q I rx rv h
 obtain ⟨l,zs,j,rfl,rfl,hH,hj,hno,hj1,q⟩:=h
 cases rx
 obtain ⟨u,rfl,ru⟩:=rv.one
 obtain ⟨_,its,n,r,hl,e⟩:=I.lstM hH
 have fl:(zs.map V.bl).all zKU=true:=by
  rw [List.all_eq_true];intro x hx
  obtain ⟨l,_,rfl⟩:=List.mem_map.mp hx
  rfl
 have it : ∀ (m:Nat) (hm:m < its.toArray.size),∃ y:Bool,zs[m]? = some y/\its.toArray[m] = .bool y:=fun m hm=>by
  have hm':m < its.length:=by simpa using hm
  have hz:m < zs.length:=by have:=r.length;rw [length_map] at this;omega
  obtain ⟨w,hw,rw'⟩:=r.get (i:=m) (x:=.bl zs[m]) (by rw [getElem?_map,getElem?_eq_getElem hz];rfl)
  have rw2:w = .bool zs[m]:=rw'
  subst rw2
  refine ⟨zs[m],getElem?_eq_getElem hz,?_⟩
  rw [getElem?_eq_getElem hm'] at hw
  simpa using Option.some.inj hw
 have hjz:j < its.toArray.size:=by
  have:=r.length;rw [length_map] at this
  rcases Nat.lt_or_ge j zs.length with z1 | z1
  ·simp;omega
  ·rw [List.getElem?_eq_none z1] at hj;cases hj
 refine call_meets F.slot_list_index ⟨_,e,rfl⟩ F.entry_list_index (F.args_list_index_2 _ _) (SeqAt.list_indexAt l its.toArray n none #[] u (eqU (.bl true)) j hjz (by omega) ?_ fun m hm hmj=>?_) ⟨e,fun y hy=>zHE ru rfl r fl y (by simpa using hy),⟨.int j,H,I.tok _,⟨_,rfl⟩,q⟩⟩
 ·obtain ⟨y,h1,h2⟩:=it j hjz
  rw [hj] at h1;cases h1
  rw [h2];rfl
 ·obtain ⟨y,h1,h2⟩:=it m hm
  rw [h2]
  cases y with
  | true=>exact absurd h1 (hno m hmj)
  | false=>rfl
def rInD (K:W.Frag):R2:=fun x y H Q=>∃ d ds,Dt K H x d/\Dt K H y (.list ds)/\PyData.canLayAll0 ds=true/\d.canLay0=true/\d.depth<=19/\Q (.bl (ds.any fun y=>y.eqv d)) H
theorem zVX (hu:X.A.units+20 < cLine):OpR X (compareOp .In) (rInD X.K):=by
 intro pins s σ H x y v u Q I rx ry h
 obtain ⟨d,ds,h1,h2,c2,c,dp,q⟩:=h
 obtain ⟨as,r1⟩:=zG9 I h1 rx
 obtain ⟨bs,r2⟩:=zG9 I h2 ry
 exact SeqAt.in_list_reads r2 r1 c2 c (by have:=Nat.min_le_right (PyData.depthAll ds) d.depth;omega) ⟨.bl _,H,I,rfl,q⟩
def zV5:R2:=fun x y H Q=>∃ b,x = .bl b/\y = .bl true/\Q (.bl (!b)) H
theorem zRs:OpR X (compareOp .IsNot) zV5:=by
 intro pins s σ H x y v u Q I rx ry h
 obtain ⟨b,rfl,rfl,q⟩:=h
 cases rx
 cases ry
 refine isnot_bool ⟨.bl _,H,I,rfl,?_⟩
 rw [show (b != true) = !b by cases b <;> rfl];exact q
end
theorem zPP {w:Str} {P:Int} (hb:0 < b) (h:a*P=b*k):grid w a b P=k:=by
 unfold grid
 rw [h,Int.mul_emod_right,if_neg (fun z=>absurd z.1 (by decide)),Int.mul_ediv_cancel_left _ (by omega)]
theorem zGy {w:Str} (hS:0 < S):grid w (low1 k S) (low2 k S) S=k:=by
 refine zPP (zK7 hS) ?_
 have h1:=zNu k S
 have h2:=zK1 k S
 have e1:low1 k S*S=low1 k S*(low2 k S*lowS k S):=by rw [h2]
 have e2:low2 k S*k=low2 k S*(low1 k S*lowS k S):=by rw [h1]
 rw [e1,e2];ac_rfl
theorem zOI (hb:0 < b):Int.gcd (low1 t b) (low2 t b)=1:=by
 unfold low1 low2 lowS
 have e0:(0:Int)<=(Int.gcd t b:Int):=by omega
 rw [if_neg (show ¬ b < 0 by omega),Int.fdiv_eq_ediv_of_nonneg _ e0,Int.fdiv_eq_ediv_of_nonneg _ e0]
 exact Int.gcd_ediv_gcd_ediv_gcd (Int.gcd_pos_of_ne_zero_right _ (show b≠0 by omega))
theorem zRB (hS:0 < S) (h1:S < 10000000000000000000000000000000000000000000000000000000000000000000000000000000000000000000000000000000000000000000000000000000000000000000000000000000000000000000000000000000000000000000000) (h2 : -10000000000000000000000000000000000000000000000000000000000000000000000000000000000000000000000000000000000000000000000000000000000000000000000000000000000000000000000000000000000000000000000 < k) (h3:k < 10000000000000000000000000000000000000000000000000000000000000000000000000000000000000000000000000000000000000000000000000000000000000000000000000000000000000000000000000000000000000000000000):GrB (low1 k S) (low2 k S):=zW5 hS h1 h2 h3
def zKO (pl b:Int) (sn:Str) (z:Int) (m pt:Nat) (k:Int):List Nat:=bdI k.natAbs b pl pt z m++stT sn (decide (k < 0))
theorem zTV {n:Int} (o1:1<=fg) (o2:fg<=12) (o3:0<=pl) (o4:pl<=6) (o5:2<=b) (o6:b<=16) (h0:0<=n) (h:LimN fg pl b n):n < 1766847064778384329583297500742918515827483896875618958121606201292619776:=by
 unfold LimN at h
 have a:=pw60 (b:=b) (n:=(fg+pl).toNat) o5 o6 (by omega)
 have e:((b.toNat ^ (fg+pl).toNat:Nat):Int)=b ^ (fg+pl).toNat:=by rw [Int.natCast_pow,Int.toNat_of_nonneg (by omega)]
 omega
inductive VlA (H:Hp) (v:V):Fd->List Nat->List Nat->Prop
 | num {p:Addr} {fg pl b:Int} {sn:Str} {z:Int} {m pt:Nat} {wy:Str} {k:Int} (hv:v = .ref p) (hp:H p=some (.tup [.int (low1 k (b ^ pl.toNat)),.int (low2 k (b ^ pl.toNat))])) (lim:LimN fg pl b k):VlA H v (.num fg pl b sn z m pt wy) (stL sn (decide (k < 0))) (zKO pl b sn z m pt k)
 | word {sg:List Nat} {lo hi:Int} {t:List Nat} (hv:v = .str (T t)) (iw:Isw sg lo hi t):VlA H v (.word sg lo hi) [] t
 | cho {ns:Ce} {t:List Nat} (hv:v = .str (T t)) (hm:t ∈ ns):VlA H v (.cho ns) [] t
variable {rs:List Nat}
theorem VlA.same (g:Same H H') (h:VlA H v d ld rs):VlA H' v d ld rs:=by
 cases h with
 | num hv hp lim=>exact .num hv (g.at hp) lim
 | word hv iw=>exact .word hv iw
 | cho hv hm=>exact .cho hv hm
def okS (wd:Int) (f:Nat) (x:Str):Fd->Prop
 | .num fg pl b sn z m pt wy=>NumS fg pl b sn z m pt wy wd f x
 | .word sg lo hi=>WdS sg lo hi wd f x
 | .cho ns=>ChS ns wd f x
theorem FdAt.okS {o:Addr} (h:FdAt K H o cN cW cC wd f x st d):okS wd f x d:=by
 cases h <;> assumption
theorem VlA.ok (D:okS wd f x d) (h:VlA H v d ld rs):ld.length<=2/\rs.length<=200/\Asc ld/\Asc rs:=by
 cases h with
 | @num q fg pl b sn z m pt wy k hv hp lim =>
  have ok:NumS fg pl b sn z m pt wy wd f x:=D
  obtain ⟨nb,n2,n3,n4⟩:=zJV ok lim
  have sl:=zIz ok.sn (decide (k < 0))
  have sa:=zMC ok.sn (decide (k < 0))
  have bs:=zJM (z:=z.toNat) (b:=b.toNat) (p:=pl.toNat) (n:=(k.natAbs:Int).toNat) (by have:=ok.b1;omega) (by have:=ok.b2;omega) (by have:=ok.pl2;omega) nb.2.2.2.2.2 ok.pt ok.m
  refine ⟨by omega,?_,sa.1,?_⟩
  ·unfold zKO bdI;rw [length_append];have:=bs.2.2;omega
  ·unfold zKO bdI;exact bs.2.1.app sa.2
 | @word sg lo hi t hv iw =>
  have ok:WdS sg lo hi wd f x:=D
  have h1:=iw.1.2;have h2:=ok.hi2
  exact ⟨by decide,by omega,Asc.nil,fun c hc=>ok.sa c (iw.2 c hc)⟩
 | @cho ns t hv hm =>
  have ok:ChS ns wd f x:=D
  exact ⟨by decide,le_trans (ok.len _ hm) (by decide),Asc.nil,ok.ta _ hm⟩
theorem zRb {b p pt:Nat} (h2:2<=b) (h16:b<=16) (hp:p<=6) (h:n < b ^ (40+p)):IsB b p pt z m (bdy b p pt z m n)/\bval b p z (bdy b p pt z m n)=n:=by
 obtain ⟨d1,d2,d3,d4,d5⟩:=zEn h2 h16 hp h
 have ul:(whl b p n).length=(dgs b p n).length - p:=by unfold whl;rw [length_take];omega
 have rl:(rst b p n).length=p:=by unfold rst;rw [length_drop];omega
 have ur:whl b p n++rst b p n=dgs b p n:=take_append_drop _ _
 generalize hu:whl b p n=u at *
 generalize hr:rst b p n=r at *
 generalize dgs b p n=D at *
 have key:WE p pt (bdy b p pt z m n)/\zC8 p (bdy b p pt z m n)=gr z m u/\zH8 p (bdy b p pt z m n)=r:=by
  unfold bdy WE zC8 zH8
  rw [hu,hr]
  rcases eq_zero_or_pos p with e | e
  ·subst e
   rw [if_pos rfl]
   exact ⟨.inl rfl,rfl,(List.length_eq_zero_iff.mp rl).symm⟩
  ·rw [if_neg (by omega),if_neg (by omega),if_neg (by omega)]
   have tl:(gr z m u++[pt]++r).length=(gr z m u).length+1+p:=by rw [length_append,length_append,rl];rfl
   rw [tl]
   have e1:(gr z m u).length+1+p - p - 1=(gr z m u).length:=by omega
   have e2:(gr z m u).length+1+p - p=(gr z m u++[pt]).length:=by rw [length_append,length_singleton];omega
   refine ⟨.inr ⟨by omega,?_⟩,?_,?_⟩
   ·rw [e1,append_assoc,getD_eq_getElem?_getD,List.getElem?_append_right (Nat.le_refl _),Nat.sub_self];rfl
   ·rw [e1,append_assoc,take_left]
   ·rw [e2,drop_left]
 obtain ⟨k1,k2,k3⟩:=key
 unfold IsB bval
 rw [k2,k3,zMu,ur]
 refine ⟨⟨k1,⟨by rw [zMu];omega,by rw [zMu];omega,by rw [zMu]⟩,d1,?_⟩,d2⟩
 rintro ⟨a,c⟩
 have:D.getD 0 0=48:=by rw [<- ur,getD_eq_getElem?_getD,List.getElem?_append_left (by omega),<- getD_eq_getElem?_getD];exact c
 have:=d5 this
 omega
theorem zQm {B:List Nat}:bod sn bl (sg sn bl B)=B:=by
 unfold bod sg
 rw [length_append,Nat.add_sub_cancel,take_left,drop_left]
theorem zBw {z:Int} {pt:Nat}:zCh pl b sn z m pt k=stL sn (decide (k < 0))++zKO pl b sn z m pt k:=by unfold zCh sg zKO;rw [append_assoc]
theorem zPX {z:Int} {pt:Nat} (ok:NumS fg pl b sn z m pt wy wd f x) (h:LimN fg pl b k):zBj fg pl b sn z m pt (decide (k < 0)) (zCh pl b sn z m pt k)=some k:=by
 obtain ⟨nb,n2,n3,n4⟩:=zJV ok h
 obtain ⟨B,rfl⟩:=eq_ofNat_of_zero_le (show 0<=b by have:=ok.b1;omega)
 have o5:=ok.b1;have o6:=ok.b2;have o4:=ok.pl2;have o3:=ok.pl1
 have nb6:=nb.2.2.2.2.2
 rw [toNat_natCast,toNat_natCast] at nb6
 obtain ⟨i1,i2⟩:=zRb (b:=B) (p:=pl.toNat) (pt:=pt) (z:=z.toNat) (m:=m) (n:=k.natAbs) (by omega) (by omega) (by omega) nb6
 have eb:bod sn (decide (k < 0)) (zCh pl B sn z m pt k)=bdy B pl.toNat pt z.toNat m k.natAbs:=by
  unfold zCh;rw [zQm];unfold bdI;rw [toNat_natCast,toNat_natCast]
 have pe:((B ^ (fg+pl).toNat:Nat):Int)=(B:Int) ^ (fg+pl).toNat:=Int.natCast_pow ..
 unfold LimN at h
 rw [toNat_natCast] at h
 unfold zBj
 rw [eb,i2,if_pos ⟨n2,i1,by omega,fun e=>by have:=of_decide_eq_true e;omega⟩]
 by_cases e:k < 0
 ·rw [if_pos (decide_eq_true e)];congr 1;omega
 ·rw [if_neg (by simpa using e)];congr 1;omega
theorem zQR (hf:f < 127):Asc (List.replicate n f):=fun c hc=>by rw [(List.mem_replicate.mp hc).2];exact hf
theorem zP2 {t:List Nat} (h:Asc t) (hf:f < 127):Asc (pad t wd f x):=((zQR hf).app h).app (zQR hf)
theorem zT6 (sx:zJv x) (w0:0<=wd) (hw:wd<=40) (hf:f < 127) (l1:ld.length<=2) (l2:rs.length<=200) (a1:Asc ld) (a2:Asc rs):Asc (nfil ld (ld++rs) wd f x)/\(nfil ld (ld++rs) wd f x).length<=300:=by
 unfold nfil
 split
 ·rw [drop_left]
  have pl:=zJc (f:=f) (zDa (x:="right") (n:=rs.length) (w:=wd - ld.length) (.inr (.inl rfl)) (by omega) (by omega))
  have b2:=zIj rs.length (wd - ld.length) (by omega) (by omega)
  exact ⟨a1.app (zP2 a2 hf),by rw [length_append];omega⟩
 ·rename_i hc
  have sx':Side x:=sx.elim id fun z=>absurd z hc
  have pl:=zJc (f:=f) (zDa (x:=x) (n:=(ld++rs).length) (w:=wd) sx' (by omega) hw)
  have b2:=zIj (ld++rs).length wd (by omega) hw
  rw [length_append] at pl b2
  exact ⟨zP2 (a1.app a2) hf,by omega⟩
def sD (t:List Nat):PyData:=.str (T t)
theorem zXt {K:PySem.W.Frag} {o:Addr} (F:FdAt K H o cN cW cC wd f x st d) (W:VlA H v d ld rs):CoA K H o v cN cW cC wd f x st (ld++rs) ld:=by
 have ok:=W.ok F.okS
 cases W with
 | @num p fg pl b sn z m pt wy k hv hp lim =>
  cases F with
  | num F ok =>
   have o1:=ok.fg1;have o2:=ok.fg2;have o3:=ok.pl1;have o4:=ok.pl2;have o5:=ok.b1;have o6:=ok.b2
   have pw:=pw6 (b:=b) (t:=pl) o5 o6 o4
   have lm:=zTV (n:=(k.natAbs:Int)) o1 o2 o3 o4 o5 o6 (by omega) (by unfold LimN at *;rw [natAbs_natCast];exact lim)
   rw [<- zBw]
   exact .num hv F ok hp (zRB (by omega) (by omega) (by omega) (by omega)) (zOI (by omega)) (zGy (by omega)) lim
 | @word sg lo hi t hv iw =>
  cases F with
  | word F o=>exact .word hv F (by rw [nil_append];omega) iw o.x
 | @cho ns t hv hm =>
  cases F with
  | cho F e o=>exact .cho hv F e (by rw [nil_append];omega) hm o.x
def rD (S k:Int):PyData:=.tuple [.int (low1 k S),.int (low2 k S)]
theorem zOG (e:X.K=K):IxR X (rIxL K):=e ▸ zAv
def fitB (c:Ce) (t:List Nat):Bool:=decide (t.length=c.length) && (List.range c.length).all fun k=>decide (t.getD k 0 ∈ c.getD k [])
def zHh (K:W.Frag):Sp:=fun vs H Q _=>∃ (l:Addr) (c:Ce) (t:List Nat),vs=[.ref l,.str (T t)]/\H l=some (.lst (tsV c))/\c.length<=500/\t.length<=600 /\ ∀ H',Same H H'->Q (.bl (fitB c t)) H'
theorem zOE {c:Ce} {t:List Nat} (h1:H l=some (.lst (tsV c))) (h2:c.length<=500) (h3:t.length<=600) (q : ∀ H',Same H H'->Q (.bl (fitB c t)) H'):zHh K ([.ref l,.str (T t)]++[]) H Q E:=⟨l,c,t,rfl,h1,h2,h3,q⟩
theorem zWy {c:Ce} {t:List Nat} (h : ¬ t.length=c.length):fitB c t=false:=by unfold fitB;rw [decide_eq_false h];rfl
def fbs (c:Ce) (t:List Nat) (i:Nat):List Bool:=(List.range i).map fun k=>decide (t.getD k 0 ∈ c.getD k [])
theorem zUS {c:Ce} {t:List Nat} (h:t.length=c.length):fitB c t=(fbs c t c.length).all id:=by
 unfold fitB fbs
 rw [decide_eq_true h,Bool.true_and,List.all_map];rfl
theorem zSS {c:Ce} {t:List Nat} {i:Nat}:fbs c t (i+1)=fbs c t i++[decide (t.getD i 0 ∈ c.getD i [])]:=by
 unfold fbs;rw [range_succ,map_append];rfl
theorem zUO {c:Ce} {t:List Nat} {i:Nat}:(fbs c t i).length=i:=by unfold fbs;rw [length_map,length_range]
theorem zTg (F:Fun K "fits" "fits" zOA fq fd) (B:Blt mg):FnOk P w K mg base CX0 1 fq fd ["look", "text"] (zHh K):=by
 refine F.ok zU6 (fun vs H Q E h=>?_) (fun cdv A outer s H vs Q E hr h=>?_)
 ·obtain ⟨l,c,t,rfl,h1,h2,h3,q⟩:=h
  rfl
 obtain ⟨l,c,t,rfl,h1,h2,h3,q⟩:=h
 refine ⟨_,zAF (zBN (zAW zIq (zAL zA6 B.vAA rfl zBF (zAA (pv 1) (zAE))) (zAL zBR B.vAA rfl zBF (zAA (pv 0) (zAE))) (zAZ _)) (zAJ (zAO (zEz))) (zAY))
  (zAJ (zAO (zAL (zL7 rfl) B.vAL rfl zTD (zAA (zDF (cl:=[("text", s.heap.objs.size+1+1),("look", s.heap.objs.size+1+0)]) (fr:=["look", "text"]) (is:=[0,1]) rfl rfl ⟨rfl,⟨rfl,trivial⟩⟩ rfl ⟨⟨rfl,rfl,Or.inl rfl⟩,⟨⟨rfl,rfl,Or.inl rfl⟩,trivial⟩⟩ (by decide) (by decide +kernel) rfl (by decide +kernel) rfl (zDm rfl B.vAB (zAA (zAL zBR B.vAA rfl zBF (zAA (pv 0) (zAE))) (zAE))) (fun _ _ _ _=>zCn) (fun _ _ _ _=>zBu zOH (zAb zER (pv 2) (pv 0) (fun _ _=>rfl)) (zAb (zOG (K:=K) rfl) (pv 1) (pv 0) (fun _ _=>rfl)) (by with_unfolding_all rfl))) (zAE))))),?_⟩
 walk_at "st"
 walk_at "rd"
 ·rename_i hc
  refine zKI (by omega) (by omega) (Nat.le_of_lt (zBm (by omega))) (fun i ys H'=>H'=H/\ys=(fbs c t i).map V.bl) ⟨rfl,rfl⟩ (fun i ys H' _ zz=>by rw [zz.2,length_map,zUO];omega) ?_ ?_
  ·rintro i ys H' hi ⟨rfl,rfl⟩
   have e0:(0+(i:Int)).toNat=i:=by omega
   walk_at "rd"
   refine nxC hi ⟨rfl,?_⟩
   rw [zSS,map_append,e0];rfl
  ·rintro ys H' ⟨rfl,rfl⟩ p H2 g2 n2 e2
   rw [toNat_natCast] at e2
   walk_at "rd"
   rw [<- zUS (by omega)]
   exact q _ g2
 ·rename_i hc
  have q':=q _ (Same.refl _)
  rw [zWy (by omega)] at q'
  exact q'
def NeC (c:Ce):Prop:=∀ t ∈ c,1<=t.length/\t.length<=200/\Asc t
theorem NeC.nil:NeC []:=fun _ h=>nomatch h
theorem NeC.app {a b:Ce} (h:NeC a) (k:NeC b):NeC (a++b):=fun t ht=>(List.mem_append.mp ht).elim (h t) (k t)
theorem NeC.one {t:List Nat} (h:1<=t.length) (h2:t.length<=200) (h3:Asc t):NeC [t]:=fun u hu=>by rw [List.mem_singleton.mp hu];exact ⟨h,h2,h3⟩
theorem NeC.rep {t:List Nat} (h:1<=t.length) (h2:t.length<=200) (h3:Asc t) (n:Nat):NeC (List.replicate n t):=fun u hu=>by rw [(List.mem_replicate.mp hu).2];exact ⟨h,h2,h3⟩
theorem NeC.chs {l:List Nat} (h:Asc l):NeC (chs l):=fun t ht=>by
 obtain ⟨c,hc,rfl⟩:=List.mem_map.mp ht
 exact ⟨by simp,by simp,Asc.one (h c hc)⟩
theorem NeC.take {a:Ce} (h:NeC a) (n:Nat):NeC (a.take n):=fun t ht=>h t (mem_of_mem_take ht)
theorem NeC.drop {a:Ce} (h:NeC a) (n:Nat):NeC (a.drop n):=fun t ht=>h t (List.mem_of_mem_drop ht)
theorem zUY {a:Ce} (hz:z≠0) : ∀ (n e:Nat),e<=n -> ∀ p ∈ pcA a z e,∀ t ∈ p,t ∈ a:=by
 intro n
 induction n with
 | zero=>intro e h p hp;rw [show e=0 by omega,zDe] at hp;cases hp
 | succ n ih =>
  intro e h p hp t ht
  by_cases he:e=0
  ·rw [he,zDe] at hp;cases hp
  ·rw [zIg he hz] at hp
   rcases List.mem_append.mp hp with hp | hp
   ·exact ih (e - z) (by omega) p hp t ht
   ·rw [List.mem_singleton.mp hp] at ht
    exact mem_of_mem_take (List.mem_of_mem_drop ht)
theorem NeC.gcs {m:List Nat} {a:Ce} (hm:1<=m.length) (hm2:m.length<=200) (hm3:Asc m) (ha:NeC a):NeC (gcs z m a):=by
 unfold Pw.gcs
 split
 ·exact ha
 ·rename_i hz
  refine NeC.drop (fun t ht=>?_) _
  obtain ⟨p,hp,ht⟩:=List.mem_flatten.mp ht
  obtain ⟨r,hr,rfl⟩:=List.mem_map.mp hp
  rcases List.mem_cons.mp ht with rfl | ht
  ·exact ⟨hm,hm2,hm3⟩
  ·exact ha t (zUY hz _ _ (Nat.le_refl _) r hr t ht)
theorem NeC.sgc {z:Int} {pt:Nat} {b:Bool} (hs:zEN sn) (hm:m < 127) (hp:pt < 127) (h:NeC row):NeC (sgc pl sn z m pt b row).1/\NeC (sgc pl sn z m pt b row).2:=by
 refine ⟨.chs (zMC hs b).1,NeC.app ?_ (.chs (zMC hs b).2)⟩
 unfold bcs
 split
 ·exact .gcs (by simp) (by simp) (Asc.one hm) (h.take _)
 ·exact ((NeC.gcs (by simp) (by simp) (Asc.one hm) (h.take _)).app (.one (by simp) (by simp) (Asc.one hp))).app (h.drop _)
theorem zUo (h1:2<=b) (h2:b<=16):2<=(evs b).length/\(evs b).length<=16:=by
 have l16:(Lt "0123456789abcdef").length=16:=by decide +kernel
 unfold evs
 rw [length_take,l16];omega
theorem zVO {o:Addr} (h:FdAt K H o cN cW cC wd f x st d) : ∀ c ∈ cors d,NeC c.1/\NeC c.2:=by
 cases h with
 | @num fg pl b sn z m pt wy F ok =>
  obtain ⟨e1,e2⟩:=zUo ok.b1 ok.b2
  have ea:Asc (evs b):=Asc.take (by unfold Asc;decide +kernel) _
  have d1:1<=((evs b).drop 1).length:=by rw [length_drop];omega
  have d2:((evs b).drop 1).length<=200:=by rw [length_drop];omega
  intro c hc
  have hc:c ∈ ncs fg pl b sn z m pt:=hc
  unfold ncs at hc
  rcases List.mem_append.mp hc with hc | hc
  ·obtain ⟨r,hr,rfl⟩:=List.mem_map.mp hc
   obtain ⟨i,hi,rfl⟩:=List.mem_map.mp hr
   refine NeC.sgc ok.sn ok.m ok.pt ?_
   unfold rwN
   refine NeC.app (a:=[_]) (NeC.one ?_ ?_ ?_) (NeC.rep (by omega) (by omega) ea _)
   ·split <;> omega
   ·split <;> omega
   ·split
    ·exact ea
    ·exact ea.drop _
  ·obtain ⟨r,hr,rfl⟩:=List.mem_map.mp hc
   obtain ⟨i,hi,rfl⟩:=List.mem_map.mp hr
   refine NeC.sgc ok.sn ok.m ok.pt ?_
   unfold rwB
   exact ((NeC.rep (by simp) (by simp) (Asc.one (by decide)) _).app (NeC.one d1 d2 (ea.drop _))).app (NeC.rep (by omega) (by omega) ea _)
 | @word sg lo hi F ok =>
  intro c hc
  obtain ⟨i,hi,rfl⟩:=List.mem_map.mp (show c ∈ List.map _ (List.range (hi+1 - lo).toNat) from hc)
  exact ⟨.nil,.rep ok.s1 ok.s2 ok.sa _⟩
 | @cho L ns F e ok =>
  intro c hc
  obtain ⟨n,hn,rfl⟩:=List.mem_map.mp (show c ∈ List.map _ ns from hc)
  exact ⟨.nil,.chs (ok.ta n hn)⟩
theorem zOU {o:Addr} (h:FdAt K H o cN cW cC wd f x st d):(lks wd f x st d).length<=100 /\ ∀ c ∈ lks wd f x st d,NeC c/\c.length<=500:=by
 obtain ⟨_,_,_,sx,w0,w1⟩:=h.bd
 have hf:f < 127:=by cases h with | num F ok=>exact ok.f | word F ok=>exact ok.f | cho F e ok=>exact ok.f
 obtain ⟨cl,cb⟩:=zMw h
 have cn:=zVO h
 refine ⟨?_,fun c hc=>?_⟩
 ·unfold lks
  rw [length_map]
  exact le_trans (length_filter_le _ _) cl
 ·obtain ⟨r,hr,rfl⟩:=List.mem_map.mp hc
  have hr:=(List.mem_filter.mp hr).1
  obtain ⟨b1,b2⟩:=cb r hr
  obtain ⟨n1,n2⟩:=cn r hr
  have lr:=zIj ((r.1.length:Int)+r.2.length) wd (by omega) w1
  have f1 : ∀ n,NeC (List.replicate n [f]):=fun n=>NeC.rep (by simp) (by simp) (Asc.one hf) n
  unfold flk
  split
  ·refine ⟨(n1.app (f1 _)).app n2,?_⟩
   rw [pAr]
   simp only [length_append,length_replicate];omega
  ·rename_i hx
   have sx':Side x:=sx.elim id fun z=>absurd z hx
   obtain ⟨p1,p2,p3,_⟩:=zDa (n:=(r.1.length:Int)+r.2.length) sx' (by omega) w1
   have e4:pB x ((r.1.length:Int)+r.2.length) wd=lk ((r.1.length:Int)+r.2.length) wd - pA x ((r.1.length:Int)+r.2.length) wd:=rfl
   refine ⟨(((f1 _).app n1).app n2).app (f1 _),?_⟩
   simp only [length_append,length_replicate];omega
def Fit:Ce->List Nat->Prop
 | [],[]=>True
 | c::cs,x::t=>x ∈ c/\Fit cs t
 | _,_=>False
theorem Fit.len : ∀ {cs:Ce} {t:List Nat},Fit cs t->t.length=cs.length
 | [],[],_=>rfl
 | _::_,_::_,h=>by rw [length_cons,length_cons,Fit.len h.2]
 | [],_::_,h=>h.elim
 | _::_,[],h=>h.elim
theorem zB7 : ∀ {a:Ce} {s:List Nat} {b:Ce} {t:List Nat},s.length=a.length->(Fit (a++b) (s++t)↔Fit a s/\Fit b t)
 | [],[],_,_,_=>⟨fun h=>⟨trivial,h⟩,fun h=>h.2⟩
 | _::a,_::s,b,t,e=>by
  have ih:=zB7 (a:=a) (s:=s) (b:=b) (t:=t) (Nat.succ.inj e)
  exact ⟨fun h=>⟨⟨h.1,(ih.mp h.2).1⟩,(ih.mp h.2).2⟩,fun h=>⟨h.1.1,ih.mpr ⟨h.1.2,h.2⟩⟩⟩
 | [],_::_,_,_,e=>by simp at e
 | _::_,[],_,_,e=>by simp at e
theorem Fit.cut {a b:Ce} {t:List Nat} (h:Fit (a++b) t) : ∃ s u,t=s++u/\s.length=a.length/\Fit a s/\Fit b u:=by
 have hl:=h.len
 rw [length_append] at hl
 have hs:(t.take a.length).length=a.length:=by rw [length_take];omega
 have h':Fit (a++b) (t.take a.length++t.drop a.length):=by rw [take_append_drop];exact h
 obtain ⟨h1,h2⟩:=(zB7 hs).mp h'
 exact ⟨_,_,(take_append_drop _ _).symm,hs,h1,h2⟩
theorem zFx : ∀ {cs:Ce} {t:List Nat},fitB cs t=true↔Fit cs t
 | [],[]=>⟨fun _=>trivial,fun _=>rfl⟩
 | [],_::_=>⟨fun h=>by simp [fitB] at h,fun h=>h.elim⟩
 | _::_,[]=>⟨fun h=>by simp [fitB] at h,fun h=>h.elim⟩
 | c::cs,x::t=>by
  have ih:=zFx (cs:=cs) (t:=t)
  unfold fitB at *
  rw [Bool.and_eq_true,decide_eq_true_iff,List.all_eq_true] at *
  constructor
  ·rintro ⟨h1,h2⟩
   refine ⟨?_,ih.mp ⟨by simpa using h1,fun k hk=>?_⟩⟩
   ·have:=h2 0 (List.mem_range.mpr (by simp))
    simpa using this
   ·have:=h2 (k+1) (List.mem_range.mpr (by have:=List.mem_range.mp hk;simp;omega))
    simpa using this
  ·rintro ⟨h1,h2⟩
   obtain ⟨i1,i2⟩:=ih.mpr h2
   refine ⟨by simpa using i1,fun k hk=>?_⟩
   cases k with
   | zero=>simpa using h1
   | succ k =>
    have:=i2 k (List.mem_range.mpr (by have:=List.mem_range.mp hk;simp at this;omega))
    simpa using this
theorem zGm : ∀ {l t:List Nat},Fit (chs l) t↔t=l
 | [],[]=>⟨fun _=>rfl,fun _=>trivial⟩
 | [],_::_=>⟨fun h=>h.elim,fun h=>by cases h⟩
 | _::_,[]=>⟨fun h=>h.elim,fun h=>by cases h⟩
 | c::l,x::t=>by
  have ih:=zGm (l:=l) (t:=t)
  show x ∈ [c]/\Fit (chs l) t↔x::t=c::l
  rw [ih,List.mem_singleton,List.cons.injEq]
theorem zIm : ∀ {n:Nat} {c t:List Nat},Fit (List.replicate n c) t↔t.length=n /\ ∀ x ∈ t,x ∈ c
 | 0,_,[]=>⟨fun _=>⟨rfl,fun _ h=>nomatch h⟩,fun _=>trivial⟩
 | 0,_,_::_=>⟨fun h=>h.elim,fun h=>by simp at h⟩
 | _+1,_,[]=>⟨fun h=>h.elim,fun h=>by simp at h⟩
 | n+1,c,x::t=>by
  have ih:=zIm (n:=n) (c:=c) (t:=t)
  rw [List.replicate_succ]
  show x ∈ c/\Fit (List.replicate n c) t↔_
  rw [ih]
  simp only [length_cons,Nat.add_right_cancel_iff,mem_cons,forall_eq_or_imp]
  exact ⟨fun h=>⟨h.2.1,h.1,h.2.2⟩,fun h=>⟨h.2.1,h.1,h.2.2⟩⟩
theorem zPh : ∀ xs:List (List Nat),jn [m] xs=((xs.map fun p=>m::p).flatten).drop 1
 | []=>rfl
 | x::xs=>by unfold jn;simp
theorem zRZ (hz:0 < z) {a b:List Nat} : ∀ (n e:Nat),e<=n->a.take e=b.take e->pcs a z 0 e=pcs b z 0 e:=by
 intro n
 induction n with
 | zero=>intro e h _;rw [show e=0 by omega,zBv,zBv]
 | succ n ih =>
  intro e h he
  by_cases e0:e=0
  ·rw [e0,zBv,zBv]
  ·have h2:a.take (e - z - 0)=b.take (e - z - 0):=by
    have:=congrArg (List.take (e - z - 0)) he
    rw [take_take,take_take,min_eq_left (show e - z - 0<=e by omega)] at this
    exact this
   rw [zE5 hz (show 0 < e by omega),zE5 (a:=b) hz (show 0 < e by omega),ih (e - z - 0) (by omega) h2,he]
def mA (z:Nat) (m:List Nat) (row:Ce) (e:Nat):Ce:=((pcA row z e).map fun p=>m::p).flatten
def mS (z m:Nat) (D:List Nat) (e:Nat):List Nat:=((pcs D z 0 e).map fun p=>m::p).flatten
variable {D:List Nat}
theorem zXs (hz:0 < z) (hl:D.length=row.length) : ∀ (n e:Nat),e<=n->e<=row.length->(mS z m D e).length=(mA z [m] row e).length/\(Fit (mA z [m] row e) (mS z m D e)↔Fit (row.take e) (D.take e)):=by
 intro n
 induction n with
 | zero=>intro e h _;rw [show e=0 by omega];unfold mA mS;rw [zDe,zBv];simp [Fit]
 | succ n ih =>
  intro e h he
  by_cases e0:e=0
  ·rw [e0];unfold mA mS;rw [zDe,zBv];simp [Fit]
  ·obtain ⟨i1,i2⟩:=ih (e - z) (by omega) (by omega)
   have eA:mA z [m] row e=mA z [m] row (e - z)++([m]::(row.take e).drop (e - z)):=by unfold mA;rw [zIg e0 (by omega)];simp
   have eS:mS z m D e=mS z m D (e - z)++(m::(D.take e).drop (e - z)):=by unfold mS;rw [zE5 hz (by omega)];simp
   have r1:row.take e=row.take (e - z)++(row.take e).drop (e - z):=by
    conv=>lhs;rw [<- take_append_drop (e - z) (row.take e)]
    rw [take_take,min_eq_left (by omega)]
   have d1:D.take e=D.take (e - z)++(D.take e).drop (e - z):=by
    conv=>lhs;rw [<- take_append_drop (e - z) (D.take e)]
    rw [take_take,min_eq_left (by omega)]
   refine ⟨by rw [eA,eS];simp only [length_append,length_cons,length_drop,length_take];omega,?_⟩
   rw [eA,eS,zB7 i1,i2,r1,d1,zB7 (by rw [length_take,length_take];omega)]
   rw [<- r1,<- d1]
   refine and_congr Iff.rfl ⟨fun h=>h.2,fun h=>⟨List.mem_singleton.mpr rfl,h⟩⟩
theorem zPu {m:List Nat} (hz:0 < z) : ∀ (n e:Nat),e<=n->0 < e -> ∃ r,mA z m row e=m::r:=by
 intro n
 induction n with
 | zero=>intro e h h0;omega
 | succ n ih =>
  intro e h h0
  have eA:mA z m row e=mA z m row (e - z)++(m::(row.take e).drop (e - z)):=by unfold mA;rw [zIg (by omega) (by omega)];simp
  rcases eq_zero_or_pos (e - z) with k | k
  ·rw [eA,k];unfold mA;rw [zDe];exact ⟨_,rfl⟩
  ·obtain ⟨r,hr⟩:=ih (e - z) (by omega) k
   rw [eA,hr];exact ⟨_,rfl⟩
theorem zUj (hz:0 < z) : ∀ (n e:Nat),e<=n->0 < e -> ∃ r,mS z m D e=m::r:=by
 intro n
 induction n with
 | zero=>intro e h h0;omega
 | succ n ih =>
  intro e h h0
  have eS:mS z m D e=mS z m D (e - z)++(m::(D.take e).drop (e - z)):=by unfold mS;rw [zE5 hz (by omega)];simp
  rcases eq_zero_or_pos (e - z) with k | k
  ·rw [eS,k];unfold mS;rw [zBv];exact ⟨_,rfl⟩
  ·obtain ⟨r,hr⟩:=ih (e - z) (by omega) k
   rw [eS,hr];exact ⟨_,rfl⟩
theorem zQg (hl:D.length=row.length) (h1:0 < row.length):Fit (gcs z [m] row) (gr z m D)↔Fit row D:=by
 unfold gcs
 split
 ·rename_i hz;rw [hz,zGf]
 ·rename_i hz
  have z0:0 < z:=by omega
  rw [<- zVQ z0,zPh]
  obtain ⟨_,i⟩:=zXs (m:=m) z0 hl row.length row.length (Nat.le_refl _) (Nat.le_refl _)
  rw [take_length,<- hl,take_length] at i
  obtain ⟨r,hr⟩:=zPu (m:=[m]) (row:=row) z0 row.length row.length (Nat.le_refl _) h1
  obtain ⟨s,hs⟩:=zUj (m:=m) (D:=D) z0 D.length D.length (Nat.le_refl _) (by omega)
  show Fit ((mA z [m] row row.length).drop 1) ((mS z m D D.length).drop 1)↔_
  rw [<- i,hl,hr,<- hl,hs]
  exact ⟨fun h=>⟨List.mem_singleton.mpr rfl,h⟩,fun h=>h.2⟩
theorem ex_m (hz:0 < z) : ∀ (n e:Nat),e<=n->e<=row.length -> ∀ t,Fit (mA z [m] row e) t -> ∃ D:List Nat,D.length=e/\t=mS z m D e:=by
 intro n
 induction n with
 | zero =>
  intro e h _ t ht
  obtain rfl:e=0:=by omega
  unfold mA at ht;rw [zDe] at ht
  cases t with
  | nil=>exact ⟨[],rfl,by unfold mS;rw [zBv];rfl⟩
  | cons x t=>exact ht.elim
 | succ n ih =>
  intro e h he t ht
  by_cases e0:e=0
  ·subst e0
   unfold mA at ht;rw [zDe] at ht
   cases t with
   | nil=>exact ⟨[],rfl,by unfold mS;rw [zBv];rfl⟩
   | cons x t=>exact ht.elim
  ·have eA:mA z [m] row e=mA z [m] row (e - z)++([m]::(row.take e).drop (e - z)):=by unfold mA;rw [zIg e0 (by omega)];simp
   rw [eA] at ht
   obtain ⟨s,u,rfl,hs,f1,f2⟩:=ht.cut
   obtain ⟨D,dl,rfl⟩:=ih (e - z) (by omega) (by omega) s f1
   cases u with
   | nil=>exact f2.elim
   | cons x u =>
    have hx:x=m:=List.mem_singleton.mp f2.1
    have ul:=f2.2.len
    rw [length_drop,length_take] at ul
    refine ⟨D++u,by rw [length_append];omega,?_⟩
    have eS:mS z m (D++u) e=mS z m (D++u) (e - z)++(m::((D++u).take e).drop (e - z)):=by unfold mS;rw [zE5 hz (by omega)];simp
    rw [eS,hx]
    have p1:mS z m (D++u) (e - z)=mS z m D (e - z):=by
     unfold mS
     rw [zRZ hz (e - z) (e - z) (Nat.le_refl _) (show (D++u).take (e - z)=D.take (e - z) by rw [<- dl,take_left,take_length])]
    rw [p1,take_of_length_le (by rw [length_append];omega),<- dl,drop_left]
theorem zPr {t:List Nat} (h1:0 < row.length):Fit (gcs z [m] row) t ↔ ∃ D:List Nat,D.length=row.length/\Fit row D/\t=gr z m D:=by
 constructor
 ·intro h
  have h0:=h
  unfold gcs at h
  split at h
  ·rename_i hz;exact ⟨t,h.len,h,by rw [hz,zGf]⟩
  ·rename_i hz
   have z0:0 < z:=by omega
   obtain ⟨r,hr⟩:=zPu (m:=[m]) (row:=row) z0 row.length row.length (Nat.le_refl _) h1
   have h':Fit (mA z [m] row row.length) (m::t):=by
    have h2:Fit ((mA z [m] row row.length).drop 1) t:=h
    rw [hr] at h2 ⊢
    exact ⟨List.mem_singleton.mpr rfl,h2⟩
   obtain ⟨D,dl,e⟩:=ex_m z0 row.length row.length (Nat.le_refl _) (Nat.le_refl _) _ h'
   have e2:t=gr z m D:=by
    rw [<- zVQ z0,zPh,dl]
    show t=(mS z m D row.length).drop 1
    rw [<- e];rfl
   refine ⟨D,dl,?_,e2⟩
   rw [e2] at h0
   exact (zQg dl h1).mp h0
 ·rintro ⟨D,dl,f,rfl⟩
  exact (zQg dl h1).mpr f
def bdD (p pt z m:Nat) (D:List Nat):List Nat:=if p=0 then gr z m D else gr z m (D.take (D.length - p))++[pt]++D.drop (D.length - p)
theorem zK8 {b p pt:Nat}:bdD p pt z m (dgs b p n)=bdy b p pt z m n:=by
 unfold bdD bdy whl rst
 split
 ·rename_i h;rw [h,sub_zero,take_length]
 ·rfl
theorem zQU {z:Int} {pt:Nat} {t:List Nat} (hp:0<=pl) (hr:pl.toNat < row.length):Fit (bcs pl z m pt row) t ↔ ∃ D:List Nat,D.length=row.length/\Fit row D/\t=bdD pl.toNat pt z.toNat m D:=by
 have hc:((row.length:Int) - pl).toNat=row.length - pl.toNat:=by omega
 unfold bcs bdD
 rw [hc]
 by_cases p0:pl=0
 ·subst p0
  rw [if_pos rfl,show Int.toNat 0=0 from rfl,sub_zero,take_length,zPr (by omega)]
  simp
 ·rw [if_neg p0]
  have al:(row.take (row.length - pl.toNat)).length=row.length - pl.toNat:=by rw [length_take];omega
  constructor
  ·intro h
   obtain ⟨s0,u,rfl,l0,f0,f2⟩:=h.cut
   obtain ⟨s,v,rfl,l1,f1,fp⟩:=f0.cut
   obtain ⟨D,dl,fd,rfl⟩:=(zPr (by omega)).mp f1
   have hv:v=[pt]:=by
    match v,fp with
    | [x],fp=>rw [List.mem_singleton.mp fp.1]
    | [],fp=>exact fp.elim
    | _::_::_,fp=>exact fp.2.elim
   have ul:=f2.len
   rw [length_drop] at ul
   refine ⟨D++u,by rw [length_append];omega,?_,?_⟩
   ·have:Fit (row.take (row.length - pl.toNat)++row.drop (row.length - pl.toNat)) (D++u):=(zB7 dl).mpr ⟨fd,f2⟩
    rwa [take_append_drop] at this
   ·rw [if_neg (by omega),length_append,show D.length+u.length - pl.toNat=D.length by omega,take_left,drop_left,hv]
  ·rintro ⟨D,dl,fd,rfl⟩
   rw [if_neg (by omega)]
   have e1:(D.take (D.length - pl.toNat)).length=(row.take (row.length - pl.toNat)).length:=by rw [length_take,length_take];omega
   have fd':Fit (row.take (row.length - pl.toNat)++row.drop (row.length - pl.toNat)) (D.take (D.length - pl.toNat)++D.drop (D.length - pl.toNat)):=by rw [take_append_drop,take_append_drop];exact fd
   obtain ⟨g1,g2⟩:=(zB7 e1).mp fd'
   have h1:Fit (gcs z.toNat [m] (row.take (row.length - pl.toNat))) (gr z.toNat m (D.take (D.length - pl.toNat))):=(zQg e1 (by omega)).mpr g1
   have h2:Fit (gcs z.toNat [m] (row.take (row.length - pl.toNat))++[[pt]]) (gr z.toNat m (D.take (D.length - pl.toNat))++[pt]):=(zB7 h1.len).mpr ⟨h1,List.mem_singleton.mpr rfl,trivial⟩
   exact (zB7 h2.len).mpr ⟨h2,g2⟩
theorem zQF {z:Int} {pt:Nat} {b:Bool} {c:List Nat} (hp:0<=pl) (hr:pl.toNat < row.length):Fit ((sgc pl sn z m pt b row).1++(sgc pl sn z m pt b row).2) c ↔ ∃ D:List Nat,D.length=row.length/\Fit row D/\c=stL sn b++bdD pl.toNat pt z.toNat m D++stT sn b:=by
 show Fit (chs (stL sn b)++(bcs pl z m pt row++chs (stT sn b))) c↔_
 constructor
 ·intro h
  obtain ⟨s,u,rfl,_,f1,f2⟩:=h.cut
  obtain ⟨v,w,rfl,_,f3,f4⟩:=f2.cut
  obtain ⟨D,dl,fd,rfl⟩:=(zQU hp hr).mp f3
  exact ⟨D,dl,fd,by rw [zGm.mp f1,zGm.mp f4,append_assoc]⟩
 ·rintro ⟨D,dl,fd,rfl⟩
  rw [append_assoc]
  have h1:Fit (chs (stL sn b)) (stL sn b):=zGm.mpr rfl
  have h2:Fit (bcs pl z m pt row) (bdD pl.toNat pt z.toNat m D):=(zQU hp hr).mpr ⟨D,dl,fd,rfl⟩
  have h3:Fit (chs (stT sn b)) (stT sn b):=zGm.mpr rfl
  exact (zB7 h1.len).mpr ⟨h1,(zB7 h2.len).mpr ⟨h2,h3⟩⟩
theorem zIK (h1:2<=b) (h2:b<=16) {c:Nat}:(c ∈ evs b↔c < 127/\0<=fv c/\fv c < b)/\(c ∈ (evs b).drop 1↔(c < 127/\0<=fv c/\fv c < b)/\c≠48):=by
 have k0 : ∀ c ∈ Lt "0123456789abcdef", c < 127:=by decide +kernel
 have kA : ∀ b,b < 17 -> ∀ c,c < 127->decide (c ∈ (Lt "0123456789abcdef").take b)=decide (0<=fv c/\fv c < (b:Int)):=by decide +kernel
 have kB : ∀ b,b < 17->2<=b -> ∀ c,c < 127->decide (c ∈ ((Lt "0123456789abcdef").take b).drop 1)=decide ((0<=fv c/\fv c < (b:Int))/\c≠48):=by decide +kernel
 have key : ∀ b:Nat,b < 17->2<=b->(∀ c ∈ (Lt "0123456789abcdef").take b,c < 127) /\ ∀ c,c < 127->((c ∈ (Lt "0123456789abcdef").take b↔0<=fv c/\fv c < (b:Int))/\(c ∈ ((Lt "0123456789abcdef").take b).drop 1↔(0<=fv c/\fv c < (b:Int))/\c≠48)):=fun b hb h2=>⟨fun c hc=>k0 c (mem_of_mem_take hc),fun c hc=>⟨decide_eq_decide.mp (kA b hb c hc),decide_eq_decide.mp (kB b hb h2 c hc)⟩⟩
 obtain ⟨B,rfl⟩:=eq_ofNat_of_zero_le (show 0<=b by omega)
 obtain ⟨k1,k2⟩:=key B (by omega) (by omega)
 unfold evs
 rw [toNat_natCast]
 refine ⟨⟨fun h=>⟨k1 c h,((k2 c (k1 c h)).1).mp h⟩,fun h=>((k2 c h.1).1).mpr h.2⟩,⟨fun h=>?_,fun h=>((k2 c h.1.1).2).mpr ⟨h.1.2,h.2⟩⟩⟩
 have hc:=k1 c (List.mem_of_mem_drop h)
 have:=((k2 c hc).2).mp h
 exact ⟨⟨hc,this.1⟩,this.2⟩
theorem zNn (h1:2<=b) (h2:b<=16) {t:List Nat}:Fit (List.replicate n (evs b)) t↔t.length=n/\FigB b t:=by
 rw [zIm]
 exact and_congr Iff.rfl ⟨fun h c hc=>(zIK h1 h2).1.mp (h c hc),fun h c hc=>(zIK h1 h2).1.mpr (h c hc)⟩
theorem zQY (h1:2<=b) (h2:b<=16) {i:Nat}:Fit (rwN pl (evs b) i) D↔D.length=i+1+pl.toNat/\FigB b D/\(i≠0->D.getD 0 0≠48):=by
 unfold rwN
 cases D with
 | nil=>exact ⟨fun h=>h.elim,fun h=>by have:=h.1;simp at this;omega⟩
 | cons x t =>
  show x ∈ (if i=0 then evs b else (evs b).drop 1)/\Fit (List.replicate (i+pl.toNat) (evs b)) t↔_
  rw [zNn h1 h2]
  have cs:FigB b (x::t)↔(x < 127/\0<=fv x/\fv x < b)/\FigB b t:=by unfold FigB;simp [mem_cons]
  rw [cs,length_cons,show (x::t).getD 0 0=x from rfl]
  split
  ·rename_i hi
   rw [(zIK h1 h2).1]
   exact ⟨fun h=>⟨by omega,⟨h.1,h.2.2⟩,fun z=>absurd hi z⟩,fun h=>⟨h.2.1.1,by omega,h.2.1.2⟩⟩
  ·rename_i hi
   rw [(zIK h1 h2).2]
   exact ⟨fun h=>⟨by omega,⟨h.1.1,h.2.2⟩,fun _=>h.1.2⟩,fun h=>⟨⟨h.2.1.1,h.2.2 hi⟩,by omega,h.2.1.2⟩⟩
theorem zQy (h1:2<=b) (h2:b<=16) {i:Nat}:Fit (rwB pl (evs b) i) D ↔ ∃ F:List Nat,D=List.replicate (pl.toNat - i) 48++F/\F.length=i+1/\FigB b F/\F.getD 0 0≠48:=by
 unfold rwB
 rw [append_assoc]
 constructor
 ·intro h
  obtain ⟨s,u,rfl,_,f1,f2⟩:=h.cut
  obtain ⟨l1,m1⟩:=zIm.mp f1
  have es:s=List.replicate (pl.toNat - i) 48:=List.eq_replicate_iff.mpr ⟨l1,fun x hx=>List.mem_singleton.mp (m1 x hx)⟩
  cases u with
  | nil=>exact f2.elim
  | cons x t =>
   obtain ⟨g1,g2⟩:=f2
   obtain ⟨l2,m2⟩:=(zNn h1 h2).mp g2
   obtain ⟨a1,a2⟩:=(zIK h1 h2).2.mp g1
   refine ⟨x::t,by rw [es],by rw [length_cons,l2],?_,a2⟩
   intro c hc
   rcases List.mem_cons.mp hc with rfl | hc
   ·exact a1
   ·exact m2 c hc
 ·rintro ⟨F,rfl,fl,ff,f0⟩
  have h3:Fit (List.replicate (pl.toNat - i) [48]) (List.replicate (pl.toNat - i) 48):=zIm.mpr ⟨length_replicate,fun x hx=>by rw [(List.mem_replicate.mp hx).2];exact List.mem_singleton.mpr rfl⟩
  refine (zB7 h3.len).mpr ⟨h3,?_⟩
  cases F with
  | nil=>simp at fl
  | cons x t =>
   exact ⟨(zIK h1 h2).2.mpr ⟨ff x (mem_cons_self ..),f0⟩,(zNn h1 h2).mpr ⟨by simpa using fl,fun c hc=>ff c (mem_cons_of_mem _ hc)⟩⟩
theorem zRe {b:Nat} (h2:2<=b) (h16:b<=16):dgs b 0 n=figs b n:=by
 unfold dgs
 have:=(zGi h2 h16 n n (Nat.le_refl _)).2.2.1
 have:1<=(figs b n).length:=List.length_pos_iff.mpr this
 rw [show 0+1 - (figs b n).length=0 by omega];rfl
theorem zRq {b p fg pt i:Nat} (h2:2<=b) (h16:b<=16) (hp:p<=6) (hf:fg<=12) (hi:i < fg) {t:List Nat}:(∃ D:List Nat,D.length=i+1+p/\(FigB b D/\(i≠0->D.getD 0 0≠48))/\t=bdD p pt z m D) ↔ ∃ n:Nat,n < b ^ (fg+p)/\(dgs b p n).length=i+1+p/\t=bdy b p pt z m n:=by
 have mono : ∀ {j k:Nat},j<=k->b ^ j<=b ^ k:=fun h=>pow_le_pow_right (by omega) h
 constructor
 ·rintro ⟨D,dl,⟨fb,f0⟩,rfl⟩
  obtain ⟨v1,v2⟩:=zNB h2 h16 hp fb (by omega) (by omega) (fun e=>by
   by_cases i0:i=0
   ·omega
   ·exact absurd e (f0 i0))
  refine ⟨(val b D).toNat,?_,by rw [v2,dl],by rw [<- zK8 (b:=b),v2]⟩
  obtain ⟨w0,w1⟩:=zMZ (b:=(b:Int)) (by omega) D fb
  have:=mono (show D.length<=fg+p by omega)
  have c1:((b ^ D.length:Nat):Int)=(b:Int) ^ D.length:=by simp
  omega
 ·rintro ⟨n,hn,dl,rfl⟩
  have:=mono (show fg+p<=40+p by omega)
  obtain ⟨d1,d2,d3,d4,d5⟩:=zEn (n:=n) h2 h16 hp (by omega)
  exact ⟨dgs b p n,dl,⟨d1,fun i0 e=>by have:=d5 e;omega⟩,zK8.symm⟩
theorem zQr {b p fg pt i:Nat} (h2:2<=b) (h16:b<=16) (hp:p<=6) (hf:fg<=12) (hi:i < fg+p) {t:List Nat}:(∃ F:List Nat,(F.length=i+1/\FigB b F/\F.getD 0 0≠48)/\t=bdD p pt z m (List.replicate (p - i) 48++F)) ↔ ∃ n:Nat,0 < n/\n < b ^ (fg+p)/\(figs b n).length=i+1/\t=bdy b p pt z m n:=by
 have mono : ∀ {j k:Nat},j<=k->b ^ j<=b ^ k:=fun h=>pow_le_pow_right (by omega) h
 constructor
 ·rintro ⟨F,⟨fl,fb,f0⟩,rfl⟩
  obtain ⟨v1,v2⟩:=zNB (p:=0) h2 h16 (by omega) fb (by omega) (by omega) (fun e=>absurd e f0)
  rw [zRe h2 h16] at v2
  obtain ⟨w0,w1⟩:=zMZ (b:=(b:Int)) (by omega) F fb
  have lo:=zPe (b:=(b:Int)) (by omega) F fb (by omega) f0
  have c1:((b ^ F.length:Nat):Int)=(b:Int) ^ F.length:=by simp
  have c2:((b ^ (F.length - 1):Nat):Int)=(b:Int) ^ (F.length - 1):=by simp
  have p1:0 < b ^ (F.length - 1):=Nat.pow_pos (by omega)
  have:=mono (show F.length<=fg+p by omega)
  refine ⟨(val b F).toNat,by omega,by omega,by rw [v2,fl],?_⟩
  rw [<- zK8 (b:=b)]
  unfold dgs
  rw [v2,fl,show p+1 - (i+1)=p - i by omega]
 ·rintro ⟨n,n0,hn,fl,rfl⟩
  obtain ⟨s1,s2,s3,s4⟩:=zGi h2 h16 n n (Nat.le_refl _)
  refine ⟨figs b n,⟨fl,s1,fun e=>by have:=s4 e;omega⟩,?_⟩
  rw [<- zK8 (b:=b)]
  unfold dgs
  rw [fl,show p+1 - (i+1)=p - i by omega]
def ixK (fg pl b:Int) (k:Int):Nat:=if k < 0 then fg.toNat+((figs b.toNat k.natAbs).length - 1) else (dgs b.toNat pl.toNat k.natAbs).length - 1 - pl.toNat
variable {j:Nat} {q:Ce × Ce}
theorem zM6 {z:Int} {pt:Nat} (hq:(ncs fg pl b sn z m pt)[j]? = some q):(j < fg.toNat/\q=sgc pl sn z m pt false (rwN pl (evs b) j))\/(fg.toNat<=j/\j - fg.toNat < (fg+pl).toNat/\q=sgc pl sn z m pt true (rwB pl (evs b) (j - fg.toNat))):=by
 unfold ncs at hq
 rw [map_map,map_map] at hq
 rcases Nat.lt_or_ge j fg.toNat with h | h
 ·rw [List.getElem?_append_left (by rw [length_map,length_range];exact h)] at hq
  obtain ⟨_,e⟩:=zIU hq
  exact .inl ⟨h,e⟩
 ·rw [List.getElem?_append_right (by rw [length_map,length_range];exact h),length_map,length_range] at hq
  obtain ⟨l,e⟩:=zIU hq
  exact .inr ⟨h,l,e⟩
theorem zLp {b p fg:Nat} (h2:2<=b) (h16:b<=16) (hp:p<=6) (hf:fg<=12) (hf1:1<=fg) (hn:n < b ^ (fg+p)):p+1<=(dgs b p n).length/\(dgs b p n).length<=fg+p/\1<=(figs b n).length/\(figs b n).length<=fg+p:=by
 have l1:=zJT h2 (fg+p - 1) n (by rw [show fg+p - 1+1=fg+p by omega];exact hn)
 have l2:1<=(figs b n).length:=List.length_pos_iff.mpr (zGi h2 h16 n n (Nat.le_refl _)).2.2.1
 unfold dgs
 rw [length_append,length_replicate]
 omega
theorem zQz {z:Int} {pt:Nat} (ok:NumS fg pl b sn z m pt wy wd f x) (hq:(ncs fg pl b sn z m pt)[j]? = some q) {c:List Nat}:Fit (q.1++q.2) c ↔ ∃ k:Int,k.natAbs < b.toNat ^ (fg+pl).toNat/\ixK fg pl b k=j/\c=sg sn (decide (k < 0)) (bdI k.natAbs b pl pt z m):=by
 have o1:=ok.fg1;have o2:=ok.fg2;have o3:=ok.pl1;have o4:=ok.pl2;have o5:=ok.b1;have o6:=ok.b2
 obtain ⟨B,rfl⟩:=eq_ofNat_of_zero_le (show 0<=b by omega)
 have ef:(fg+pl).toNat=fg.toNat+pl.toNat:=by omega
 have hb : ∀ n:Nat,bdI n B pl pt z m=bdy B pl.toNat pt z.toNat m n:=fun n=>by unfold bdI;rw [toNat_natCast,toNat_natCast]
 rw [toNat_natCast,ef]
 unfold ixK
 rw [toNat_natCast]
 rcases zM6 hq with ⟨hj,rfl⟩ | ⟨hj,hl,rfl⟩
 ·rw [zQF o3 (by rw [zLl];omega)]
  have rf:=fun t=>zRq (b:=B) (p:=pl.toNat) (fg:=fg.toNat) (pt:=pt) (z:=z.toNat) (m:=m) (i:=j) (t:=t) (by omega) (by omega) (by omega) (by omega) hj
  constructor
  ·rintro ⟨D,dl,fd,rfl⟩
   obtain ⟨a1,a2,a3⟩:=(zQY o5 o6).mp fd
   obtain ⟨n,hn,ln,en⟩:=(rf _).mp ⟨D,a1,⟨a2,a3⟩,rfl⟩
   refine ⟨n,by rw [natAbs_natCast];exact hn,?_,?_⟩
   ·rw [if_neg (by omega),natAbs_natCast,ln];omega
   ·rw [decide_eq_false (by omega),natAbs_natCast,hb,<- en];rfl
  ·rintro ⟨k,hk,ix,rfl⟩
   have kd:=zLp (b:=B) (p:=pl.toNat) (fg:=fg.toNat) (n:=k.natAbs) (by omega) (by omega) (by omega) (by omega) (by omega) hk
   by_cases k0:k < 0
   ·rw [if_pos k0] at ix;omega
   ·rw [if_neg k0] at ix
    obtain ⟨D,a1,⟨a2,a3⟩,e⟩:=(rf _).mpr ⟨k.natAbs,hk,by omega,rfl⟩
    refine ⟨D,by rw [zLl,a1],(zQY o5 o6).mpr ⟨a1,a2,a3⟩,?_⟩
    rw [decide_eq_false k0,hb,<- e];rfl
 ·have hl':j - fg.toNat < fg.toNat+pl.toNat:=by omega
  have rb:=fun t=>zQr (b:=B) (p:=pl.toNat) (fg:=fg.toNat) (pt:=pt) (z:=z.toNat) (m:=m) (i:=j - fg.toNat) (t:=t) (by omega) (by omega) (by omega) (by omega) hl'
  rw [zQF o3 (by rw [zLW];omega)]
  constructor
  ·rintro ⟨D,dl,fd,rfl⟩
   obtain ⟨F,rfl,a1,a2,a3⟩:=(zQy o5 o6).mp fd
   obtain ⟨n,n0,hn,ln,en⟩:=(rb _).mp ⟨F,⟨a1,a2,a3⟩,rfl⟩
   refine ⟨-(n:Int),by rw [Int.natAbs_neg,natAbs_natCast];exact hn,?_,?_⟩
   ·rw [if_pos (by omega),Int.natAbs_neg,natAbs_natCast,ln];omega
   ·rw [decide_eq_true (by omega),Int.natAbs_neg,natAbs_natCast,hb,<- en];rfl
  ·rintro ⟨k,hk,ix,rfl⟩
   have kd:=zLp (b:=B) (p:=pl.toNat) (fg:=fg.toNat) (n:=k.natAbs) (by omega) (by omega) (by omega) (by omega) (by omega) hk
   by_cases k0:k < 0
   ·rw [if_pos k0] at ix
    obtain ⟨F,⟨a1,a2,a3⟩,e⟩:=(rb _).mpr ⟨k.natAbs,by omega,hk,by omega,rfl⟩
    refine ⟨_,?_,(zQy o5 o6).mpr ⟨F,rfl,a1,a2,a3⟩,?_⟩
    ·rw [zLW,length_append,length_replicate,a1];omega
    ·rw [decide_eq_true k0,hb,<- e];rfl
   ·rw [if_neg k0] at ix;omega
theorem zW4 {z:Int} {pt:Nat} (ok:NumS fg pl b sn z m pt wy wd f x) (hk:k.natAbs < b.toNat ^ (fg+pl).toNat):ixK fg pl b k < (ncs fg pl b sn z m pt).length:=by
 have o1:=ok.fg1;have o2:=ok.fg2;have o3:=ok.pl1;have o4:=ok.pl2;have o5:=ok.b1;have o6:=ok.b2
 have ef:(fg+pl).toNat=fg.toNat+pl.toNat:=by omega
 rw [ef] at hk
 have kd:=zLp (b:=b.toNat) (p:=pl.toNat) (fg:=fg.toNat) (n:=k.natAbs) (by omega) (by omega) (by omega) (by omega) (by omega) hk
 unfold ixK ncs
 rw [length_append,length_map,length_map,length_map,length_map,length_range,length_range]
 split <;> omega
def Lk:Fd->List Nat->Nat->Prop
 | .num fg pl b sn z m pt _,c,j=>∃ k:Int,k.natAbs < b.toNat ^ (fg+pl).toNat/\ixK fg pl b k=j/\c=sg sn (decide (k < 0)) (bdI k.natAbs b pl pt z m)
 | .word sg lo hi,c,j=>Isw sg lo hi c/\lo+(j:Int)=c.length
 | .cho ns,c,j=>ns[j]? = some c
theorem zHA {o:Addr} (h:FdAt K H o cN cW cC wd f x st d) (hq:(cors d)[j]? = some q) {c:List Nat}:Fit (q.1++q.2) c↔Lk d c j:=by
 cases h with
 | num F ok=>exact zQz ok hq
 | @word sg lo hi F ok =>
  have o1:=ok.lo1;have o2:=ok.lo2
  have hq':((List.range (hi+1 - lo).toNat).map fun i:Nat=>(([]:Ce),List.replicate (lo+(i:Int)).toNat sg))[j]? = some q:=hq
  obtain ⟨hj,rfl⟩:=zIU hq'
  show Fit ([]++List.replicate (lo+(j:Int)).toNat sg) c↔Isw sg lo hi c/\lo+(j:Int)=c.length
  rw [nil_append,zIm]
  unfold Isw
  exact ⟨fun h=>⟨⟨⟨by omega,by omega⟩,h.2⟩,by omega⟩,fun h=>⟨by omega,h.1.2⟩⟩
 | @cho L ns F e ok =>
  have hq':(ns.map fun n=>(([]:Ce),chs n))[j]? = some q:=hq
  rw [getElem?_map] at hq'
  cases hn:ns[j]? with
  | none=>rw [hn] at hq';cases hq'
  | some n =>
   rw [hn] at hq'
   cases hq'
   show Fit ([]++chs n) c↔ns[j]? = some c
   rw [nil_append,zGm,hn]
   exact ⟨fun h=>by rw [h],fun h=>by cases h;rfl⟩
theorem Lk.lt {o:Addr} (h:FdAt K H o cN cW cC wd f x st d) {c:List Nat} (l:Lk d c j):j < (cors d).length:=by
 cases h with
 | num F ok=>obtain ⟨k,hk,rfl,_⟩:=l;exact zW4 ok hk
 | @word sg lo hi F ok =>
  obtain ⟨⟨⟨a,b⟩,_⟩,e⟩:=l
  show j < (List.map _ (List.range (hi+1 - lo).toNat)).length
  rw [length_map,length_range];omega
 | @cho L ns F e ok =>
  show j < (List.map _ ns).length
  rw [length_map]
  exact (List.getElem?_eq_some_iff.mp (show ns[j]? = some c from l)).1
theorem zGt {z:Int} {pt:Nat} (ok:NumS fg pl b sn z m pt wy wd f x) {k':Int} (hk:k.natAbs < b.toNat ^ (fg+pl).toNat) (hk':k'.natAbs < b.toNat ^ (fg+pl).toNat) (e:sg sn (decide (k < 0)) (bdI k.natAbs b pl pt z m)=sg sn (decide (k' < 0)) (bdI k'.natAbs b pl pt z m)) (sd : ∀ k:Int,k.natAbs < b.toNat ^ (fg+pl).toNat->Sgd sn (decide (k < 0)) (sg sn (decide (k < 0)) (bdI k.natAbs b pl pt z m))):k=k':=by
 have o1:=ok.fg1;have o2:=ok.fg2;have o3:=ok.pl1;have o4:=ok.pl2;have o5:=ok.b1;have o6:=ok.b2
 have s1:=sd k hk
 have s2:=sd k' hk'
 rw [<- e] at s2
 have eb:decide (k < 0)=decide (k' < 0):=by
  cases h1:decide (k < 0) <;> cases h2:decide (k' < 0)
  ·rfl
  ·rw [h1] at s1 s2;rw [h2] at s2;exact (zFf ok.sn s1 s2).elim
  ·rw [h1] at s1 s2;rw [h2] at s2;exact (zFf ok.sn s2 s1).elim
  ·rfl
 rw [<- eb] at e
 unfold sg at e
 rw [append_assoc,append_assoc] at e
 have e2:=List.append_cancel_right (append_cancel_left e)
 have up:b.toNat ^ (fg+pl).toNat<=b.toNat ^ (40+pl.toNat):=pow_le_pow_right (by omega) (by omega)
 have e3:k.natAbs=k'.natAbs:=by
  unfold bdI at e2
  rw [toNat_natCast,toNat_natCast] at e2
  exact zUz (by omega) (by omega) (by omega) (by omega) (by omega) e2
 by_cases h:k < 0
 ·have:k' < 0:=by rw [decide_eq_true h] at eb;exact of_decide_eq_true eb.symm
  omega
 ·have : ¬ k' < 0:=by rw [decide_eq_false h] at eb;exact of_decide_eq_false eb.symm
  omega
theorem zR9 (sx:zJv x) (hw:wd<=40) {t:List Nat}:Fit (flk wd f x q) t ↔ ∃ ld rs:List Nat,ld.length=q.1.length/\Fit q.1 ld/\Fit q.2 rs/\t=(if x = "inside" then ld++pad rs (wd - ld.length) f "right" else pad (ld++rs) wd f x):=by
 have fr : ∀ {n:Nat} {s:List Nat},Fit (List.replicate n [f]) s↔s=List.replicate n f:=fun {n s}=>by
  rw [zIm]
  exact ⟨fun h=>List.eq_replicate_iff.mpr ⟨h.1,fun y hy=>List.mem_singleton.mp (h.2 y hy)⟩,fun h=>by rw [h];exact ⟨length_replicate,fun y hy=>by rw [(List.mem_replicate.mp hy).2];exact List.mem_singleton.mpr rfl⟩⟩
 unfold flk
 split
 ·have key : ∀ ld rs:List Nat,ld.length=q.1.length->rs.length=q.2.length->pad rs (wd - ld.length) f "right" = List.replicate (pA "right" ((q.1.length:Int)+q.2.length) wd).toNat f++rs:=fun ld rs l1 l2=>by
   unfold pad
   have e1:pA "right" (rs.length:Int) (wd - ld.length)=pA "right" ((q.1.length:Int)+q.2.length) wd:=by
    rw [pAr,pAr];unfold lk;split <;> split <;> omega
   have e2:pB "right" (rs.length:Int) (wd - ld.length)=0:=by unfold pB;rw [pAr];omega
   rw [e1,e2,show Int.toNat 0=0 from rfl,List.replicate_zero,append_nil]
  constructor
  ·intro h
   obtain ⟨s0,rs,rfl,_,f0,f2⟩:=h.cut
   obtain ⟨ld,u,rfl,l1,f1,fu⟩:=f0.cut
   exact ⟨ld,rs,l1,f1,f2,by rw [key ld rs l1 f2.len,fr.mp fu,append_assoc]⟩
  ·rintro ⟨ld,rs,l1,f1,f2,rfl⟩
   rw [key ld rs l1 f2.len,<- append_assoc]
   have h1:Fit (q.1++List.replicate (pA "right" ((q.1.length:Int)+q.2.length) wd).toNat [f]) (ld++List.replicate (pA "right" ((q.1.length:Int)+q.2.length) wd).toNat f):=(zB7 l1).mpr ⟨f1,fr.mpr rfl⟩
   exact (zB7 h1.len).mpr ⟨h1,f2⟩
 ·have key : ∀ ld rs:List Nat,ld.length=q.1.length->rs.length=q.2.length->pad (ld++rs) wd f x=List.replicate (pA x ((q.1.length:Int)+q.2.length) wd).toNat f++ld++rs++List.replicate (pB x ((q.1.length:Int)+q.2.length) wd).toNat f:=fun ld rs l1 l2=>by
   unfold pad
   rw [length_append,show ((ld.length+rs.length:Nat):Int)=(q.1.length:Int)+q.2.length by omega,append_assoc _ ld rs]
  constructor
  ·intro h
   obtain ⟨s0,u2,rfl,_,f0,g2⟩:=h.cut
   obtain ⟨s1,rs,rfl,_,f1,f2⟩:=f0.cut
   obtain ⟨u1,ld,rfl,_,g1,f3⟩:=f1.cut
   exact ⟨ld,rs,f3.len,f3,f2,by rw [key ld rs f3.len f2.len,fr.mp g1,fr.mp g2]⟩
  ·rintro ⟨ld,rs,l1,f1,f2,rfl⟩
   rw [key ld rs l1 f2.len]
   have h0:Fit (List.replicate (pA x ((q.1.length:Int)+q.2.length) wd).toNat [f]) (List.replicate (pA x ((q.1.length:Int)+q.2.length) wd).toNat f):=fr.mpr rfl
   have h1:=(zB7 h0.len).mpr ⟨h0,f1⟩
   have h2:=(zB7 h1.len).mpr ⟨h1,f2⟩
   exact (zB7 h2.len).mpr ⟨h2,fr.mpr rfl⟩
def CoL:Fd->List Nat->List Nat->Prop
 | .num fg pl b sn z m pt _,c,ld=>∃ k:Int,k.natAbs < b.toNat ^ (fg+pl).toNat/\c=sg sn (decide (k < 0)) (bdI k.natAbs b pl pt z m)/\ld=stL sn (decide (k < 0))
 | .word sg lo hi,c,ld=>Isw sg lo hi c/\ld=[]
 | .cho ns,c,ld=>c ∈ ns/\ld=[]
theorem zOB {o:Addr} (h:FdAt K H o cN cW cC wd f x st d) (hq:(cors d)[j]? = some q) {t:List Nat}:Fit (flk wd f x q) t ↔ ∃ c ld:List Nat,Lk d c j/\CoL d c ld/\t=(if x = "inside" then ld++pad (c.drop ld.length) (wd - ld.length) f "right" else pad c wd f x):=by
 obtain ⟨_,_,_,sx,w0,w1⟩:=h.bd
 rw [zR9 sx w1]
 have cf:=fun c=>zHA h hq (c:=c)
 cases h with
 | @num fg pl b sn z m pt wy F ok =>
  have lead : ∀ k:Int,k.natAbs < b.toNat ^ (fg+pl).toNat->ixK fg pl b k=j->q.1=chs (stL sn (decide (k < 0))):=fun k hk ix=>by
   have o1:=ok.fg1;have o2:=ok.fg2;have o3:=ok.pl1;have o4:=ok.pl2;have o5:=ok.b1;have o6:=ok.b2
   have ef:(fg+pl).toNat=fg.toNat+pl.toNat:=by omega
   rw [ef] at hk
   have kd:=zLp (b:=b.toNat) (p:=pl.toNat) (fg:=fg.toNat) (n:=k.natAbs) (by omega) (by omega) (by omega) (by omega) (by omega) hk
   unfold ixK at ix
   rcases zM6 hq with ⟨hj,rfl⟩ | ⟨hj,hl,rfl⟩
   ·have : ¬ k < 0:=fun z=>by rw [if_pos z] at ix;omega
    rw [decide_eq_false this];rfl
   ·have:k < 0:=Classical.byContradiction fun z=>by rw [if_neg z] at ix;omega
    rw [decide_eq_true this];rfl
  constructor
  ·rintro ⟨ld,rs,l1,f1,f2,rfl⟩
   have hc:Lk (.num fg pl b sn z m pt wy) (ld++rs) j:=(cf (ld++rs)).mp ((zB7 l1).mpr ⟨f1,f2⟩)
   obtain ⟨k,hk,ix,e⟩:=hc
   have el:=lead k hk ix
   rw [el] at f1
   have eld:=zGm.mp f1
   exact ⟨ld++rs,ld,⟨k,hk,ix,e⟩,⟨k,hk,e,eld⟩,by rw [drop_left]⟩
  ·rintro ⟨c,ld,⟨k,hk,ix,e⟩,⟨k',hk',e',rfl⟩,rfl⟩
   have ff:=(cf c).mpr ⟨k,hk,ix,e⟩
   obtain ⟨s,rs,rfl,l1,f1,f2⟩:=ff.cut
   have el:=lead k hk ix
   have es:s=stL sn (decide (k < 0)):=by rw [el] at f1;exact zGm.mp f1
   have sd : ∀ k:Int,k.natAbs < b.toNat ^ (fg+pl).toNat->Sgd sn (decide (k < 0)) (sg sn (decide (k < 0)) (bdI k.natAbs b pl pt z m)):=fun k hk=>by
    have o1:=ok.fg1;have o2:=ok.fg2;have o3:=ok.pl1;have o4:=ok.pl2;have o5:=ok.b1;have o6:=ok.b2
    have up:b.toNat ^ (fg+pl).toNat<=b.toNat ^ (40+pl.toNat):=pow_le_pow_right (by omega) (by omega)
    have bs:=zJM (z:=z.toNat) (m:=m) (b:=b.toNat) (p:=pl.toNat) (n:=k.natAbs) (pt:=pt) (by omega) (by omega) (by omega) (by omega) ok.pt ok.m
    have eb:bod sn (decide (k < 0)) (sg sn (decide (k < 0)) (bdI k.natAbs b pl pt z m))=bdI k.natAbs b pl pt z m:=by
     unfold bod sg;rw [length_append,Nat.add_sub_cancel,take_left,drop_left]
    unfold Sgd
    rw [eb]
    refine ⟨?_,rfl⟩
    unfold bdI;rw [toNat_natCast];exact bs.1
   have kk:k=k':=zGt ok hk hk' (e.symm.trans e') sd
   subst kk
   rw [<- es]
   exact ⟨s,rs,l1,f1,f2,by rw [drop_left]⟩
 | @word sg lo hi F ok =>
  have q1:q.1=[]:=by
   have hq':((List.range (hi+1 - lo).toNat).map fun i:Nat=>(([]:Ce),List.replicate (lo+(i:Int)).toNat sg))[j]? = some q:=hq
   obtain ⟨_,rfl⟩:=zIU hq';rfl
  have nx:=show ¬ x = "inside" from fun z=>by rcases ok.x with rfl | rfl | rfl <;> exact absurd z (by decide +kernel)
  simp only [if_neg nx]
  constructor
  ·rintro ⟨ld,rs,l1,f1,f2,rfl⟩
   have:ld=[]:=by rw [q1] at l1;exact List.length_eq_zero_iff.mp l1
   subst this
   have hc:=(cf ([]++rs)).mp ((zB7 l1).mpr ⟨f1,f2⟩)
   exact ⟨_,[],hc,⟨hc.1,rfl⟩,rfl⟩
  ·rintro ⟨c,ld,hl,⟨hc,rfl⟩,rfl⟩
   have ff:=(cf c).mpr hl
   obtain ⟨s,rs,rfl,l1,f1,f2⟩:=ff.cut
   exact ⟨s,rs,l1,f1,f2,rfl⟩
 | @cho L ns F e ok =>
  have q1:q.1=[]:=by
   have hq':(ns.map fun n=>(([]:Ce),chs n))[j]? = some q:=hq
   rw [getElem?_map] at hq'
   cases hn:ns[j]? with
   | none=>rw [hn] at hq';cases hq'
   | some n=>rw [hn] at hq';cases hq';rfl
  have nx:=show ¬ x = "inside" from fun z=>by rcases ok.x with rfl | rfl | rfl <;> exact absurd z (by decide +kernel)
  simp only [if_neg nx]
  constructor
  ·rintro ⟨ld,rs,l1,f1,f2,rfl⟩
   have:ld=[]:=by rw [q1] at l1;exact List.length_eq_zero_iff.mp l1
   subst this
   have hc:=(cf ([]++rs)).mp ((zB7 l1).mpr ⟨f1,f2⟩)
   exact ⟨_,[],hc,⟨mem_of_getElem? (show ns[j]? = some ([]++rs) from hc),rfl⟩,rfl⟩
  ·rintro ⟨c,ld,hl,⟨hc,rfl⟩,rfl⟩
   have ff:=(cf c).mpr hl
   obtain ⟨s,rs,rfl,l1,f1,f2⟩:=ff.cut
   exact ⟨s,rs,l1,f1,f2,rfl⟩
theorem zIr {α:Type} {p:α->Bool} : ∀ l:List α,∃ g:Nat->Nat,(∀ i j,i < j->g i < g j)/\(∀ i,i < (l.filter p).length->g i < l.length/\(l.filter p)[i]? = l[g i]?) /\ ∀ j q,l[j]? = some q->p q=true -> ∃ i,i < (l.filter p).length/\g i=j
 | []=>⟨id,fun _ _ h=>h,fun i h=>by simp at h,fun j q h=>by simp at h⟩
 | a::l=>by
  obtain ⟨g,g1,g2,g3⟩:=zIr (p:=p) l
  cases ha:p a with
  | false =>
   refine ⟨fun i=>g i+1,fun i j h=>Nat.succ_lt_succ (g1 i j h),fun i h=>?_,fun j q hj hq=>?_⟩
   ·rw [filter_cons_of_neg (by rw [ha];decide)] at h ⊢
    have:=g2 i h
    exact ⟨by rw [length_cons];exact Nat.succ_lt_succ this.1,by rw [this.2,List.getElem?_cons_succ]⟩
   ·cases j with
    | zero=>cases hj;rw [ha] at hq;cases hq
    | succ j =>
     obtain ⟨i,hi,e⟩:=g3 j q (by simpa using hj) hq
     exact ⟨i,by rw [filter_cons_of_neg (by rw [ha];decide)];exact hi,by show g i+1=j+1;rw [e]⟩
  | true =>
   refine ⟨fun i=>match i with | 0=>0 | i+1=>g i+1,fun i j h=>?_,fun i h=>?_,fun j q hj hq=>?_⟩
   ·cases i with
    | zero=>cases j with
     | zero=>omega
     | succ j=>exact Nat.succ_pos _
    | succ i=>cases j with
     | zero=>omega
     | succ j=>have:=g1 i j (by omega);exact Nat.succ_lt_succ this
   ·rw [filter_cons_of_pos ha] at h ⊢
    cases i with
    | zero=>exact ⟨by simp,rfl⟩
    | succ i =>
     have:=g2 i (by simpa using h)
     exact ⟨by rw [length_cons];exact Nat.succ_lt_succ this.1,by rw [List.getElem?_cons_succ,this.2];rfl⟩
   ·cases j with
    | zero=>exact ⟨0,by rw [filter_cons_of_pos ha];simp,rfl⟩
    | succ j =>
     obtain ⟨i,hi,e⟩:=g3 j q (by simpa using hj) hq
     exact ⟨i+1,by rw [filter_cons_of_pos ha,length_cons];omega,by show g i+1=j+1;rw [e]⟩
def NdN:Fd->Prop
 | .cho ns=>ns.Nodup
 | _=>True
theorem zJh {z:Int} {pt:Nat} (ok:NumS fg pl b sn z m pt wy wd f x) (k:Int) (hk:k.natAbs < b.toNat ^ (fg+pl).toNat):Sgd sn (decide (k < 0)) (sg sn (decide (k < 0)) (bdI k.natAbs b pl pt z m)):=by
 have o1:=ok.fg1;have o2:=ok.fg2;have o3:=ok.pl1;have o4:=ok.pl2;have o5:=ok.b1;have o6:=ok.b2
 have up:b.toNat ^ (fg+pl).toNat<=b.toNat ^ (40+pl.toNat):=pow_le_pow_right (by omega) (by omega)
 have bs:=zJM (z:=z.toNat) (m:=m) (b:=b.toNat) (p:=pl.toNat) (n:=k.natAbs) (pt:=pt) (by omega) (by omega) (by omega) (by omega) ok.pt ok.m
 have eb:bod sn (decide (k < 0)) (sg sn (decide (k < 0)) (bdI k.natAbs b pl pt z m))=bdI k.natAbs b pl pt z m:=by
  unfold bod sg;rw [length_append,Nat.add_sub_cancel,take_left,drop_left]
 unfold Sgd
 rw [eb]
 refine ⟨?_,rfl⟩
 unfold bdI;rw [toNat_natCast];exact bs.1
theorem Lk.one {o:Addr} (h:FdAt K H o cN cW cC wd f x st d) (nd:NdN d) {c:List Nat} {i:Nat} (l1:Lk d c i) (l2:Lk d c j):i=j:=by
 cases h with
 | num F ok =>
  obtain ⟨k,hk,rfl,e⟩:=l1
  obtain ⟨k',hk',rfl,e'⟩:=l2
  rw [zGt ok hk hk' (e.symm.trans e') (zJh ok)]
 | word F ok=>have:=l1.2;have:=l2.2;omega
 | @cho L ns F e ok =>
  have a:ns[i]? = some c:=l1
  have b:ns[j]? = some c:=l2
  exact (List.getElem?_inj (List.getElem?_eq_some_iff.mp a).1 nd).mp (a.trans b.symm)
def LkF (wd:Int) (st:Bool) (d:Fd) (c:List Nat) (i:Nat):Prop:=∃ q,((cors d).filter (fits wd st))[i]? = some q/\Fit (q.1++q.2) c
theorem LkF.one {o:Addr} (h:FdAt K H o cN cW cC wd f x st d) (nd:NdN d) {c:List Nat} {i:Nat} (l1:LkF wd st d c i) (l2:LkF wd st d c j):i=j:=by
 obtain ⟨g,g1,g2,g3⟩:=zIr (p:=fits wd st) (cors d)
 obtain ⟨q,hq,f1⟩:=l1
 obtain ⟨q',hq',f2⟩:=l2
 obtain ⟨a1,a2⟩:=g2 i (List.getElem?_eq_some_iff.mp hq).1
 obtain ⟨b1,b2⟩:=g2 j (List.getElem?_eq_some_iff.mp hq').1
 have e:=Lk.one h nd ((zHA h (a2.symm.trans hq)).mp f1) ((zHA h (b2.symm.trans hq')).mp f2)
 rcases Nat.lt_trichotomy i j with z | z | z
 ·have:=g1 i j z;omega
 ·exact z
 ·have:=g1 j i z;omega
theorem LkF.ex {o:Addr} (h:FdAt K H o cN cW cC wd f x st d) {c:List Nat} (co:CoL d c ld) (nw:(st && decide (wd < (c.length:Int)))=false) : ∃ i,i < ((cors d).filter (fits wd st)).length/\LkF wd st d c i:=by
 have hl : ∃ j,Lk d c j:=by
  cases h with
  | num F ok=>obtain ⟨k,hk,e,_⟩:=co;exact ⟨_,k,hk,rfl,e⟩
  | @word sg lo hi F ok =>
   have o1:=ok.lo1
   refine ⟨((c.length:Int) - lo).toNat,co.1,?_⟩
   have:=co.1.1.1
   omega
  | @cho L ns F e ok =>
   obtain ⟨j,hj,e⟩:=List.mem_iff_getElem.mp co.1
   exact ⟨j,List.getElem?_eq_some_iff.mpr ⟨hj,e⟩⟩
 obtain ⟨j,lk⟩:=hl
 have jl:=Lk.lt h lk
 obtain ⟨q,hq⟩ : ∃ q,(cors d)[j]? = some q:=⟨_,getElem?_eq_getElem jl⟩
 have fq:=(zHA h hq).mpr lk
 obtain ⟨g,g1,g2,g3⟩:=zIr (p:=fits wd st) (cors d)
 obtain ⟨i,hi,e⟩:=g3 j q hq (by unfold fits;rw [<- fq.len,nw];rfl)
 exact ⟨i,hi,q,by rw [(g2 i hi).2,e];exact hq,fq⟩
theorem zIO {t:List Nat} {w:Int} (sx:Side x) (hw:w<=40) {c:List Nat}:c ∈ zBs t w f x↔pad c w f x=t:=by
 constructor
 ·intro h
  unfold zBs at h
  split at h
  ·rename_i hl
   rw [List.mem_singleton.mp h]
   exact zOL (zDa sx (by omega) hw) (by omega) hw
  ·obtain ⟨n,hn,rfl⟩:=List.mem_map.mp h
   have:=(List.mem_filter.mp hn).2
   exact of_decide_eq_true this
 ·intro h
  have:=(fnd (t:=c) (f:=f) sx hw).has
  rw [h] at this;exact this
theorem zNp {t:List Nat} (sx:Side x) (hw:wd<=40) {c:List Nat}:c ∈ ucs t wd f x st↔pad c wd f x=t/\nwd wd st c=true:=by
 unfold ucs
 rw [mem_filter,zIO sx hw]
theorem zI2 {t:List Nat} {w:Int} (sx:Side x) (hw:w<=40):(zBs t w f x).Nodup:=by
 rcases Int.lt_trichotomy (t.length:Int) w with h | h | h
 ·rw [zIw sx hw h];exact List.nodup_nil
 ·unfold zBs
  rw [if_neg (by omega)]
  refine List.pairwise_map.mpr ?_
  have pr:((List.range (w+1).toNat).filter (gd t w f x)).Pairwise (· ≠ ·):=List.Pairwise.filter _ (List.nodup_range)
  refine (List.Pairwise.and_mem.mp pr).imp ?_
  rintro a b ⟨ha,hb,hne⟩ e
  have la:=List.mem_range.mp (List.mem_filter.mp ha).1
  have lb:=List.mem_range.mp (List.mem_filter.mp hb).1
  have e2:=congrArg List.length e
  rw [zMI sx (by omega) hw h,zMI sx (by omega) hw h] at e2
  exact hne e2
 ·rw [zFb h];exact List.nodup_cons.mpr ⟨by simp,List.nodup_nil⟩
theorem zMM {t:List Nat} (sx:Side x) (hw:wd<=40):(ucs t wd f x st).Nodup:=List.Pairwise.filter _ (zI2 sx hw)
theorem zFE {z:Int} {pt:Nat} {c:List Nat} (ok:NumS fg pl b sn z m pt wy wd f x) (h:zBj fg pl b sn z m pt bl c=some k):LimN fg pl b k/\decide (k < 0)=bl/\c=zCh pl b sn z m pt k:=by
 have o1:=ok.fg1;have o2:=ok.fg2;have o3:=ok.pl1;have o4:=ok.pl2;have o5:=ok.b1;have o6:=ok.b2
 obtain ⟨B,rfl⟩:=eq_ofNat_of_zero_le (show 0<=b by omega)
 unfold zBj at h
 split at h
 ·rename_i a
  obtain ⟨sd,ib,lt,pos⟩:=a
  obtain ⟨v0,v1,v2⟩:=zSd (b:=B) (p:=pl.toNat) (by omega) (by omega) (by omega) ib
  have pe:((B ^ (fg+pl).toNat:Nat):Int)=(B:Int) ^ (fg+pl).toNat:=Int.natCast_pow ..
  generalize hv:bval (B:Int) pl.toNat z.toNat (bod sn bl c)=v at *
  have fin:decide (k < 0)=bl/\k.natAbs=v.toNat:=by
   cases bl with
   | true =>
    have p:=pos rfl
    rw [if_pos rfl] at h
    have:k = -v:=by cases h;rfl
    exact ⟨decide_eq_true (by omega),by omega⟩
   | false =>
    rw [if_neg (by decide)] at h
    have:k=v:=by cases h;rfl
    exact ⟨decide_eq_false (by omega),by omega⟩
  refine ⟨by unfold LimN;rw [toNat_natCast,fin.2];omega,fin.1,?_⟩
  unfold zCh bdI
  rw [fin.1,toNat_natCast,toNat_natCast,fin.2,v2]
  exact sd.2.symm
 ·cases h
theorem zPt {t:List Nat} (sx:zJv x) (hw:wd<=40):stL sn bl++rs ∈ cin t sn bl wd f x st↔nfil (stL sn bl) (stL sn bl++rs) wd f x=t/\nwd wd st (stL sn bl++rs)=true:=by
 unfold cin nfil
 split
 ·rw [drop_left,mem_filter]
  refine and_congr ?_ Iff.rfl
  rw [mem_map]
  unfold stin
  constructor
  ·rintro ⟨r,hr,e⟩
   rw [append_cancel_left e] at hr
   split at hr
   ·rename_i ht
    rw [zIO (.inr (.inl rfl)) (by omega)] at hr
    rw [hr]
    conv=>rhs;rw [<- take_append_drop (stL sn bl).length t,ht]
   ·cases hr
  ·intro e
   refine ⟨rs,?_,rfl⟩
   rw [if_pos (by rw [<- e,take_left]),zIO (.inr (.inl rfl)) (by omega),<- e,drop_left]
 ·rename_i hx
  exact zNp (sx.elim id fun z=>absurd z hx) hw
theorem zNR {z:Int} {pt:Nat} {t:List Nat} (ok:NumS fg pl b sn z m pt wy wd f x):k ∈ nks fg pl b sn z m pt wd f x st t↔LimN fg pl b k/\nwd wd st (zCh pl b sn z m pt k)=true/\nfil (stL sn (decide (k < 0))) (zCh pl b sn z m pt k) wd f x=t:=by
 have half : ∀ bl,k ∈ (cin t sn bl wd f x st).filterMap (zBj fg pl b sn z m pt bl)↔decide (k < 0)=bl/\LimN fg pl b k/\nwd wd st (zCh pl b sn z m pt k)=true/\nfil (stL sn (decide (k < 0))) (zCh pl b sn z m pt k) wd f x=t:=fun bl=>by
  rw [List.mem_filterMap]
  constructor
  ·rintro ⟨c,hc,hn⟩
   obtain ⟨l,e,rfl⟩:=zFE ok hn
   rw [zBw,e] at hc
   have:=(zPt ok.x ok.wd2).mp hc
   rw [<- e,<- zBw] at this
   exact ⟨e,l,this.2,this.1⟩
  ·rintro ⟨e,l,h1,h2⟩
   refine ⟨zCh pl b sn z m pt k,?_,by rw [<- e];exact zPX ok l⟩
   rw [zBw,e]
   refine (zPt ok.x ok.wd2).mpr ?_
   rw [<- e,<- zBw]
   exact ⟨h2,h1⟩
 unfold nks
 rw [List.mem_append,half,half]
 constructor
 ·rintro (h | h) <;> exact h.2
 ·intro h
  cases e:decide (k < 0)
  ·rw [e] at h;exact .inl ⟨rfl,h⟩
  ·rw [e] at h;exact .inr ⟨rfl,h⟩
theorem zPd {t:List Nat} (sx:zJv x) (hw:wd<=40):(cin t sn bl wd f x st).Nodup:=by
 unfold cin
 split
 ·refine List.Pairwise.filter _ ?_
  refine List.pairwise_map.mpr ?_
  unfold stin
  split
  ·exact (zI2 (.inr (.inl rfl)) (by omega)).imp fun h e=>h (append_cancel_left e)
  ·exact List.Pairwise.nil
 ·rename_i hx
  exact zMM (sx.elim id fun z=>absurd z hx) hw
theorem zQu {z:Int} {pt:Nat} {t:List Nat} (ok:NumS fg pl b sn z m pt wy wd f x):(nks fg pl b sn z m pt wd f x st t).Nodup:=by
 unfold nks
 have half : ∀ bl,((cin t sn bl wd f x st).filterMap (zBj fg pl b sn z m pt bl)).Nodup:=fun bl=>by
  refine List.pairwise_filterMap.mpr ((zPd ok.x ok.wd2).imp ?_)
  intro a a' hne k hk k' hk' e
  subst e
  exact hne ((zFE ok hk).2.2.trans (zFE ok hk').2.2.symm)
 refine List.nodup_append.mpr ⟨half false,half true,fun k hk k' hk' e=>?_⟩
 subst e
 obtain ⟨c,_,h1⟩:=List.mem_filterMap.mp hk
 obtain ⟨c',_,h2⟩:=List.mem_filterMap.mp hk'
 have:=(zFE ok h1).2.1.symm.trans (zFE ok h2).2.1
 cases this
def VoT (wd:Int) (f:Nat) (x:Str) (st:Bool) (t:List Nat) (d:Fd) (p:List Nat × List Nat):Prop:=CoL d (p.1++p.2) p.1/\(st && decide (wd < ((p.1++p.2).length:Int)))=false/\nfil p.1 (p.1++p.2) wd f x=t
theorem Al.map {α β:Type} {R:V->β->Prop} {g:α->β} {as:List α} (h:Al (fun v a=>R v (g a)) vs as):Al R vs (as.map g):=by
 induction h with
 | nil=>exact .nil
 | cons h _ ih=>exact .cons h ih
theorem zO4 {c:List Nat}:nwd wd st c=true↔(st && decide (wd < (c.length:Int)))=false:=by
 unfold nwd;cases (st && decide (wd < (c.length:Int))) <;> simp
variable {σ:St} {ta:TE}
theorem zQp {o:Addr} {t:List Nat} {tt:TA} (F:FdAt K H o cN cW cC wd f x st d) (at':Asc t) (tl:t.length<=300)
  (hta : ∀ Q':VK,Q' (.ref o) H->ta σ H Q') (ht : ∀ Q':List V->Hp->Prop,Q' [.str (T t)] H->tt σ H Q') (q : ∀ l H' us cs,Same H H'->H' l=some (.lst us)->Al (fun v p=>VlA H' v d p.1 p.2) us cs->(cs.map fun p=>p.1++p.2).Nodup->(∀ p,p ∈ cs↔VoT wd f x st t d p)->cs.length<=42->Q (.ref l) H') :
  tOrE (zJB cN "values_for" (zBE K cN) [] E ta tt) (tOrE (zJB cW "values_for" (zBQ K cW) [] E ta tt) (zJB cC "values_for" (zBH K cC) [] E ta tt)) σ H Q:=by
 obtain ⟨_,_,_,sx,w0,w1⟩:=F.bd
 cases F with
 | @num fg pl b sn z m pt wy F ok =>
  refine zHK (zHS (hta _ (zE4 (zLe F (by decide +kernel) (by decide +kernel)) (ht _ ?_))))
  refine ⟨o,_,_,_,_,_,_,_,_,_,_,_,_,_,rfl,F,ok,at',tl,fun l H' us ms g e pm srt al=>?_⟩
  have lim : ∀ k ∈ ms,LimN fg pl b k:=fun k hk=>((zNR ok).mp (pm.mem_iff.mp hk)).1
  have nd:ms.Nodup:=pm.nodup_iff.mpr (zQu ok)
  have hl:ms.length<=42:=by
   have:=zQH (fg:=fg) (pl:=pl) (b:=b) (z:=z) (m:=m) (pt:=pt) (t:=t) (f:=f) (x:=x) (st:=st) ok.sn ok.wd2
   rw [pm.length_eq];unfold nks;rw [length_append];exact this
  refine q l H' us (ms.map fun k=>(stL sn (decide (k < 0)),zKO pl b sn z m pt k)) g e ?_ ?_ ?_ (by rw [length_map];exact hl)
  ·refine Al.map ?_
   clear pm nd hl e srt
   induction al with
   | nil=>exact .nil
   | cons h _ ih =>
    obtain ⟨p,rfl,ep⟩:=h
    exact .cons (.num rfl ep (lim _ (mem_cons_self ..))) (ih fun k hk=>lim k (mem_cons_of_mem _ hk))
  ·rw [map_map]
   refine List.pairwise_map.mpr ((List.Pairwise.and_mem.mp nd).imp ?_)
   rintro k k' ⟨hk,hk',hne⟩ e
   refine hne (zGt ok (lim k hk) (lim k' hk') ?_ (zJh ok))
   have e':stL sn (decide (k < 0))++zKO pl b sn z m pt k=stL sn (decide (k' < 0))++zKO pl b sn z m pt k':=e
   rw [<- zBw,<- zBw] at e'
   exact e'
  ·rintro ⟨ld,rs⟩
   rw [mem_map]
   constructor
   ·rintro ⟨k,hk,e⟩
    cases e
    obtain ⟨l1,l2,l3⟩:=(zNR ok).mp (pm.mem_iff.mp hk)
    unfold VoT
    rw [<- zBw]
    exact ⟨⟨k,l1,rfl,rfl⟩,zO4.mp l2,l3⟩
   ·rintro ⟨⟨k,l1,e1,e2⟩,n1,e3⟩
    have e1':ld++rs=zCh pl b sn z m pt k:=e1
    have e2':ld=stL sn (decide (k < 0)):=e2
    have er:rs=zKO pl b sn z m pt k:=by
     rw [zBw,e2'] at e1';exact append_cancel_left e1'
    refine ⟨k,pm.mem_iff.mpr ((zNR ok).mpr ⟨l1,zO4.mpr ?_,?_⟩),by rw [er,e2']⟩
    ·rw [<- e1'];exact n1
    ·rw [<- e1',<- e2'];exact e3
 | @word sg lo hi F ok =>
  refine zD5 (zHK (zHS (hta _ (zE4 (zLd F (by decide +kernel) (by decide +kernel) (by decide +kernel) (by decide +kernel)) (ht _ ?_)))))
  refine ⟨o,_,_,_,_,_,_,_,_,rfl,F,ok.x,w0,w1,by omega,fun l H' ds g e pm=>?_⟩
  have mi : ∀ c,c ∈ ds↔(pad c wd f x=t/\nwd wd st c=true)/\Isw sg lo hi c:=fun c=>by
   rw [pm.mem_iff];unfold wvs;rw [mem_filter,zNp ok.x w1,decide_eq_true_iff]
  have nd:ds.Nodup:=pm.nodup_iff.mpr (List.Pairwise.filter _ (zMM ok.x w1))
  have hl:ds.length<=42:=by
   have:=(zNw (t:=t) (f:=f) (x:=x) (st:=st) w1).1
   rw [pm.length_eq];exact le_trans (length_filter_le _ _) (by omega)
  have nx:=zLG ok.x
  refine q l H' _ (ds.map fun c=>([],c)) g e ?_ ?_ ?_ (by rw [length_map];exact hl)
  ·refine Al.map ?_
   have hall : ∀ c ∈ ds,Isw sg lo hi c:=fun c hc=>((mi c).mp hc).2
   clear pm nd hl mi e
   induction ds with
   | nil=>exact .nil
   | cons c ds ih=>exact .cons (.word rfl (hall c (mem_cons_self ..))) (ih fun u hu=>hall u (mem_cons_of_mem _ hu))
  ·rw [map_map]
   exact List.pairwise_map.mpr (nd.imp fun h e=>h e)
  ·rintro ⟨ld,rs⟩
   rw [mem_map]
   constructor
   ·rintro ⟨c,hc,e⟩
    cases e
    obtain ⟨⟨h1,h2⟩,h3⟩:=(mi _).mp hc
    refine ⟨⟨h3,rfl⟩,zO4.mp h2,?_⟩
    unfold nfil;rw [if_neg nx];exact h1
   ·rintro ⟨⟨h1,h2⟩,n1,e3⟩
    have h2':ld=[]:=h2
    subst h2'
    unfold nfil at e3;rw [if_neg nx] at e3
    exact ⟨rs,(mi rs).mpr ⟨⟨e3,zO4.mpr n1⟩,h1⟩,rfl⟩
 | @cho L ns F e0 ok =>
  refine zD5 (zD5 (zHS (hta _ (zE4 (zK6 F (by decide +kernel) (by decide +kernel)) (ht _ ?_)))))
  refine ⟨o,_,_,_,_,_,_,_,rfl,F,e0,by have:=ok.n2;omega,ok.x,w0,w1,by omega,fun l H' g e=>?_⟩
  have nx:=zLG ok.x
  have mi : ∀ c,c ∈ cvs ns t wd f x st↔c ∈ ns/\(pad c wd f x=t/\nwd wd st c=true):=fun c=>by
   unfold cvs;rw [mem_filter,decide_eq_true_iff,zNp ok.x w1]
  have nd:(cvs ns t wd f x st).Nodup:=List.Pairwise.filter _ ok.nd
  have hl:(cvs ns t wd f x st).length<=42:=le_trans (length_filter_le _ _) (by have:=ok.n2;omega)
  refine q l H' _ ((cvs ns t wd f x st).map fun c=>([],c)) g e ?_ ?_ ?_ (by rw [length_map];exact hl)
  ·refine Al.map ?_
   have hall : ∀ c ∈ cvs ns t wd f x st,c ∈ ns:=fun c hc=>((mi c).mp hc).1
   clear nd hl mi e
   generalize cvs ns t wd f x st=ds at hall ⊢
   induction ds with
   | nil=>exact .nil
   | cons c ds ih=>exact .cons (.cho rfl (hall c (mem_cons_self ..))) (ih fun u hu=>hall u (mem_cons_of_mem _ hu))
  ·rw [map_map]
   exact List.pairwise_map.mpr (nd.imp fun h e=>h e)
  ·rintro ⟨ld,rs⟩
   rw [mem_map]
   constructor
   ·rintro ⟨c,hc,e⟩
    cases e
    obtain ⟨h3,h1,h2⟩:=(mi _).mp hc
    refine ⟨⟨h3,rfl⟩,zO4.mp h2,?_⟩
    unfold nfil;rw [if_neg nx];exact h1
   ·rintro ⟨⟨h1,h2⟩,n1,e3⟩
    have h2':ld=[]:=h2
    subst h2'
    unfold nfil at e3;rw [if_neg nx] at e3
    exact ⟨rs,(mi rs).mpr ⟨h1,e3,zO4.mpr n1⟩,rfl⟩
theorem VlA.col (h:VlA H v d ld rs):CoL d (ld++rs) ld:=by
 cases h with
 | @num p fg pl b sn z m pt wy k hv hp lim=>exact ⟨k,lim,by rw [<- zBw];rfl,rfl⟩
 | word hv iw=>exact ⟨iw,rfl⟩
 | cho hv hm=>exact ⟨hm,rfl⟩
theorem CoL.cut {c:List Nat} (h:CoL d c ld) : ∃ rs,c=ld++rs:=by
 cases d with
 | num fg pl b sn z m pt wy =>
  obtain ⟨k,_,rfl,rfl⟩:=h
  exact ⟨_,(zBw (pl:=pl) (b:=b) (sn:=sn) (z:=z) (m:=m) (pt:=pt) (k:=k))⟩
 | word sg lo hi=>exact ⟨c,by rw [show ld=[] from h.2];rfl⟩
 | cho ns=>exact ⟨c,by rw [show ld=[] from h.2];rfl⟩
theorem zOZ {o:Addr} (h:FdAt K H o cN cW cC wd f x st d) {k:Nat} {t:List Nat} (hk:k < (lks wd f x st d).length) (ft:Fit ((lks wd f x st d).getD k []) t) : ∃ p,VoT wd f x st t d p/\LkF wd st d (p.1++p.2) k:=by
 obtain ⟨g,g1,g2,g3⟩:=zIr (p:=fits wd st) (cors d)
 have hk':k < ((cors d).filter (fits wd st)).length:=by unfold lks at hk;rwa [length_map] at hk
 have hq:=getElem?_eq_getElem hk'
 generalize ((cors d).filter (fits wd st))[k]=q at hq
 have el:(lks wd f x st d).getD k []=flk wd f x q:=by unfold lks;rw [getD_eq_getElem?_getD,getElem?_map,hq];rfl
 rw [el] at ft
 have hj:=(g2 k hk').2.symm.trans hq
 obtain ⟨c,ld,lk,co,e⟩:=(zOB h hj).mp ft
 obtain ⟨rs,rfl⟩:=co.cut
 have fq:=(zHA h hj).mpr lk
 have kept:=(List.mem_filter.mp (mem_of_getElem? hq)).2
 refine ⟨(ld,rs),⟨co,?_,e.symm⟩,q,hq,fq⟩
 unfold fits at kept
 have:=fq.len
 rw [<- this] at kept
 cases hb:(st && decide (wd < ((ld++rs).length:Int))) with
 | false=>rfl
 | true=>rw [hb] at kept;cases kept
theorem FdAt.nd {o:Addr} (h:FdAt K H o cN cW cC wd f x st d):NdN d:=by
 cases h with
 | num F ok=>exact trivial
 | word F ok=>exact trivial
 | cho F e ok=>exact ok.nd
theorem zTH {K:PySem.W.Frag} {o cT:Addr} {t:TA} (D:FdAt K H o cN cW cC wd f x st d) (W:VlA H v d ld rs) (nw:(st && decide (wd < ((ld++rs).length:Int)))=false)
  (hta : ∀ Q':VK,Q' (.ref o) H->ta σ H Q') (ht : ∀ Q':List V->Hp->Prop,Q' [v] H->t σ H Q') (q : ∀ H',Same H H'->Q (.str (T (nfil ld (ld++rs) wd f x))) H') :
  tOrE (zJB cN "put" (spc (zBq K cN cW cC cT)) [] E ta t) (tOrE (zJB cW "put" (spc (zBq K cN cW cC cT)) [] E ta t) (zJB cC "put" (spc (zBq K cN cW cC cT)) [] E ta t)) σ H Q:=by
 obtain ⟨_,_,_,sx,w0,w1⟩:=D.bd
 have co:=zXt D W
 have fin : ∀ E':XK,spc (zBq K cN cW cC cT) (.ref o::([v]++[])) H Q E':=fun E'=>⟨o,v,wd,f,x,st,_,_,rfl,co,w1,fun _ H' g=>q H' g,fun h=>by rw [nw] at h;cases h⟩
 cases D with
 | num F ok=>exact zHK (zHS (hta _ (zE4 (zLe F (by decide +kernel) (by decide +kernel)) (ht _ (fin _)))))
 | word F ok=>exact zD5 (zHK (zHS (hta _ (zE4 (zLd F (by decide +kernel) (by decide +kernel) (by decide +kernel) (by decide +kernel)) (ht _ (fin _))))))
 | cho F e ok=>exact zD5 (zD5 (zHS (hta _ (zE4 (zK6 F (by decide +kernel) (by decide +kernel)) (ht _ (fin _))))))
theorem zU4 {K:PySem.W.Frag} {o:Addr} {t:TA} (D:FdAt K H o cN cW cC wd f x st d) (W:VlA H v d ld rs)
  (hta : ∀ Q':VK,Q' (.ref o) H->ta σ H Q') (ht : ∀ Q':List V->Hp->Prop,Q' [v] H->t σ H Q') (q : ∀ H',Same H H'->Q (.str (T (ld++rs))) H') :
  tOrE (zJB cN "core" (zBy K cN) [] E ta t) (tOrE (zJB cW "core" (zCu K cW) [] E ta t) (zJB cC "core" (zCN K cC) [] E ta t)) σ H Q:=by
 have wk:=W.ok D.okS
 cases W with
 | @num p fg pl b sn z m pt wy k hv hp lim =>
  subst hv
  cases D with
  | num F ok =>
   have o1:=ok.fg1;have o2:=ok.fg2;have o3:=ok.pl1;have o4:=ok.pl2;have o5:=ok.b1;have o6:=ok.b2
   have pw:=pw6 (b:=b) (t:=pl) o5 o6 o4
   have lm:=zTV (n:=(k.natAbs:Int)) o1 o2 o3 o4 o5 o6 (by omega) (by unfold LimN at *;rw [natAbs_natCast];exact lim)
   refine zHK (zHS (hta _ (zE4 (zLe F (by decide +kernel) (by decide +kernel)) (ht _ ?_))))
   rw [<- zBw] at q
   exact zTC F ok hp (zRB (by omega) (by omega) (by omega) (by omega)) (zOI (by omega)) (zGy (by omega)) lim q
 | @word sg lo hi t hv iw =>
  subst hv
  cases D with
  | word F ok=>exact zD5 (zHK (zHS (hta _ (zE4 (zLd F (by decide +kernel) (by decide +kernel) (by decide +kernel) (by decide +kernel)) (ht _ ⟨o,sg,lo,hi,wd,f,x,st,_,rfl,F,by omega,iw,q⟩)))))
 | @cho ns t hv hm =>
  subst hv
  cases D with
  | cho F e ok=>exact zD5 (zD5 (zHS (hta _ (zE4 (zK6 F (by decide +kernel) (by decide +kernel)) (ht _ ⟨o,_,ns,wd,f,x,st,_,rfl,F,e,hm,q⟩)))))
def zEK (K:W.Frag) (cN cW cC:Addr):Sp:=fun vs H Q _=>∃ (o:Addr) (v:V) (wd:Int) (f:Nat) (x:Str) (st:Bool) (d:Fd) (ld rs:List Nat),vs=[.ref o,v]/\FdAt K H o cN cW cC wd f x st d/\VlA H v d ld rs/\(st && decide (wd < ((ld++rs).length:Int)))=false /\ ∀ (i:Nat) H',Same H H'->LkF wd st d (ld++rs) i->Q (.int i) H'
theorem zKz {o:Addr} (h1:FdAt K H o cN cW cC wd f x st d) (h2:VlA H v d ld rs) (h3:(st && decide (wd < ((ld++rs).length:Int)))=false) (q : ∀ (i:Nat) H',Same H H'->LkF wd st d (ld++rs) i->Q (.int i) H'):zEK K cN cW cC ([.ref o,v]++[]) H Q E:=⟨o,v,wd,f,x,st,d,ld,rs,rfl,h1,h2,h3,q⟩
theorem zNM (F:Fun K "look_for" "look_for" zGu fq fd) (B:Blt mg) (zAK:Cls K zAB) (zAS:Cls K zAD) (zAQ:Cls K zAC) (zKK:Has P w K mg base "fits" 1 ["look", "text"] (zHh K)) (zGV:Has P w K mg base "core_looks" 6 ["form"] (zD1 K zAB zAD zAC)) (zDt:HasM P w K mg base CX0 zAB "put" 6 ["self", "value"] (spc (zBq K zAB zAD zAC zAu))) (zE7:HasM P w K mg base CX0 zAD "put" 6 ["self", "value"] (spc (zBq K zAB zAD zAC zAu))) (zDx:HasM P w K mg base CX0 zAC "put" 6 ["self", "value"] (spc (zBq K zAB zAD zAC zAu))) (zDZ:HasM P w K mg base CX0 zAB "core" 4 ["self", "value"] (zBy K zAB)) (zEZ:HasM P w K mg base CX0 zAD "core" 2 ["self", "value"] (zCu K zAD)) (zDY:HasM P w K mg base CX0 zAC "core" 1 ["self", "value"] (zCN K zAC)):FnOk P w K mg base CX0 7 fq fd ["form", "value"] (zEK K zAB zAD zAC):=by
 refine F.ok zJo (fun vs H Q E h=>?_) (fun cdv A outer s H vs Q E hr h=>?_)
 ·obtain ⟨o,v,wd,f,x,st,d,ld,rs,rfl,D0,V0,nw,q⟩:=h
  rfl
 obtain ⟨o,v,wd,f,x,st,d,ld,rs,rfl,D0,V0,nw,q⟩:=h
 refine ⟨_,zAF (zCy (zCb (zAV zDt zAK zBV hr (pv 0) (zAA (pv 1) (zAE))) (zCb (zAV zE7 zAS zBV hr (pv 0) (zAA (pv 1) (zAE))) (zAV zDx zAQ zBV hr (pv 0) (zAA (pv 1) (zAE))))))
  (zAF (zAN (i:=2) zJo.nd rfl (Or.inr rfl) (zCb (zAV zDZ zAK zBV hr (pv 0) (zAA (pv 1) (zAE))) (zCb (zAV zEZ zAS zBV hr (pv 0) (zAA (pv 1) (zAE))) (zAV zDY zAQ zBV hr (pv 0) (zAA (pv 1) (zAE))))))
  (zAJ (zAO (zGL PySem.F.plainAttrs_list PySem.F.slot_list_index PySem.F.type_list_index zQP (zDF (cl:=[("core", s.heap.objs.size+1+0)]) (fr:=["core"]) (is:=[2]) rfl rfl ⟨rfl,trivial⟩ rfl ⟨⟨rfl,rfl,Or.inl rfl⟩,trivial⟩ (by decide) (by decide +kernel) rfl (by decide +kernel) rfl (zCg (zAI zGV hr rfl (zAA (pv 0) (zAE)))) (fun _ _ _ _=>zCn) (fun _ _ _ _=>zAI zKK hr rfl (zAA (zAR zDP (zAb (zEa (K:=K) rfl) (pv 0) (zAG) (fun _ _=>rfl)) (zAb (zEa (K:=K) rfl) (pv 0) (zAG) (fun _ _=>rfl))) (zAA (pv 1) (zAE))))) (zAA (zEz) (zAE)))))),?_⟩
 walk_at "st"
 obtain ⟨l1,l2,a1,a2⟩:=V0.ok D0.okS
 obtain ⟨cl,cb⟩:=zMw D0
 walk_at "rd"
 refine zTH D0 V0 nw (fun Q' h=>by walk_at "rd"; exact h) (fun Q' h=>by walk_at "rd"; exact h) fun H1 g1=>?_
 walk_at "rd"
 refine zU4 (D0.same g1) (V0.same g1) (fun Q' h=>by walk_at "rd"; exact h) (fun Q' h=>by walk_at "rd"; exact h) fun H2 g2=>?_
 walk_at "rd"
 refine ⟨o,wd,f,x,st,d,rfl,(D0.same g1).same g2,fun l3 H3 us g3 e3 al=>?_⟩
 have fl:=length_filter_le (fits wd st) (cors d)
 have ln:=al.len
 refine zBM (SqL.of e3) (small (by omega)) (fun i ys H'=>Same H3 H'/\ys=((((cors d).filter (fits wd st)).take i).map fun q=>fitB (q.1++q.2) (ld++rs)).map V.bl) ⟨Same.refl _,rfl⟩ (fun i ys H' hi h=>⟨SqL.of (h.1.at e3),by rw [h.2,length_map,length_map,length_take];omega⟩) ?_ ?_
 ·rintro i v' ys H4 hv hi ⟨g4,rfl⟩
  obtain ⟨c,hc,t,a,b,rfl,_,et,ea,eb⟩:=al.get hv
  have bd:=cb c (List.mem_filter.mp (mem_of_getElem? hc)).1
  have et4:=g4.at et;have ea4:=g4.at ea;have eb4:=g4.at eb
  walk_at "rd"
  rename_i p6 H6 g6 n6 e6
  refine zOE e6 (by rw [length_append];omega) (by rw [length_append];omega) fun H7 g7=>?_
  refine nxC hi ⟨g4.trans (g6.trans g7),?_⟩
  rw [take_succ,hc,map_append,map_append];rfl
 ·rintro ys H4 ⟨g4,rfl⟩ p5 H5 g5 n5 e5
  rw [take_of_length_le (by omega)] at e5
  walk_at "rd"
  obtain ⟨i,hi,lf⟩:=LkF.ex D0 V0.col nw
  have at_ : ∀ m,((((cors d).filter (fits wd st)).map fun q=>fitB (q.1++q.2) (ld++rs))[m]? = some true)↔LkF wd st d (ld++rs) m:=fun m=>by
   rw [getElem?_map]
   unfold LkF
   cases hq:((cors d).filter (fits wd st))[m]? with
   | none=>exact ⟨fun h=>(by cases h),fun ⟨q,h,_⟩=>(by cases h)⟩
   | some q=>exact ⟨fun h=>⟨q,rfl,zFx.mp (Option.some.inj h)⟩,fun ⟨q',h,ff⟩=>(by cases h;exact congrArg some (zFx.mpr ff))⟩
  exact ⟨p5,_,i,rfl,rfl,e5,(at_ i).mpr lf,fun m hm h=>by have:=LkF.one D0 D0.nd ((at_ m).mp h) lf;omega,by omega,q i _ (g1.trans (g2.trans (g3.trans (g4.trans g5)))) lf⟩
variable {us:List V}
theorem zR1 {P:Addr->Prop} {cs:List Ce} {k:Nat} (al:Al (RL H P) us cs) (h:us[k]? = some v) : ∃ q,v = .ref q/\H q=some (.lst (tsV (cs.getD k [])))/\cs.getD k [] ∈ cs:=by
 obtain ⟨c,hc,q,rfl,_,e⟩:=al.get h
 rw [getD_eq_getElem?_getD,hc]
 exact ⟨q,rfl,e,mem_of_getElem? hc⟩
def zEe (K:W.Frag) (cN cW cC:Addr):Sp:=fun vs H Q _=>∃ (o:Addr) (k:Nat) (t:List Nat) (wd:Int) (f:Nat) (x:Str) (st:Bool) (d:Fd),vs=[.ref o,.int k,.str (T t)]/\FdAt K H o cN cW cC wd f x st d/\k < (lks wd f x st d).length/\Asc t/\t.length<=300/\Fit ((lks wd f x st d).getD k []) t /\ ∀ v H' p,Same H H'->VlA H' v d p.1 p.2->VoT wd f x st t d p->LkF wd st d (p.1++p.2) k->Q v H'
theorem zIR {o:Addr} {k:Nat} {t:List Nat} (h1:FdAt K H o cN cW cC wd f x st d) (h2:k < (lks wd f x st d).length) (h3:Asc t) (h4:t.length<=300) (h5:Fit ((lks wd f x st d).getD k []) t) (q : ∀ v H' p,Same H H'->VlA H' v d p.1 p.2->VoT wd f x st t d p->LkF wd st d (p.1++p.2) k->Q v H'):zEe K cN cW cC ([.ref o,.int k,.str (T t)]++[]) H Q E:=⟨o,k,t,wd,f,x,st,d,rfl,h1,h2,h3,h4,h5,q⟩
open Classical in
theorem zNJ (F:Fun K "value_in" "value_in" zG4 fq fd) (B:Blt mg) (zAK:Cls K zAB) (zAS:Cls K zAD) (zAQ:Cls K zAC) (zKK:Has P w K mg base "fits" 1 ["look", "text"] (zHh K)) (zIZ:Has P w K mg base "looks_of" 7 ["form"] (zEL K zAB zAD zAC)) (zIn:Has P w K mg base "look_for" 7 ["form", "value"] (zEK K zAB zAD zAC)) (zBK:HasM P w K mg base CX0 zAB "values_for" 7 ["self", "text"] (zBE K zAB)) (zBX:HasM P w K mg base CX0 zAD "values_for" 5 ["self", "text"] (zBQ K zAD)) (zBL:HasM P w K mg base CX0 zAC "values_for" 5 ["self", "text"] (zBH K zAC)):FnOk P w K mg base CX0 8 fq fd ["form", "at", "text"] (zEe K zAB zAD zAC):=by
 refine F.ok zNd (fun vs H Q E h=>?_) (fun cdv A outer s H vs Q E hr h=>?_)
 ·obtain ⟨o,k,t,wd,f,x,st,d,rfl,D0,hk,at',tl,ft,q⟩:=h
  rfl
 obtain ⟨o,k,t,wd,f,x,st,d,rfl,D0,hk,at',tl,ft,q⟩:=h
 refine ⟨_,zAF (zBN (zCT (zBt (zAI zKK hr rfl (zAA (zAb zAv (zAI zIZ hr rfl (zAA (pv 0) (zAE))) (pv 1) (fun _ _=>rfl)) (zAA (pv 2) (zAE)))))) (zAJ (zFt)) (zAY))
  (zAJ (zAO (zAb zAv (zDF (cl:=[("form", s.heap.objs.size+1+0),("at", s.heap.objs.size+1+1)]) (fr:=["at", "form"]) (is:=[1,0]) rfl rfl ⟨rfl,⟨rfl,trivial⟩⟩ rfl ⟨⟨rfl,rfl,Or.inl rfl⟩,⟨⟨rfl,rfl,Or.inl rfl⟩,trivial⟩⟩ (by decide) (by decide +kernel) rfl (by decide +kernel) rfl (zCg (zCb (zAV zBK zAK zBV hr (pv 0) (zAA (pv 2) (zAE))) (zCb (zAV zBX zAS zBV hr (pv 0) (zAA (pv 2) (zAE))) (zAV zBL zAQ zBV hr (pv 0) (zAA (pv 2) (zAE)))))) (fun _ _ _ _=>zEk (zAW zCl (zAI zIn hr rfl (zAA (pv 2) (zAA (pv 0) (zAE)))) (pv 1) (zAZ _))) (fun _ _ _ _=>pv 0)) (zAG) (fun _ _=>rfl)))),?_⟩
 walk_at "st"
 obtain ⟨ll,lb⟩:=zOU D0
 walk_at "rd"
 refine zKn D0 fun l1 H1 us1 g1 n1 e1 al1=>?_
 have ln1:=al1.len
 walk_at "rd"
 refine zE1 (SqL.of e1) (by omega) (by omega) fun y hy=>?_
 rw [toNat_natCast] at hy
 obtain ⟨q2,rfl,e2,m2⟩:=zR1 al1 hy
 walk_at "rd"
 refine zOE e2 (lb _ m2).2 (by omega) fun H2 g2=>?_
 rw [zFx.mpr ft]
 walk_at "rd"
 refine zQp ((D0.same g1).same g2) at' tl (fun Q' h=>by walk_at "rd"; exact h) (fun Q' h=>by walk_at "rd"; exact h) fun l3 H3 us cs g3 e3 al nd mi hl=>?_
 have D3:=((D0.same g1).same g2).same g3
 have ln:=al.len
 refine zBM (SqL.of e3) (small (by omega)) (fun i ys H'=>Same H3 H'/\Al (fun v p=>VlA H' v d p.1 p.2) ys ((cs.take i).filter fun p=>decide (LkF wd st d (p.1++p.2) k))) ⟨Same.refl _,.nil⟩ (fun i ys H' hi h=>⟨SqL.of (h.1.at e3),by rw [h.2.len];exact le_trans (length_filter_le _ _) (by rw [length_take];omega)⟩) ?_ ?_
 ·rintro i v' ys H4 hv hi ⟨g4,al4⟩
  obtain ⟨c,hc,vl⟩:=al.get hv
  have vo:=(mi c).mp (mem_of_getElem? hc)
  walk_at "rd"
  refine zKz (D3.same g4) (vl.same g4) vo.2.1 fun j H5 g5 lf=>?_
  have al5:=al4.imp fun _ _ h=>h.same g5
  walk_at "rd"
  ·rename_i hjk
   have hjk':j=k:=by omega
   subst hjk'
   refine nxC hi ⟨g4.trans g5,?_⟩
   rw [fil1 hc,filter_cons_of_pos (p:=fun p:List Nat × List Nat=>decide (LkF wd st d (p.1++p.2) j)) (decide_eq_true lf)]
   exact al5.app (.one ((vl.same g4).same g5))
  ·rename_i hjk
   refine nxC hi ⟨g4.trans g5,?_⟩
   rw [fil1 hc,filter_cons_of_neg (p:=fun p:List Nat × List Nat=>decide (LkF wd st d (p.1++p.2) k)) (by rw [decide_eq_true_iff];exact fun z=>hjk (by have:=LkF.one D0 D0.nd lf z;omega)),filter_nil,append_nil]
   exact al5
 ·rintro ys H4 ⟨g4,al4⟩ p5 H5 g5 n5 e5
  rw [take_of_length_le (by omega)] at al4
  obtain ⟨p,vp,lp⟩:=zOZ D0 hk ft
  have mp:p ∈ cs.filter fun p=>decide (LkF wd st d (p.1++p.2) k):=List.mem_filter.mpr ⟨(mi p).mpr vp,decide_eq_true lp⟩
  have l0:=List.length_pos_of_mem mp
  have l4:=al4.len
  walk_at "rd"
  refine zE1 (SqL.of e5) (by decide) (by omega) fun y hy=>?_
  obtain ⟨c,hc,vl⟩:=al4.get hy
  obtain ⟨m1,m2⟩:=List.mem_filter.mp (mem_of_getElem? hc)
  exact q _ _ c (g1.trans (g2.trans (g3.trans (g4.trans g5)))) (vl.same g5) ((mi c).mp m1) (of_decide_eq_true m2)
def zCW (K:W.Frag):Sp:=fun vs H Q _=>vs=[] /\ ∀ l:List Nat,l.length=94->Asc l->l.Pairwise (· < ·)->Q (.str (T l)) H
theorem zQq (q : ∀ l:List Nat,l.length=94->Asc l->Q (.str (T l)) H):zCW K ([]++[]) H Q E:=⟨rfl,fun l h a _=>q l h a⟩
theorem zRu (q : ∀ l:List Nat,l.length=94->Asc l->l.Pairwise (· < ·)->Q (.str (T l)) H):zCW K ([]++[]) H Q E:=⟨rfl,q⟩
local macro_rules | `(tactic| walk_at "rdc")=>`(tactic| ((with_reducible refine zQq ?_);intro l' hl' al'))
def zDV (K:W.Frag):Sp:=fun vs H Q _=>∃ n t:Int,vs=[.int n,.int t]/\0<=t /\ ∀ c:Nat,c < 127->Q (.str (T [c])) H
theorem zXE {n:Int} (h1:0<=t) (q : ∀ c:Nat,c < 127->Q (.str (T [c])) H):zDV K ([.int n,.int t]++[]) H Q E:=⟨n,t,rfl,h1,q⟩
local macro_rules | `(tactic| walk_at "rdc")=>`(tactic| ((with_reducible refine' zXE ?h1 ?_);(case h1=>omega);intro c' hc'))
inductive SpAt (H:Hp) (p:Addr) (wd:Int) (f:Nat) (x:Str) (st:Bool):Fd->Prop
 | num {fg pl b:Int} {sn:Str} {z:Int} {m pt:Nat} {wy:Str} (e:H p=some (.tup [.str "number", .int fg,.int pl,.int b,.str sn,.int z,.str (T [m]),.str (T [pt]),.str wy,.int wd,.str (T [f]),.str x,.bl st])) (ok:NumS fg pl b sn z m pt wy wd f x):SpAt H p wd f x st (.num fg pl b sn z m pt wy)
 | word {sg:List Nat} {lo hi:Int} (e:H p=some (.tup [.str "word", .str (T sg),.int lo,.int hi,.int wd,.str (T [f]),.str x,.bl st])) (ok:WdS sg lo hi wd f x):SpAt H p wd f x st (.word sg lo hi)
 | cho {L:Addr} {ns:Ce} (e:H p=some (.tup [.str "choice", .ref L,.int wd,.str (T [f]),.str x,.bl st])) (eL:H L=some (.lst (tsV ns))) (ok:ChS ns wd f x):SpAt H p wd f x st (.cho ns)
theorem SpAt.same (g:Same H H') (h:SpAt H p wd f x st d):SpAt H' p wd f x st d:=by
 cases h with
 | num e ok=>exact .num (g.at e) ok
 | word e ok=>exact .word (g.at e) ok
 | cho e eL ok=>exact .cho (g.at e) (g.at eL) ok
theorem zMd (F:Fun K "_law_signs" "_law_signs" zF6 fq fd) (B:Blt mg):FnOk P w K mg base CX0 1 fq fd [] (zCW K):=by
 refine F.ok zMX (fun vs H Q E h=>?_) (fun cdv A outer s H vs Q E hr h=>?_)
 ·obtain ⟨rfl,q⟩:=h
  rfl
 obtain ⟨rfl,q⟩:=h
 refine ⟨_,zAJ (zAO (zA2)),?_⟩
 walk_at "st"
 walk_at "rd"
 have q':=q (Lt " !\"#$&'()*+,-./0123456789:;<=>?@ABCDEFGHIJKLMNOPQRSTUVWXYZ[\\]^_`abcdefghijklmnopqrstuvwxyz{|}~") (by decide +kernel) (by unfold Asc;decide +kernel) (by decide +kernel)
 rw [T_Lt] at q'
 exact q'
theorem zNb (F:Fun K "_law_sign" "_law_sign" zGv fq fd) (B:Blt mg) (zAM:Has P w K mg base "_law_pick" 1 ["_law_cell", "_law_salt", "_law_many"] (zBg K)) (zEO:Has P w K mg base "_law_signs" 1 [] (zCW K)):FnOk P w K mg base CX0 2 fq fd ["_law_cell", "_law_salt"] (zDV K):=by
 refine F.ok zJu (fun vs H Q E h=>?_) (fun cdv A outer s H vs Q E hr h=>?_)
 ·obtain ⟨n,t,rfl,h0,q⟩:=h
  rfl
 obtain ⟨n,t,rfl,h0,q⟩:=h
 refine ⟨_,zAF (zAN (i:=2) zJu.nd rfl (Or.inl rfl) (zA2))
  (zAF (zBN (zAW zIf (zAI zAM hr rfl (zAA (pv 0) (zAA (pv 1) (zAA (zAG) (zAE))))) (zAG) (zAZ _)) (zAJ (zAO (zAb zER (pv 2) (zAI zAM hr rfl (zAA (pv 0) (zAA (zAR zBA (pv 1) (zAG)) (zAA (zAL zA6 B.vAA rfl zBF (zAA (pv 2) (zAE))) (zAE))))) (fun _ _=>rfl)))) (zAY))
  (zAJ (zAO (zAb zER (zJZ zEO hr rfl) (zAI zAM hr rfl (zAA (pv 0) (zAA (zAR zBA (pv 1) (zAG)) (zAA (zAG) (zAE))))) (fun _ _=>rfl))))),?_⟩
 walk_at "st"
 have l13:(Lt " 0-+(1*)_,.9f").length=13:=by decide +kernel
 have a1 : ∀ c ∈ Lt " 0-+(1*)_,.9f", c < 127:=by decide +kernel
 walk_at "rd"
 ·rename_i c' hc';exact q _ (a1 _ hc')
 ·rename_i l' hl' al' v' h0' h1'
  refine q _ (al' _ ?_)
  rw [getD_eq_getElem?_getD,getElem?_eq_getElem (by omega)]
  exact getElem_mem _
variable {xs:List V}
theorem zHf (P:Int->Prop) (e:H p=some (.lst xs)) (h0:0<=i) (h1:i < xs.length) (hx : ∀ v ∈ xs,∃ k,v = .int k/\P k) (q : ∀ k,P k->Q (.int k) H):rIxL K (.ref p) (.int i) H Q:=
 zE1 (SqL.of e) h0 h1 fun x hi=>by
  obtain ⟨k,rfl,hk⟩:=hx x (mem_of_getElem? hi)
  exact q k hk
theorem zHe (P:Str->Prop) (e:H p=some (.lst xs)) (h0:0<=i) (h1:i < xs.length) (hx : ∀ v ∈ xs,∃ k,v = .str k/\P k) (q : ∀ k,P k->Q (.str k) H):rIxL K (.ref p) (.int i) H Q:=
 zE1 (SqL.of e) h0 h1 fun x hi=>by
  obtain ⟨k,rfl,hk⟩:=hx x (mem_of_getElem? hi)
  exact q k hk
theorem zUy : ∀ v ∈ [V.str "minus", V.str "plus", V.str "blank", V.str "brackets", V.str "behind"],∃ k,v = .str k/\zEN k:=by
 simp only [mem_cons,not_mem_nil,or_false]
 rintro v (rfl | rfl | rfl | rfl | rfl)
 ·exact ⟨_,rfl,.inl rfl⟩
 ·exact ⟨_,rfl,.inr (.inl rfl)⟩
 ·exact ⟨_,rfl,.inr (.inr (.inl rfl))⟩
 ·exact ⟨_,rfl,.inr (.inr (.inr (.inl rfl)))⟩
 ·exact ⟨_,rfl,.inr (.inr (.inr (.inr rfl)))⟩
theorem zT0 : ∀ v ∈ [V.str "down", V.str "up", V.str "cut", V.str "near", V.str "even"],∃ k,v = .str k/\Way k:=by
 simp only [mem_cons,not_mem_nil,or_false]
 rintro v (rfl | rfl | rfl | rfl | rfl)
 ·exact ⟨_,rfl,.inl rfl⟩
 ·exact ⟨_,rfl,.inr (.inl rfl)⟩
 ·exact ⟨_,rfl,.inr (.inr (.inl rfl))⟩
 ·exact ⟨_,rfl,.inr (.inr (.inr (.inl rfl)))⟩
 ·exact ⟨_,rfl,.inr (.inr (.inr (.inr rfl)))⟩
theorem zR3 : ∀ v ∈ [V.str "right", V.str "left", V.str "middle", V.str "inside"],∃ k,v = .str k/\zJv k:=by
 simp only [mem_cons,not_mem_nil,or_false]
 rintro v (rfl | rfl | rfl | rfl)
 ·exact ⟨_,rfl,.inl (.inr (.inl rfl))⟩
 ·exact ⟨_,rfl,.inl (.inl rfl)⟩
 ·exact ⟨_,rfl,.inl (.inr (.inr rfl))⟩
 ·exact ⟨_,rfl,.inr rfl⟩
theorem zOV : ∀ v ∈ [V.str "left", V.str "right", V.str "middle"],∃ k,v = .str k/\Side k:=by
 simp only [mem_cons,not_mem_nil,or_false]
 rintro v (rfl | rfl | rfl)
 ·exact ⟨_,rfl,.inl rfl⟩
 ·exact ⟨_,rfl,.inr (.inl rfl)⟩
 ·exact ⟨_,rfl,.inr (.inr rfl)⟩
def zCO (K:W.Frag):Sp:=fun vs H Q _=>∃ (c o s:Int),vs=[.int c,.int o,.int s]/\(s=0\/s=1) /\ ∀ p H' wd f x st d,Same H H'->SpAt H' p wd f x st d->Q (.ref p) H'
variable {s:Int}
theorem zK2 {o:Int} (h:s=0\/s=1) (q : ∀ p H' wd f x st d,Same H H'->SpAt H' p wd f x st d->Q (.ref p) H'):zCO K ([.int c,.int o,.int s]++[]) H Q E:=⟨c,o,s,rfl,h,q⟩
theorem zIF (F:Fun K "_law_number_spec" "_law_number_spec" zCY fq fd) (B:Blt mg) (zAM:Has P w K mg base "_law_pick" 1 ["_law_cell", "_law_salt", "_law_many"] (zBg K)) (zDW:Has P w K mg base "_law_sign" 2 ["_law_cell", "_law_salt"] (zDV K)):FnOk P w K mg base CX0 3 fq fd ["_law_cell", "_law_other", "_law_small"] (zCO K):=by
 refine F.ok zAc (fun vs H Q E h=>?_) (fun cdv A outer s H vs Q E hr h=>?_)
 ·obtain ⟨c,o,s0,rfl,hs,q⟩:=h
  rfl
 obtain ⟨c,o,s0,rfl,hs,q⟩:=h
 refine ⟨_,zAF (zAN (i:=3) zAc.nd rfl (Or.inl rfl) (zAR zBA (zAG) (zAI zAM hr rfl (zAA (pv 0) (zAA (zAG) (zAA (zAb zAv (zA1 (zAA (zAG) (zAA (zAG) (zAE)))) (pv 2) (fun _ _=>rfl)) (zAE)))))))
  (zAF (zAN (i:=4) zAc.nd rfl (Or.inl rfl) (zAI zAM hr rfl (zAA (pv 0) (zAA (zAG) (zAA (zAb zAv (zA1 (zAA (zAG) (zAA (zAG) (zAE)))) (pv 2) (fun _ _=>rfl)) (zAE))))))
  (zAF (zAN (i:=5) zAc.nd rfl (Or.inl rfl) (zAb zAv (zA1 (zAA (zAG) (zAA (zAG) (zAA (zAb zAv (zA1 (zAA (zAG) (zAA (zAG) (zAE)))) (pv 2) (fun _ _=>rfl)) (zAA (zAb zAv (zA1 (zAA (zAR zBA (zAG) (zAI zAM hr rfl (zAA (pv 0) (zAA (zAG) (zAA (zAG) (zAE)))))) (zAA (zAG) (zAE)))) (pv 2) (fun _ _=>rfl)) (zAE)))))) (zAI zAM hr rfl (zAA (pv 0) (zAA (zAG) (zAA (zAG) (zAE))))) (fun _ _=>rfl)))
  (zAF (zAN (i:=6) zAc.nd rfl (Or.inl rfl) (zAb zAv (zA1 (zAA (zA2) (zAA (zA2) (zAA (zA2) (zAA (zA2) (zAA (zA2) (zAE))))))) (zAI zAM hr rfl (zAA (pv 0) (zAA (zAG) (zAA (zAG) (zAE))))) (fun _ _=>rfl)))
  (zAF (zAN (i:=7) zAc.nd rfl (Or.inl rfl) (zAb zAv (zA1 (zAA (zAG) (zAA (zAG) (zAA (zAR zBA (zAG) (zAI zAM hr rfl (zAA (pv 0) (zAA (zAG) (zAA (zAG) (zAE)))))) (zAE))))) (zAI zAM hr rfl (zAA (pv 0) (zAA (zAG) (zAA (zAG) (zAE))))) (fun _ _=>rfl)))
  (zAF (zAN (i:=8) zAc.nd rfl (Or.inl rfl) (zAb zAv (zA1 (zAA (zA2) (zAA (zA2) (zAA (zA2) (zAA (zA2) (zAA (zA2) (zAE))))))) (zAI zAM hr rfl (zAA (pv 0) (zAA (zAG) (zAA (zAG) (zAE))))) (fun _ _=>rfl)))
  (zAF (zAN (i:=9) zAc.nd rfl (Or.inl rfl) (zFI (zAA (zAI zDW hr rfl (zAA (pv 1) (zAA (zAG) (zAE)))) (zAA (zAI zDW hr rfl (zAA (pv 1) (zAA (zAG) (zAE)))) (zAA (zAI zDW hr rfl (zAA (pv 1) (zAA (zAG) (zAE)))) (zAE))))))
  (zAF (zAN (i:=10) zAc.nd rfl (Or.inl rfl) (zA1 (zAA (zAG) (zAA (zAR zBA (zAG) (zAI zAM hr rfl (zAA (pv 1) (zAA (zAG) (zAA (zAb zAv (zA1 (zAA (zAG) (zAA (zAG) (zAE)))) (pv 2) (fun _ _=>rfl)) (zAE)))))) (zAA (zAR zBA (zAG) (zAI zAM hr rfl (zAA (pv 1) (zAA (zAG) (zAA (zAb zAv (zA1 (zAA (zAG) (zAA (zAG) (zAE)))) (pv 2) (fun _ _=>rfl)) (zAE)))))) (zAE))))))
  (zAF (zAN (i:=11) zAc.nd rfl (Or.inl rfl) (zAb zAv (pv 10) (zAI zAM hr rfl (zAA (pv 1) (zAA (zAG) (zAA (zAG) (zAE))))) (fun _ _=>rfl)))
  (zAF (zAN (i:=12) zAc.nd rfl (Or.inl rfl) (zAb zAv (zA1 (zAA (zA2) (zAA (zA2) (zAA (zA2) (zAA (zA2) (zAE)))))) (zAI zAM hr rfl (zAA (pv 1) (zAA (zAG) (zAA (zAG) (zAE))))) (fun _ _=>rfl)))
  (zAF (zAN (i:=13) zAc.nd rfl (Or.inl rfl) (zBu zCl (zAI zAM hr rfl (zAA (pv 1) (zAA (zAG) (zAA (zAG) (zAE))))) (zAG) (zAZ _)))
  (zAJ (zAO (zFI (zAA (zA2) (zAA (pv 3) (zAA (pv 4) (zAA (pv 5) (zAA (pv 6) (zAA (pv 7) (zAA (zAb zBc (pv 9) (zAG) (fun _ _=>rfl)) (zAA (zAb zBc (pv 9) (zAG) (fun _ _=>rfl)) (zAA (pv 8) (zAA (pv 11) (zAA (zAb zBc (pv 9) (zAG) (fun _ _=>rfl)) (zAA (pv 12) (zAA (pv 13) (zAE) zA7) zA7) zGk) zA7) zA7) zGk) zGk) zA7) zA7) zA7) zA7) zA7) zJa)))))))))))))),?_⟩
 walk_at "st"
 rcases hs with rfl | rfl
 all_goals
  walk_at "rd"
  rename_i p4 H4 g4 n4 e4 v3 h03 h13 p3 H3 g3 n3 e3 v2 h02 h12 p2 H2 g2 n2 e2 v1 h01 h11 p1 H1 g1 n1 e1 p0 H0 g0 n0 e0 v0 h00 h10
  refine zHf (fun b=>2<=b/\b<=16) e0 (by omega) (by show _ < (4:Int);omega) (by simp only [mem_cons,not_mem_nil,or_false];rintro v (rfl | rfl | rfl | rfl) <;> exact ⟨_,rfl,by omega,by omega⟩) fun b hb=>?_
  have gA:Same H H0:=by walk_at "sm"
  clear e0 e1 e2 e3 e4
  walk_at "rd"
  rename_i p5 H5 g5 n5 e5 v5 h05 h15
  refine zHe zEN e5 (by omega) (by show _ < (5:Int);omega)  zUy fun sn hsn=>?_
  clear e5
  walk_at "rd"
  rename_i v6 h06 h16 p7 H7 g7 n7 e7 v7 h07 h17
  refine zHf (fun z=>0<=z/\z<=9) e7 (by omega) (by show _ < (3:Int);omega) (by simp only [mem_cons,not_mem_nil,or_false];rintro v (rfl | rfl | rfl) <;> exact ⟨_,rfl,by omega,by omega⟩) fun z hz=>?_
  clear e7
  walk_at "rd"
  rename_i p8 H8 g8 n8 e8 v8 h08 h18
  refine zHe Way e8 (by omega) (by show _ < (5:Int);omega)  zT0 fun wy hwy=>?_
  clear e8
  walk_at "rd"
  rename_i c3 hc3 c2 hc2 c1 hc1 pA HA gA1 eA pB HB gB nB eB v9 h09 h19 pC HC gC nC eC v10 h010 h110 pD HD gD nD eD v11 h011 h111
  refine zHf (fun wd=>0<=wd/\wd<=40) eD (by omega) (by show _ < (3:Int);omega) (by simp only [mem_cons,not_mem_nil,or_false];rintro v (rfl | rfl | rfl) <;> exact ⟨_,rfl,by omega,by omega⟩) fun wd hwd=>?_
  clear eD eC eB
  walk_at "rd"
  rename_i pE HE gE nE eE v12 h012 h112
  refine zHe zJv eE (by omega) (by show _ < (4:Int);omega) zR3 fun y hy=>?_
  clear eE
  walk_at "rd"
  rename_i v13 h013 h113 pF HF gF eF
  exact q _ _ _ _ _ _ _ (by walk_at "sm") (.num eF ⟨by omega,by omega,by omega,by omega,hb.1,hb.2,hsn,hz.1,hz.2,by assumption,by assumption,hwy,hwd.1,hwd.2,by assumption,hy⟩)
def zDK (K:W.Frag) (C:Addr):Sp:=fun vs H Q _=>∃ (p:Addr) (fg pl b:Int) (sn:Str) (z:Int) (m pt:Nat) (wy:Str) (wd:Int) (f:Nat) (x:Str) (st:Bool),vs=[.ref p]/\H p=some (.tup [.str "number", .int fg,.int pl,.int b,.str sn,.int z,.str (T [m]),.str (T [pt]),.str wy,.int wd,.str (T [f]),.str x,.bl st]) /\ ∀ o H',Same H H'->zAT K H' o C wd f x st (zB9 fg pl b sn z m pt wy)->Q (.ref o) H'
theorem zR5 {a:Addr} {lo hi:Option Int} (h:H a=some (.tup xs)) (hn:xs.length=n) (hw : ¬ (HT.sIx n 0 lo=0/\HT.sIx n n hi=n)) (q : ∀ p H',Same H H'->H' p=some (.tup (cutV xs lo hi))->Q (.ref p) H'):rSlT K (.ref a) lo hi H Q:=⟨a,xs,rfl,SqT.of h,by rw [hn];exact hw,fun p hp=>q p _ (zDk hp _) zAU⟩
theorem zHu (F:Fun K "_law_number_form" "_law_number_form" zCZ fq fd) (B:Blt mg) (zC3:mg "NumberForm" = some (.ref zAB)) (zIc:HasI P w K mg base CX0 zAB 2 ["self", "figures", "places", "base", "sign", "size", "mark", "point", "way", "width", "fill", "side", "strict"] (zDR K zAB))(cl:Cls K zAB) (na:zCd K zAB (bns++nns)):FnOk P w K mg base CX0 4 fq fd ["_law_spec_here"] (zDK K zAB):=by
 refine F.ok zAa (fun vs H Q E h=>?_) (fun cdv A outer s H vs Q E hr h=>?_)
 ·obtain ⟨p,fg,pl,b,sn,z,m,pt,wy,wd,f,x,st,rfl,hp,q⟩:=h
  rfl
 obtain ⟨p,fg,pl,b,sn,z,m,pt,wy,wd,f,x,st,rfl,hp,q⟩:=h
 refine ⟨_,zAF (zN8 (zAw zOC (pv 0) (zAx (zAG)) (zAx (zAG))) (zOD rfl (zBI (zAz (i:=1) zAa.nd rfl (Or.inl rfl)) (zBI (zAz (i:=2) zAa.nd rfl (Or.inl rfl)) (zBI (zAz (i:=3) zAa.nd rfl (Or.inl rfl)) (zBI (zAz (i:=4) zAa.nd rfl (Or.inl rfl)) (zBI (zAz (i:=5) zAa.nd rfl (Or.inl rfl)) (zBI (zAz (i:=6) zAa.nd rfl (Or.inl rfl)) (zBI (zAz (i:=7) zAa.nd rfl (Or.inl rfl)) (zLN))))))))))
  (zAF (zN8 (zAw zOC (pv 0) (zAx (zAG)) (zBe)) (zOD rfl (zBI (zAz (i:=8) zAa.nd rfl (Or.inl rfl)) (zBI (zAz (i:=9) zAa.nd rfl (Or.inl rfl)) (zBI (zAz (i:=10) zAa.nd rfl (Or.inl rfl)) (zBI (zAz (i:=11) zAa.nd rfl (Or.inl rfl)) (zBI (zAz (i:=12) zAa.nd rfl (Or.inl rfl)) (zLN))))))))
  (zAJ (zAO (zLZ zIc zBV hr rfl zC3 (zAA (pv 1) (zAA (pv 2) (zAA (pv 3) (zAA (pv 4) (zAA (pv 5) (zAA (pv 6) (zAA (pv 7) (zAA (pv 8) (zAA (pv 9) (zAA (pv 10) (zAA (pv 11) (zAA (pv 12) (zAE) zA7) zA7) zA7) zA7) zA7) zA7) zA7) zA7) zA7) zA7) zA7) zA7))))),?_⟩
 walk_at "st"
 walk_at "rd"
 refine zR5 (n:=13) hp rfl (by decide) fun p1 H1 g1 e1=>?_
 have e1':H1 p1=some (.tup [.int fg,.int pl,.int b,.str sn,.int z,.str (T [m]),.str (T [pt])]):=e1
 clear e1
 walk_at "rd"
 refine zR5 (n:=13) (g1.at hp) rfl (by decide) fun p2 H2 g2 e2=>?_
 have e2':H2 p2=some (.tup [.str wy,.int wd,.str (T [f]),.str x,.bl st]):=e2
 clear e2
 walk_at "rd"
 intro o dx no nd ne
 refine ⟨o,dx,fg,pl,b,sn,z,m,pt,wy,wd,f,x,st,rfl,zAU,?_⟩
 have F0:zAT K (upd (upd (upd H2 dx (.own o)) o (.ins zAB dx [])) o (.ins zAB dx (bfs wd f x st (zB9 fg pl b sn z m pt wy)))) o zAB wd f x st (zB9 fg pl b sn z m pt wy):=⟨⟨dx,zAU⟩,cl,na⟩
 have g3:Same H2 (upd (upd (upd H2 dx (.own o)) o (.ins zAB dx [])) o (.ins zAB dx (bfs wd f x st (zB9 fg pl b sn z m pt wy)))):=zBi (zBi (zBi (Same.refl _) nd) no) no
 generalize upd (upd (upd H2 dx (.own o)) o (.ins zAB dx [])) o (.ins zAB dx (bfs wd f x st (zB9 fg pl b sn z m pt wy)))=H3 at F0 g3 ⊢
 exact ⟨rfl,q _ _ ((g1.trans g2).trans g3) F0⟩
theorem zLm {l:List Nat} (h:Asc l) (k:Nat):l.getD k 0 < 127:=by
 rw [getD_eq_getElem?_getD]
 cases e:l[k]? with
 | none=>decide
 | some c=>exact h c (mem_of_getElem? e)
local macro_rules | `(tactic| walk_at "asc")=>`(tactic| first | assumption | exact Asc.nil | exact Asc.one (zLm (by assumption) _) | exact Asc.one (by decide) | (with_reducible refine Asc.app ?_ ?_ <;> walk_at "asc") | (with_reducible refine Asc.take ?_ _;walk_at "asc") | (with_reducible refine Asc.drop ?_ _;walk_at "asc"))
def zCr (K:W.Frag):Sp:=fun vs H Q _=>∃ (c o s:Int),vs=[.int c,.int o,.int s]/\(s=0\/s=1) /\ ∀ p H' wd f x st d,Same H H'->SpAt H' p wd f x st d->Q (.ref p) H'
theorem zNj {o:Int} (h:s=0\/s=1) (q : ∀ p H' wd f x st d,Same H H'->SpAt H' p wd f x st d->Q (.ref p) H'):zCr K ([.int c,.int o,.int s]++[]) H Q E:=⟨c,o,s,rfl,h,q⟩
theorem zJI (F:Fun K "_law_word_spec" "_law_word_spec" zDG fq fd) (B:Blt mg) (zAM:Has P w K mg base "_law_pick" 1 ["_law_cell", "_law_salt", "_law_many"] (zBg K)) (zEO:Has P w K mg base "_law_signs" 1 [] (zCW K)) (zDW:Has P w K mg base "_law_sign" 2 ["_law_cell", "_law_salt"] (zDV K)):FnOk P w K mg base CX0 3 fq fd ["_law_cell", "_law_other", "_law_small"] (zCr K):=by
 refine F.ok zBD (fun vs H Q E h=>?_) (fun cdv A outer s H vs Q E hr h=>?_)
 ·obtain ⟨c,o,s0,rfl,hs,q⟩:=h
  rfl
 obtain ⟨c,o,s0,rfl,hs,q⟩:=h
 refine ⟨_,zAF (zAN (i:=3) zBD.nd rfl (Or.inl rfl) (zAI zAM hr rfl (zAA (pv 0) (zAA (zAG) (zAA (zAG) (zAE))))))
  (zAF (zAN (i:=4) zBD.nd rfl (Or.inl rfl) (zAR zBA (zAG) (zAI zAM hr rfl (zAA (pv 0) (zAA (zAG) (zAA (zAG) (zAE)))))))
  (zAF (zAN (i:=5) zBD.nd rfl (Or.inl rfl) (zAw zDN (zQ6 (zJZ zEO hr rfl) (zAx (pv 3)) (zBe) (pv 4)) (zBe) (zAx (zAR zBA (zAG) (zAI zAM hr rfl (zAA (pv 0) (zAA (zAG) (zAA (zAb zAv (zA1 (zAA (zAG) (zAA (zAG) (zAE)))) (pv 2) (fun _ _=>rfl)) (zAE)))))))))
  (zAF (zAN (i:=6) zBD.nd rfl (Or.inl rfl) (zAI zAM hr rfl (zAA (pv 1) (zAA (zAG) (zAA (zAb zAv (zA1 (zAA (zAG) (zAA (zAG) (zAE)))) (pv 2) (fun _ _=>rfl)) (zAE))))))
  (zAF (zAN (i:=7) zBD.nd rfl (Or.inl rfl) (zAL (zG2 rfl) B.vAF rfl zNx (zAA (zAG) (zAA (zAR zBA (pv 6) (zAI zAM hr rfl (zAA (pv 1) (zAA (zAG) (zAA (zAb zAv (zA1 (zAA (zAG) (zAA (zAG) (zAE)))) (pv 2) (fun _ _=>rfl)) (zAE)))))) (zAE)))))
  (zAF (zAN (i:=8) zBD.nd rfl (Or.inl rfl) (zAb zAv (zA1 (zAA (zAb zER (pv 5) (zAG) (fun _ _=>rfl)) (zAA (zAI zDW hr rfl (zAA (pv 1) (zAA (zAG) (zAE)))) (zAA (zAb zER (pv 5) (zPV zKy (zAG)) (fun _ _=>rfl)) (zAE))))) (zAI zAM hr rfl (zAA (pv 1) (zAA (zAG) (zAA (zAG) (zAE))))) (fun _ _=>rfl)))
  (zAF (zAN (i:=9) zBD.nd rfl (Or.inl rfl) (zAb zAv (zA1 (zAA (zAG) (zAA (zAR zBA (zAG) (zAI zAM hr rfl (zAA (pv 1) (zAA (zAG) (zAA (zAb zAv (zA1 (zAA (zAG) (zAA (zAG) (zAE)))) (pv 2) (fun _ _=>rfl)) (zAE)))))) (zAA (pv 7) (zAE))))) (zAI zAM hr rfl (zAA (pv 1) (zAA (zAG) (zAA (zAG) (zAE))))) (fun _ _=>rfl)))
  (zAF (zAN (i:=10) zBD.nd rfl (Or.inl rfl) (zAb zAv (zA1 (zAA (zA2) (zAA (zA2) (zAA (zA2) (zAE))))) (zAI zAM hr rfl (zAA (pv 1) (zAA (zAG) (zAA (zAG) (zAE))))) (fun _ _=>rfl)))
  (zAJ (zAO (zFI (zAA (zA2) (zAA (pv 5) (zAA (pv 6) (zAA (pv 7) (zAA (pv 9) (zAA (pv 8) (zAA (pv 10) (zAA (zBu zCl (zAI zAM hr rfl (zAA (pv 1) (zAA (zAG) (zAA (zAG) (zAE))))) (zAG) (zAZ _)) (zAE) zOq) zA7) zA7) zA7) zA7) zA7) zA7) zJa))))))))))),?_⟩
 walk_at "st"
 rcases hs with rfl | rfl
 all_goals
  walk_at "rd"
  rename_i v1 h01 h11 v0 h00 h10 l hl al
  obtain ⟨p1,p2,p3⟩:=zPM (a:=l) (s:=v1) (st:=1+v0) h01 (by omega) (by omega)
  refine ⟨T l,rfl,by omega,by show l.length<=sizeLine;rw [hl];decide,Nat.le_of_lt (zBm (by omega)),fun y hy=>?_⟩
  have hy' : ∃ z:List Nat,y=T z/\0 < z.length/\z.length<=200/\Asc z:=by
   rcases hy with rfl | ⟨_,rfl⟩
   ·exact ⟨_,rfl,List.length_pos_iff.mpr p1,by omega,fun c hc=>al c (p2 c hc)⟩
   ·exact ⟨l,rfl,by omega,by omega,al⟩
  obtain ⟨z,rfl,z1,z2,z3⟩:=hy'
  clear hy p1 p2 p3
  walk_at "rd"
  rename_i q3 H3 g3 m3 e3 v3 h03 h13 q2 H2 g2 m2 e2 v2 h02 h12 q1 H1 g1 m1 e1 v9 h09 h19 k0 hk0 c0 hc0 qf Hf gf mf ef vf hf0 hf1
  have s1:0 < (z.take (1+v3).toNat).length:=by rw [length_take];omega
  have s2:(z.take (1+v3).toNat).length<=200:=by rw [length_take];omega
  have s3:Asc (z.take (1+v3).toNat):=z3.take _
  generalize z.take (1+v3).toNat=sg at ef s1 s2 s3 ⊢
  have sm : ∀ k,k < sg.length->sg.getD k 0 < 127:=fun k hk=>s3 _ (by rw [getD_eq_getElem?_getD,getElem?_eq_getElem hk];exact getElem_mem _)
  refine zHe (fun y=>∃ f:Nat,y=T [f]/\f < 127) ef (by omega) (by show _ < (3:Int);omega) (by simp only [mem_cons,not_mem_nil,or_false];rintro v (rfl | rfl | rfl) <;> exact ⟨_,rfl,_,rfl,by first | assumption | exact zLm s3 _⟩) fun y hy=>?_
  obtain ⟨f,rfl,hf⟩:=hy
  have g0:Same H Hf:=by walk_at "sm"
  clear ef e1 e2 e3
  walk_at "rd"
  rename_i q8 H8 g8 m8 e8 v8 h08 h18 q7 H7 g7 m7 e7 v7 h07 h17
  refine zHf (fun wd=>0<=wd/\wd<=40) e7 (by omega) (by show _ < (3:Int);omega) (by simp only [mem_cons,not_mem_nil,or_false];rintro v (rfl | rfl | rfl) <;> exact ⟨_,rfl,by omega,by omega⟩) fun wd hwd=>?_
  clear e7 e8
  walk_at "rd"
  rename_i q6 H6 g6 m6 e6 v6 h06 h16
  refine zHe Side e6 (by omega) (by show _ < (3:Int);omega) zOV fun y hy=>?_
  clear e6
  walk_at "rd"
  rename_i v5 h05 h15 q5 H5 g5 e5
  exact q _ _ _ _ _ _ _ (by walk_at "sm") (.word e5 ⟨by omega,s2,h02,by omega,by omega,hwd.1,hwd.2,hy,s3,hf⟩)
def zEw (K:W.Frag):Sp:=fun vs H Q _=>∃ (c n:Int),vs=[.int c,.int n]/\1<=n/\n<=12 /\ ∀ L H' ns,Same H H'->H' L=some (.lst (tsV ns))->(ns.length:Int)=n->((∀ t ∈ ns,1<=t.length/\t.length<=13/\Asc t)/\ns.Nodup)->Q (.ref L) H'
theorem zUp {n:Int} (h1:1<=n) (h2:n<=12) (q : ∀ L H' ns,Same H H'->H' L=some (.lst (tsV ns))->(ns.length:Int)=n->((∀ t ∈ ns,1<=t.length/\t.length<=13/\Asc t)/\ns.Nodup)->Q (.ref L) H'):zEw K ([.int c,.int n]++[]) H Q E:=⟨c,n,rfl,h1,h2,q⟩
theorem fl1 : ∀ cs:List Nat,(cs.map fun c=>[c]).flatten=cs
 | []=>rfl
 | c::cs=>by rw [map_cons,flatten_cons,fl1 cs];rfl
theorem zQQ {H4:Hp} {L:Addr} {ns:Ce} {t:List Nat} (nL:H' L=none) (g4:Same H' H4) (e4:H4 L=some (.lst (tsV ns))) (hz:ns.length<=900) (q : ∀ H5,Same H' H5->H5 L=some (.lst (tsV (ns++[t])))->Q .non H5):zLn (.ref L) [.str (T t)] H4 Q:=
 zJX e4 (zBm (by rw [zA9];omega)) (q _ (zBi g4 nL) (by rw [zAU,<- zEx];rfl))
theorem zMl {l:List Nat} (h:Asc l) (k:Nat):l.getD k 0 < 127:=by
 rw [getD_eq_getElem?_getD]
 cases e:l[k]? with
 | none=>decide
 | some c=>exact h c (mem_of_getElem? e)
def nmOf (way mn sz st v:Int) (S B:List Nat) (k:Nat):List Nat:=if way=0 then B.take (k+1) else if way=1 then B.take mn.toNat++[S.getD ((v+k*st) % 93).toNat 0]++(B.take sz.toNat).drop (mn+1).toNat else B.take k++[48]
section
variable {way mn sz st v : Int} {S B : List Nat} (hS : S.length = 93) (hB : B.length = 12) (up : S.Pairwise (· < ·)) (m0 : 0 <= mn) (m1 : mn < sz) (z1 : sz <= 12) (t0 : 1 <= st) (t1 : st <= 8)
include hB m0 m1 z1 in
theorem zVr {k:Nat} (hk:k < 12):1<=(nmOf way mn sz st v S B k).length/\(nmOf way mn sz st v S B k).length<=12:=by
 unfold nmOf
 split
 ·rw [length_take,hB];omega
 ·split
  ·simp only [length_append,length_take,length_drop,length_cons,length_nil,hB];omega
  ·simp only [length_append,length_take,length_cons,length_nil,hB];omega
include hS hB up t0 t1 in
theorem zQT {i:Nat} (hij:i < j) (hj:j < 12):nmOf way mn sz st v S B i≠nmOf way mn sz st v S B j:=by
 intro e
 unfold nmOf at e
 split at e
 ·have:=congrArg List.length e
  rw [length_take,length_take,hB] at this;omega
 ·split at e
  ·rw [append_assoc,append_assoc] at e
   have e2:=(List.cons.injEq .. ▸ append_cancel_left e:_/\_).1
   have a0:=emod_nonneg (v+(i:Int)*st) (show (93:Int)≠0 by decide)
   have a1:=emod_lt_of_pos (v+(i:Int)*st) (show (0:Int) < 93 by decide)
   have b0:=emod_nonneg (v+(j:Int)*st) (show (93:Int)≠0 by decide)
   have b1:=emod_lt_of_pos (v+(j:Int)*st) (show (0:Int) < 93 by decide)
   have ne:(v+(i:Int)*st) % 93≠(v+(j:Int)*st) % 93:=by
    obtain ⟨d,rfl⟩ : ∃ d:Nat,j=i+d:=⟨j - i,by omega⟩
    have ed:((i+d:Nat):Int)*st=(i:Int)*st+(d:Int)*st:=by rw [Int.natCast_add,Int.add_mul]
    have d1:1*1<=(d:Int)*st:=mul_le_mul (by omega) t0 (by decide) (by omega)
    have d2:(d:Int)*st<=11*8:=mul_le_mul (by omega) t1 (by omega) (by decide)
    rw [ed]
    omega
   generalize (v+(i:Int)*st) % 93=a at *
   generalize (v+(j:Int)*st) % 93=b at *
   rw [getD_eq_getElem?_getD,getElem?_eq_getElem (show a.toNat < S.length by omega),getD_eq_getElem?_getD,getElem?_eq_getElem (show b.toNat < S.length by omega)] at e2
   have e3:S[a.toNat]'(by omega)=S[b.toNat]'(by omega):=e2
   have pw:=List.pairwise_iff_getElem.mp up
   rcases Nat.lt_trichotomy a.toNat b.toNat with h | h | h
   ·have:=pw a.toNat b.toNat (by omega) (by omega) h;omega
   ·omega
   ·have:=pw b.toNat a.toNat (by omega) (by omega) h;omega
  ·have:=congrArg List.length e
   simp only [length_append,length_take,length_cons,length_nil,hB] at this
   omega
end
theorem zWC {way mn sz st v:Int} {S B:List Nat} (hS:Asc S) (hB:Asc B) {k:Nat}:Asc (nmOf way mn sz st v S B k):=by
 unfold nmOf
 split
 ·exact hB.take _
 ·split
  ·exact ((hB.take _).app (Asc.one (zMl hS _))).app ((hB.take _).drop _)
  ·exact (hB.take _).app (Asc.one (by decide))
local macro_rules | `(tactic| walk_at "rdc")=>`(tactic| ((with_reducible refine' zU8 ?h1 ?h2 ?_);(case h1=>omega);(case h2=>omega);intro h0' h1'))
local macro_rules | `(tactic| walk_at "rdc")=>`(tactic| ((with_reducible refine zRu ?_);intro l' hl' al' pl'))
theorem zMS (F:Fun K "_law_names" "_law_names" zFc fq fd) (B:Blt mg) (zAM:Has P w K mg base "_law_pick" 1 ["_law_cell", "_law_salt", "_law_many"] (zBg K)) (zEO:Has P w K mg base "_law_signs" 1 [] (zCW K)):FnOk P w K mg base CX0 2 fq fd ["_law_cell", "_law_many"] (zEw K):=by
 refine F.ok zBZ (fun vs H Q E h=>?_) (fun cdv A outer s H vs Q E hr h=>?_)
 ·obtain ⟨c,n,rfl,h1,h2,q⟩:=h
  rfl
 obtain ⟨c,n,rfl,h1,h2,q⟩:=h
 refine ⟨_,zAF (zAN (i:=2) zBZ.nd rfl (Or.inr rfl) (zAw zDN (zJZ zEO hr rfl) (zAx (zAG)) (zBe)))
  (zAF (zAN (i:=3) zBZ.nd rfl (Or.inl rfl) (zGL PySem.F.plainAttrs_str PySem.F.slot_str_join PySem.F.type_str_join zLL (zF7 (l:=[]) (by decide +kernel)) (zAA (zDF (cl:=[("_law_signs_here", s.heap.objs.size+1+1),("_law_cell", s.heap.objs.size+1+0)]) (fr:=["_law_cell", "_law_signs_here"]) (is:=[0,2]) rfl rfl ⟨rfl,⟨rfl,trivial⟩⟩ rfl ⟨⟨rfl,rfl,Or.inl rfl⟩,⟨⟨rfl,rfl,Or.inl rfl⟩,trivial⟩⟩ (by decide) (by decide +kernel) rfl (by decide +kernel) rfl (zDm rfl B.vAB (zAA (zAG) (zAE))) (fun _ _ _ _=>zCn) (fun _ _ _ _=>zAb zER (pv 2) (zAI zAM hr rfl (zAA (pv 1) (zAA (zAR zBA (zAG) (pv 0)) (zAA (zAG) (zAE))))) (fun _ _=>rfl))) (zAE))))
  (zAF (zAN (i:=4) zBZ.nd rfl (Or.inl rfl) (zAI zAM hr rfl (zAA (pv 0) (zAA (zAG) (zAA (zAG) (zAE))))))
  (zAF (zAN (i:=5) zBZ.nd rfl (Or.inl rfl) (zAI zAM hr rfl (zAA (pv 0) (zAA (zAG) (zAA (zAG) (zAE))))))
  (zAF (zAN (i:=6) zBZ.nd rfl (Or.inl rfl) (zAR zBA (zAG) (zAI zAM hr rfl (zAA (pv 0) (zAA (zAG) (zAA (zAG) (zAE)))))))
  (zAF (zAN (i:=7) zBZ.nd rfl (Or.inl rfl) (zAb zAv (zA1 (zAA (zAG) (zAA (zAG) (zAA (zAG) (zAA (zAG) (zAA (zAG) (zAA (zAG) (zAE)))))))) (zAI zAM hr rfl (zAA (pv 0) (zAA (zAG) (zAA (zAG) (zAE))))) (fun _ _=>rfl)))
  (zAF (zAN (i:=8) zBZ.nd rfl (Or.inl rfl) (zA1 (zAE)))
  (zAF (zGC PassesOwn.never rfl (zDm rfl B.vAB (zAA (pv 1) (zAE))) (zAz (i:=9) zBZ.nd rfl (Or.inl rfl)) (zAF (zAN (i:=10) zBZ.nd rfl (Or.inl rfl) (zAb zER (pv 2) (zAR zC0 (zAR zBA (zAI zAM hr rfl (zAA (pv 0) (zAA (zAG) (zAA (zAG) (zAE))))) (zAR zEY (pv 9) (pv 7))) (zAG)) (fun _ _=>rfl)))
  (zAJ (zBN (zAW zCl (pv 4) (zAG) (zAZ _)) (zAJ (zCy (zGL PySem.F.plainAttrs_list PySem.F.slot_list_append PySem.F.type_list_append zDn (pv 8) (zAA (zAw zDN (pv 3) (zBe) (zAx (zAR zBA (pv 9) (zAG)))) (zAE))))) (zAJ (zBN (zAW zCl (pv 4) (zAG) (zAZ _)) (zAJ (zCy (zGL PySem.F.plainAttrs_list PySem.F.slot_list_append PySem.F.type_list_append zDn (pv 8) (zAA (zAR zDC (zAR zDC (zAw zDN (pv 3) (zBe) (zAx (zAL (zG2 rfl) B.vAF rfl zNx (zAA (pv 5) (zAA (zAR zCm (pv 6) (zAG)) (zAE)))))) (pv 10)) (zAw zDN (pv 3) (zAx (zAR zBA (zAL (zG2 rfl) B.vAF rfl zNx (zAA (pv 5) (zAA (zAR zCm (pv 6) (zAG)) (zAE)))) (zAG))) (zAx (pv 6)))) (zAE))))) (zAJ (zCy (zGL PySem.F.plainAttrs_list PySem.F.slot_list_append PySem.F.type_list_append zDn (pv 8) (zAA (zAR zDC (zAw zDN (pv 3) (zBe) (zAx (pv 9))) (zF7 (l:=[48]) (by decide +kernel))) (zAE)))))))))))
  (zAF (zAN (i:=11) zBZ.nd rfl (Or.inl rfl) (zAI zAM hr rfl (zAA (pv 0) (zAA (zAG) (zAA (pv 1) (zAE))))))
  (zAJ (zAO (zAR zDP (zAw zHi (pv 8) (zAx (pv 11)) (zBe)) (zAw zHi (pv 8) (zBe) (zAx (pv 11)))))))))))))),?_⟩
 walk_at "st"
 walk_at "rd"
 rename_i l hl al pw
 have lS:(l.drop (Int.toNat 1)).length=93:=by rw [length_drop,hl];rfl
 have aS:Asc (l.drop (Int.toNat 1)):=Asc.drop al _
 have pS:(l.drop (Int.toNat 1)).Pairwise (· < ·):=List.Pairwise.sublist (List.drop_sublist _ _) pw
 generalize l.drop (Int.toNat 1)=S at lS aS pS ⊢
 refine zKI (by decide) (by decide) (Nat.le_of_lt (zBm (by decide))) (fun i ys H'=>H'=H /\ ∃ cs:List Nat,cs.length=i/\Asc cs/\ys=tsV (cs.map fun c=>[c])) ⟨rfl,[],rfl,Asc.nil,rfl⟩ (fun i ys H' _ zz=>by obtain ⟨_,cs,h,_,e⟩:=zz;rw [e,zA9,length_map];omega) ?_ ?_
 ·rintro i ys H' hi ⟨rfl,cs,c1,c2,rfl⟩
  walk_at "rd"
  refine nxC hi ⟨rfl,cs++[S.getD (pk c (70+(0+(i:Int))) 93).toNat 0],by rw [length_append,c1];rfl,c2.app (.one (zMl aS _)),?_⟩
  rw [map_append,<- zEx];rfl
 ·rintro ys H' ⟨rfl,B,lB,aB,rfl⟩ p1 H1 g1 n1 e1
  have lB':B.length=12:=lB
  walk_at "rd"
  refine zNU e1 (by rw [fl1,length_map];show B.length+B.length*0<=_;omega) ?_
  rw [show Lt (T [])=[] from rfl,zSp,fl1]
  clear e1
  walk_at "rd"
  rename_i w10 w11 w20 w21 w30 w31 p2 H2 g2 n2 e2 w40 w41
  refine zHf (fun s=>1<=s/\s<=8) e2 (by omega) (by show _ < (6:Int);omega) (by simp only [mem_cons,not_mem_nil,or_false];rintro v (rfl | rfl | rfl | rfl | rfl | rfl) <;> exact ⟨_,rfl,by omega,by omega⟩) fun s hs=>?_
  have g02:=g1.trans g2
  clear e2
  walk_at "rd"
  rename_i L H3 g3 n3 e3
  have g03:=g02.trans g3
  have nL:H' L=none:=none_of g02 n3
  generalize pk c 83 3=way at *
  generalize pk c 84 12=at0 at *
  obtain ⟨sz,hsz⟩ : ∃ sz:Int,sz=1+pk c 85 12:=⟨_,rfl⟩
  rw [<- hsz]
  obtain ⟨mn,hmn⟩ : ∃ mn:Int,mn=if sz - 1 < at0 then sz - 1 else at0:=⟨_,rfl⟩
  have mn0:0<=mn/\mn < sz:=by rw [hmn];split <;> omega
  have sz1:1<=sz/\sz<=12:=by omega
  refine zJq (by omega) (by omega) (fun i σ H4=>∃ (r1 r2:Option V),Same H' H4/\H4 L=some (.lst (tsV ((List.range i).map (nmOf way mn sz s (pk c 87 93) S B))))/\σ=[some (.int c),some (.int n),some (.str (T S)),some (.str (T B)),some (.int way),some (.int at0),some (.int sz),some (.int s),some (.ref L),r1,r2,none]) ⟨none,none,g03,e3,rfl⟩ ?_ ?_
  ·rintro i σ H4 hi ⟨r1,r2,g4,e4,rfl⟩
   have m0:0<=(i:Int)*s:=mul_nonneg (by omega) (by omega)
   have m1:(i:Int)*s<=12*8:=mul_le_mul (by omega) hs.2 (by omega) (by omega)
   have nn:=emod_nonneg (pk c 87 93+(i:Int)*s) (show (93:Int)≠0 by decide)
   have nn2:=emod_lt_of_pos (pk c 87 93+(i:Int)*s) (show (0:Int) < 93 by decide)
   have ln:((List.range i).map (nmOf way mn sz s (pk c 87 93) S B)).length<=900:=by rw [length_map,length_range];omega
   walk_at "rd"
   ·rename_i v0 v1 hc
    have e:nmOf way mn sz s (pk c 87 93) S B i=B.take (0+(i:Int)+1).toNat:=by
     unfold nmOf;rw [if_pos hc,show (0+(i:Int)+1).toNat=i+1 by omega]
    exact zQQ nL g4 e4 ln fun H5 g5 e5=>⟨_,_,g5,by rw [e5,range_succ,map_append,map_cons,map_nil,e],rfl⟩
   ·rename_i v0 v1 hc hc2 k1 hk1 k2 hk2
    have e:nmOf way mn sz s (pk c 87 93) S B i=B.take k1.toNat++[S.getD ((pk c 87 93+(0+(i:Int))*s) % 93).toNat 0]++(B.take sz.toNat).drop (k2+1).toNat:=by
     unfold nmOf;rw [if_neg hc,if_pos hc2,show k1=mn by rw [hmn];split <;> omega,show k2=mn by rw [hmn];split <;> omega,show (0:Int)+(i:Int)=(i:Int) by omega]
    exact zQQ nL g4 e4 ln fun H5 g5 e5=>⟨_,_,g5,by rw [e5,range_succ,map_append,map_cons,map_nil,e],rfl⟩
   ·rename_i v0 v1 hc hc2
    have e:nmOf way mn sz s (pk c 87 93) S B i=B.take (0+(i:Int)).toNat++[48]:=by
     unfold nmOf;rw [if_neg hc,if_neg hc2,show (0+(i:Int)).toNat=i by omega]
    exact zQQ nL g4 e4 ln fun H5 g5 e5=>⟨_,_,g5,by rw [e5,range_succ,map_append,map_cons,map_nil,e],rfl⟩
  ·rintro σ H4 ⟨r1,r2,g4,e4,rfl⟩
   walk_at "rd"
   rename_i v50 v51 p5 H5 g5 n5 e5 p6 H6 g6 n6 e6
   have ok:(∀ t ∈ (List.range n.toNat).map (nmOf way mn sz s (pk c 87 93) S B),1<=t.length/\t.length<=13/\Asc t)/\((List.range n.toNat).map (nmOf way mn sz s (pk c 87 93) S B)).Nodup:=by
    refine ⟨fun t ht=>?_,?_⟩
    ·obtain ⟨k,hk,rfl⟩:=List.mem_map.mp ht
     have:=zVr (way:=way) (st:=s) (v:=pk c 87 93) (S:=S) lB' mn0.1 mn0.2 sz1.2 (k:=k) (by have:=List.mem_range.mp hk;omega)
     exact ⟨this.1,by omega,zWC aS aB⟩
    ·unfold List.Nodup
     rw [List.pairwise_map]
     refine List.Pairwise.imp_of_mem ?_ List.pairwise_lt_range
     intro i j hi hj hij
     exact zQT lS lB' pS hs.1 hs.2 hij (by have:=List.mem_range.mp hj;omega)
   have lN:((List.range n.toNat).map (nmOf way mn sz s (pk c 87 93) S B)).length=n.toNat:=by rw [length_map,length_range]
   generalize (List.range n.toNat).map (nmOf way mn sz s (pk c 87 93) S B)=N at *
   have pm : ∀ k,(N.drop k++N.take k).Perm N:=fun k=>List.perm_append_comm.trans (by rw [take_append_drop])
   refine zS8 (g6.at e5) e6 (by rw [length_drop,length_take];omega) fun p7 H7 g7 n7 e7=>?_
   exact q _ _ _ (g4.trans (g5.trans (g6.trans g7))) e7 (by rw [(pm _).length_eq,lN];omega) ⟨fun t h=>ok.1 t ((pm _).mem_iff.mp h),(pm _).nodup_iff.mpr ok.2⟩
local macro_rules | `(tactic| walk_at "rdc")=>`(tactic| ((with_reducible refine' zTa ?h1 ?h2 ?_);(case h1=>omega);(case h2=>omega);intro v' h0' h1'))
local macro_rules | `(tactic| walk_at "rdc")=>`(tactic| ((with_reducible refine zQq ?_);intro l' hl' al'))
local macro_rules | `(tactic| walk_at "rdc")=>`(tactic| first | ((with_reducible refine' zUp ?h1 ?h2 ?_);(case h1=>omega);(case h2=>omega);intro L' H' ns' g' e' hn' ht') | fail "none")
def zCQ (K:W.Frag):Sp:=fun vs H Q _=>∃ (c o s:Int),vs=[.int c,.int o,.int s]/\(s=0\/s=1) /\ ∀ p H' wd f x st d,Same H H'->SpAt H' p wd f x st d->Q (.ref p) H'
theorem zLQ {o:Int} (h:s=0\/s=1) (q : ∀ p H' wd f x st d,Same H H'->SpAt H' p wd f x st d->Q (.ref p) H'):zCQ K ([.int c,.int o,.int s]++[]) H Q E:=⟨c,o,s,rfl,h,q⟩
theorem zH2 (F:Fun K "_law_choice_spec" "_law_choice_spec" zCX fq fd) (B:Blt mg) (zNE:Has P w K mg base "_law_names" 2 ["_law_cell", "_law_many"] (zEw K)) (zAM:Has P w K mg base "_law_pick" 1 ["_law_cell", "_law_salt", "_law_many"] (zBg K)) (zDW:Has P w K mg base "_law_sign" 2 ["_law_cell", "_law_salt"] (zDV K)):FnOk P w K mg base CX0 3 fq fd ["_law_cell", "_law_other", "_law_small"] (zCQ K):=by
 refine F.ok zBx (fun vs H Q E h=>?_) (fun cdv A outer s H vs Q E hr h=>?_)
 ·obtain ⟨c,o,s0,rfl,hs,q⟩:=h
  rfl
 obtain ⟨c,o,s0,rfl,hs,q⟩:=h
 refine ⟨_,zAF (zAN (i:=3) zBx.nd rfl (Or.inl rfl) (zAI zNE hr rfl (zAA (pv 0) (zAA (zAR zBA (zAG) (zAI zAM hr rfl (zAA (pv 1) (zAA (zAG) (zAA (zAb zAv (zA1 (zAA (zAG) (zAA (zAG) (zAE)))) (pv 2) (fun _ _=>rfl)) (zAE)))))) (zAE)))))
  (zAF (zAN (i:=4) zBx.nd rfl (Or.inl rfl) (zAb zAv (zA1 (zAA (zAb zER (zAb zAv (pv 3) (zAG) (fun _ _=>rfl)) (zPV zKy (zAG)) (fun _ _=>rfl)) (zAA (zAI zDW hr rfl (zAA (pv 1) (zAA (zAG) (zAE)))) (zAA (zF7 (l:=[48]) (by decide +kernel)) (zAE))))) (zAI zAM hr rfl (zAA (pv 1) (zAA (zAG) (zAA (zAG) (zAE))))) (fun _ _=>rfl)))
  (zAF (zAN (i:=5) zBx.nd rfl (Or.inl rfl) (zAb zAv (zA1 (zAA (zAG) (zAA (zAR zBA (zAG) (zAI zAM hr rfl (zAA (pv 1) (zAA (zAG) (zAA (zAb zAv (zA1 (zAA (zAG) (zAA (zAG) (zAE)))) (pv 2) (fun _ _=>rfl)) (zAE)))))) (zAA (zAR zBA (zAL zA6 B.vAA rfl zBF (zAA (zAb zAv (pv 3) (zPV zKy (zAG)) (fun _ _=>rfl)) (zAE))) (zAG)) (zAE))))) (zAI zAM hr rfl (zAA (pv 1) (zAA (zAG) (zAA (zAG) (zAE))))) (fun _ _=>rfl)))
  (zAF (zAN (i:=6) zBx.nd rfl (Or.inl rfl) (zAb zAv (zA1 (zAA (zA2) (zAA (zA2) (zAA (zA2) (zAE))))) (zAI zAM hr rfl (zAA (pv 1) (zAA (zAG) (zAA (zAG) (zAE))))) (fun _ _=>rfl)))
  (zAJ (zAO (zFI (zAA (zA2) (zAA (pv 3) (zAA (pv 5) (zAA (pv 4) (zAA (pv 6) (zAA (zBu zCl (zAI zAM hr rfl (zAA (pv 1) (zAA (zAG) (zAA (zAG) (zAE))))) (zAG) (zAZ _)) (zAE))))))))))))),?_⟩
 walk_at "st"
 rcases hs with rfl | rfl
 all_goals
  walk_at "rd"
  rename_i p0 H0 g0 n0 e0 v0 h00 h10 L H1 ns g1 e1 hn ht2
  obtain ⟨ht,nd⟩:=ht2
  have l0:0 < ns.length:=by omega
  have t0:=ht (ns.getD (Int.toNat 0) []) (by rw [getD_eq_getElem?_getD,getElem?_eq_getElem (show Int.toNat 0 < ns.length from l0)];exact getElem_mem _)
  generalize ns.getD (Int.toNat 0) []=t at t0 ⊢
  have g01:=g0.trans g1
  clear e0
  walk_at "rd"
  rename_i c2 hc2 p2 H2 g2 n2 e2 v2 h02 h12
  refine zHe (fun y=>∃ f:Nat,y=T [f]/\f < 127) e2 (by omega) (by show _ < (3:Int);omega) (by simp only [mem_cons,not_mem_nil,or_false];rintro v (rfl | rfl | rfl) <;> exact ⟨_,rfl,_,rfl,by first | assumption | exact zLm t0.2.2 _ | decide⟩) fun y hy=>?_
  obtain ⟨f,rfl,hf⟩:=hy
  clear e2
  have t1:=ht (ns.getD (ns.length - 1) []) (by rw [getD_eq_getElem?_getD,getElem?_eq_getElem (show ns.length - 1 < ns.length by omega)];exact getElem_mem _)
  walk_at "rd"
  rename_i p3 H3 g3 n3 e3 v3 h03 h13 p4 H4 g4 n4 e4 v4 h04 h14
  generalize ns.getD (ns.length - 1) []=u at t1 e4 ⊢
  clear e3
  refine zHf (fun wd=>0<=wd/\wd<=40) e4 (by omega) (by show _ < (3:Int);omega) (by simp only [mem_cons,not_mem_nil,or_false];rintro v (rfl | rfl | rfl) <;> exact ⟨_,rfl,by omega,by omega⟩) fun wd hwd=>?_
  clear e4
  walk_at "rd"
  rename_i p5 H5 g5 n5 e5 v5 h05 h15
  refine zHe Side e5 (by omega) (by show _ < (3:Int);omega) zOV fun y hy=>?_
  clear e5
  walk_at "rd"
  rename_i v6 h06 h16 p6 H6 g6 e6
  exact q _ _ _ _ _ _ _ (by walk_at "sm") (.cho e6 (g6.at (g5.at (g4.at (g3.at (g2.at e1))))) ⟨by omega,by omega,fun t h=>(ht t h).2.1,hwd.1,hwd.2,hy,fun t h=>(ht t h).2.2,nd,hf⟩)
def zFv (K:W.Frag) (cN cW cC:Addr):Sp:=fun vs H Q _=>∃ (p:Addr) (wd:Int) (f:Nat) (x:Str) (st:Bool) (d:Fd),vs=[.ref p]/\SpAt H p wd f x st d /\ ∀ o H',Same H H'->FdAt K H' o cN cW cC wd f x st d->Q (.ref o) H'
theorem zWW (h:SpAt H p wd f x st d) (q : ∀ o H',Same H H'->FdAt K H' o cN cW cC wd f x st d->Q (.ref o) H'):zFv K cN cW cC ([.ref p]++[]) H Q E:=⟨p,wd,f,x,st,d,rfl,h,q⟩
theorem zM4 (F:Fun K "_law_form" "_law_form" zHC fq fd) (B:Blt mg) (zGa:mg "ChoiceForm" = some (.ref zAC)) (zED:mg "WordForm" = some (.ref zAD)) (zIY:Has P w K mg base "_law_number_form" 4 ["_law_spec_here"] (zDK K zAB)) (zIt:HasI P w K mg base CX0 zAC 2 ["self", "names", "width", "fill", "side", "strict"] (zDQ K zAC)) (zKD:HasI P w K mg base CX0 zAD 2 ["self", "signs", "least", "most", "width", "fill", "side", "strict"] (zDy K zAD))(clW:Cls K zAD) (naW:zCd K zAD (bns++wns)) (clC:Cls K zAC) (naC:zCd K zAC (bns++cns)):FnOk P w K mg base CX0 5 fq fd ["_law_spec_here"] (zFv K zAB zAD zAC):=by
 refine F.ok zBU (fun vs H Q E h=>?_) (fun cdv A outer s H vs Q E hr h=>?_)
 ·obtain ⟨p,wd,f,x,st,d,rfl,D0,q⟩:=h
  rfl
 obtain ⟨p,wd,f,x,st,d,rfl,D0,q⟩:=h
 refine ⟨_,zAF (zBN (zAW zCl (zAb zBc (pv 0) (zAG) (fun _ _=>rfl)) (zA2) (zAZ _)) (zAJ (zAO (zAI zIY hr rfl (zAA (pv 0) (zAE))))) (zAY))
  (zAF (zBN (zAW zCl (zAb zBc (pv 0) (zAG) (fun _ _=>rfl)) (zA2) (zAZ _)) (zAF (zN8 (zAw zOC (pv 0) (zAx (zAG)) (zBe)) (zOD rfl (zBI (zAz (i:=1) zBU.nd rfl (Or.inl rfl)) (zBI (zAz (i:=2) zBU.nd rfl (Or.inl rfl)) (zBI (zAz (i:=3) zBU.nd rfl (Or.inl rfl)) (zBI (zAz (i:=4) zBU.nd rfl (Or.inl rfl)) (zBI (zAz (i:=5) zBU.nd rfl (Or.inl rfl)) (zBI (zAz (i:=6) zBU.nd rfl (Or.inl rfl)) (zBI (zAz (i:=7) zBU.nd rfl (Or.inl rfl)) (zLN))))))))))
  (zAJ (zAO (zLZ zKD zBV hr rfl zED (zAA (pv 1) (zAA (pv 2) (zAA (pv 3) (zAA (pv 4) (zAA (pv 5) (zAA (pv 6) (zAA (pv 7) (zAE) zA7) zA7) zA7) zA7) zA7) zA7) zA7))))) (zAY))
  (zAF (zN8 (zAw zOC (pv 0) (zAx (zAG)) (zBe)) (zOD rfl (zBI (zAz (i:=8) zBU.nd rfl (Or.inl rfl)) (zBI (zAz (i:=4) zBU.nd rfl (Or.inl rfl)) (zBI (zAz (i:=5) zBU.nd rfl (Or.inl rfl)) (zBI (zAz (i:=6) zBU.nd rfl (Or.inl rfl)) (zBI (zAz (i:=7) zBU.nd rfl (Or.inl rfl)) (zLN))))))))
  (zAJ (zAO (zLZ zIt zBV hr rfl zGa (zAA (zGo zJr rfl B.vAJ zKJ (zAA (pv 8) (zAE))) (zAA (pv 4) (zAA (pv 5) (zAA (pv 6) (zAA (pv 7) (zAE))))))))))),?_⟩
 walk_at "st"
 cases D0 with
 | num e ok =>
  walk_at "rd"
  exact ⟨p,_,_,_,_,_,_,_,_,_,_,_,_,rfl,e,fun o H1 g1 F1=>q _ _ g1 (.num F1 ok)⟩
 | @word sg lo hi e ok =>
  walk_at "rd"
  refine zR5 (n:=8) e rfl (by decide) fun p1 H1 g1 e1=>?_
  have e1':H1 p1=some (.tup [.str (T sg),.int lo,.int hi,.int wd,.str (T [f]),.str x,.bl st]):=e1
  clear e1
  walk_at "rd"
  intro o dx no nd ne
  refine ⟨o,dx,sg,lo,hi,wd,f,x,st,rfl,zAU,?_⟩
  have F1:zAT K (upd (upd (upd H1 dx (.own o)) o (.ins zAD dx [])) o (.ins zAD dx (bfs wd f x st (zGh sg lo hi)))) o zAD wd f x st (zGh sg lo hi):=⟨⟨dx,zAU⟩,clW,naW⟩
  have g3:Same H1 (upd (upd (upd H1 dx (.own o)) o (.ins zAD dx [])) o (.ins zAD dx (bfs wd f x st (zGh sg lo hi)))):=zBi (zBi (zBi (Same.refl _) nd) no) no
  generalize upd (upd (upd H1 dx (.own o)) o (.ins zAD dx [])) o (.ins zAD dx (bfs wd f x st (zGh sg lo hi)))=H3 at F1 g3 ⊢
  exact ⟨rfl,q _ _ (g1.trans g3) (.word F1 ok)⟩
 | @cho L ns e eL ok =>
  walk_at "rd"
  refine zR5 (n:=6) e rfl (by decide) fun p1 H1 g1 e1=>?_
  have e1':H1 p1=some (.tup [.ref L,.int wd,.str (T [f]),.str x,.bl st]):=e1
  clear e1
  have eL1:=g1.at eL
  walk_at "rd"
  rename_i l2 H2 g2 n2 e2
  intro o dx no nd ne
  have g3:Same H2 (upd (upd H2 dx (.own o)) o (.ins zAC dx [])):=zBi (zBi (Same.refl _) nd) no
  refine ⟨o,dx,l2,ns,wd,f,x,st,rfl,zAU,g3.at e2,fun L2 H3 sb n3 e3 eo=>⟨rfl,q _ _ (fun b u eb=>?_) (.cho ⟨⟨dx,eo⟩,clC,naC⟩ e3 ok)⟩⟩
  have eb2:=(g1.trans g2).at eb
  exact sb b u (fun z=>by rw [z,no] at eb2;cases eb2) (g3.at eb2)
def zFq (K:W.Frag):Sp:=fun vs H Q _=>∃ (c o s:Int),vs=[.int c,.int o,.int s]/\(s=0\/s=1) /\ ∀ p H' wd f x st d,Same H H'->SpAt H' p wd f x st d->Q (.ref p) H'
theorem zNh (F:Fun K "_law_spec" "_law_spec" zGz fq fd) (B:Blt mg) (zAM:Has P w K mg base "_law_pick" 1 ["_law_cell", "_law_salt", "_law_many"] (zBg K)) (zIQ:Has P w K mg base "_law_number_spec" 3 ["_law_cell", "_law_other", "_law_small"] (zCO K)) (zJ1:Has P w K mg base "_law_word_spec" 3 ["_law_cell", "_law_other", "_law_small"] (zCr K)) (zIP:Has P w K mg base "_law_choice_spec" 3 ["_law_cell", "_law_other", "_law_small"] (zCQ K)):FnOk P w K mg base CX0 4 fq fd ["_law_cell", "_law_other", "_law_small"] (zFq K):=by
 refine F.ok zJf (fun vs H Q E h=>?_) (fun cdv A outer s H vs Q E hr h=>?_)
 ·obtain ⟨c,o,s0,rfl,hs,q⟩:=h
  rfl
 obtain ⟨c,o,s0,rfl,hs,q⟩:=h
 refine ⟨_,zAF (zAN (i:=3) zJf.nd rfl (Or.inl rfl) (zAI zAM hr rfl (zAA (pv 0) (zAA (zAG) (zAA (zAG) (zAE))))))
  (zAF (zBN (zAW zCl (pv 3) (zAG) (zAZ _)) (zAJ (zAO (zAI zJ1 hr rfl (zAA (pv 0) (zAA (pv 1) (zAA (pv 2) (zAE))))))) (zAY))
  (zAF (zBN (zAW zCl (pv 3) (zAG) (zAZ _)) (zAJ (zAO (zAI zIP hr rfl (zAA (pv 0) (zAA (pv 1) (zAA (pv 2) (zAE))))))) (zAY))
  (zAJ (zAO (zAI zIQ hr rfl (zAA (pv 0) (zAA (pv 1) (zAA (pv 2) (zAE))))))))),?_⟩
 walk_at "st"
 walk_at "rd"
 ·exact zNj hs q
 ·exact zLQ hs q
 ·exact zK2 hs q
open Classical in
noncomputable def vd (d:Fd) (c:List Nat):PyData:=match d with
 | .num fg pl b sn z m pt _=>if h : ∃ k:Int,LimN fg pl b k/\c=zCh pl b sn z m pt k then rD (b ^ pl.toNat) h.choose else .none
 | _=>sD c
theorem zOP {z:Int} {pt:Nat} (ok:NumS fg pl b sn z m pt wy wd f x) (lim:LimN fg pl b k):vd (.num fg pl b sn z m pt wy) (zCh pl b sn z m pt k)=rD (b ^ pl.toNat) k:=by
 have h : ∃ k':Int,LimN fg pl b k'/\zCh pl b sn z m pt k=zCh pl b sn z m pt k':=⟨k,lim,rfl⟩
 have e0:vd (.num fg pl b sn z m pt wy) (zCh pl b sn z m pt k)=rD (b ^ pl.toNat) h.choose:=dif_pos h
 rw [e0]
 have hs:=h.choose_spec
 rw [zGt ok hs.1 lim hs.2.symm (zJh ok)]
theorem zRN (o:okS wd f x d) (h:VlA H v d ld rs):Dt K H v (vd d (ld++rs)):=by
 cases h with
 | @num p fg pl b sn z m pt wy k hv hp lim =>
  subst hv
  rw [<- zBw,zOP (show NumS fg pl b sn z m pt wy wd f x from o) lim]
  exact .tup (SqT.of hp) (.cons (.int _) (.cons (.int _) .nil))
 | word hv iw=>subst hv;exact .str _
 | cho hv hm=>subst hv;exact .str _
theorem zS5 (D:okS wd f x d) (h:CoL d (ld++rs) ld):ld.length<=2/\rs.length<=200/\Asc ld/\Asc rs:=by
 cases d with
 | num fg pl b sn z m pt wy =>
  obtain ⟨k,lim,e1,e2⟩:=h
  have e1':ld++rs=zCh pl b sn z m pt k:=e1
  have e2':ld=stL sn (decide (k < 0)):=e2
  have er:rs=zKO pl b sn z m pt k:=by rw [zBw,e2'] at e1';exact append_cancel_left e1'
  rw [er,e2']
  let W:VlA (fun _=>some (.tup [.int (low1 k (b ^ pl.toNat)),.int (low2 k (b ^ pl.toNat))])) (.ref default) (.num fg pl b sn z m pt wy) (stL sn (decide (k < 0))) (zKO pl b sn z m pt k):=.num rfl rfl lim
  exact W.ok D
 | word sg lo hi =>
  obtain ⟨iw,e⟩:=h
  have e':ld=[]:=e
  subst e'
  have W:VlA (fun _=>none) (.str (T rs)) (.word sg lo hi) [] rs:=.word rfl iw
  exact W.ok D
 | cho ns =>
  obtain ⟨hm,e⟩:=h
  have e':ld=[]:=e
  subst e'
  have W:VlA (fun _=>none) (.str (T rs)) (.cho ns) [] rs:=.cho rfl hm
  exact W.ok D
theorem zTm (o:okS wd f x d) (h:CoL d (ld++rs) ld):(vd d (ld++rs)).canLay0=true/\(vd d (ld++rs)).depth<=18:=by
 obtain ⟨_,_,a1,a2⟩:=zS5 o h
 have at':=ok_T (a1.app a2)
 cases d with
 | num fg pl b sn z m pt wy =>
  obtain ⟨k,lim,e1,_⟩:=h
  have e1':ld++rs=zCh pl b sn z m pt k:=e1
  rw [e1',zOP (show NumS fg pl b sn z m pt wy wd f x from o) lim]
  exact ⟨by simp [rD,PyData.canLay0,PyData.canLayAll0],by simp [rD,PyData.depth,PyData.depthAll]⟩
 | word sg lo hi=>exact ⟨by show (sD (ld++rs)).canLay0=true;simp [sD,PyData.canLay0,at'],by show (sD (ld++rs)).depth<=18;simp [sD,PyData.depth]⟩
 | cho ns=>exact ⟨by show (sD (ld++rs)).canLay0=true;simp [sD,PyData.canLay0,at'],by show (sD (ld++rs)).depth<=18;simp [sD,PyData.depth]⟩
theorem zXc {a b:List Nat} (h:T a=T b):a=b:=by have:=congrArg Lt h;rwa [Lt_T,Lt_T] at this
theorem zWb {p p':List Nat × List Nat} (o:okS wd f x d) (h:CoL d (p.1++p.2) p.1) (h':CoL d (p'.1++p'.2) p'.1):(vd d (p.1++p.2)).eqv (vd d (p'.1++p'.2))=decide (p.1++p.2=p'.1++p'.2):=by
 have sd : ∀ a b:List Nat,(sD a).eqv (sD b)=decide (a=b):=fun a b=>by
  unfold sD
  rw [show (PyData.str (T a)).eqv (.str (T b))=(T a == T b) by simp [PyData.eqv]]
  by_cases e:a=b
  ·rw [e,decide_eq_true rfl];simp
  ·rw [decide_eq_false e];simpa using fun z=>e (zXc z)
 cases d with
 | num fg pl b sn z m pt wy =>
  obtain ⟨k,lim,e1,_⟩:=h
  obtain ⟨k',lim',e1',_⟩:=h'
  have ok:NumS fg pl b sn z m pt wy wd f x:=o
  have e2:p.1++p.2=zCh pl b sn z m pt k:=e1
  have e2':p'.1++p'.2=zCh pl b sn z m pt k':=e1'
  rw [e2,e2',zOP ok lim,zOP ok lim']
  have o4:=ok.pl2;have o5:=ok.b1;have o6:=ok.b2
  have pw:=pw6 (b:=b) (t:=pl) o5 o6 o4
  unfold rD
  rw [show (PyData.tuple [.int (low1 k (b ^ pl.toNat)),.int (low2 k (b ^ pl.toNat))]).eqv (.tuple [.int (low1 k' (b ^ pl.toNat)),.int (low2 k' (b ^ pl.toNat))])=(low1 k (b ^ pl.toNat) == low1 k' (b ^ pl.toNat) && low2 k (b ^ pl.toNat) == low2 k' (b ^ pl.toNat)) by simp [PyData.eqv,PyData.eqvAll]]
  by_cases e:k=k'
  ·rw [e,decide_eq_true rfl];simp
  ·have nc:zCh pl b sn z m pt k≠zCh pl b sn z m pt k':=fun z=>e (zGt ok lim lim' z (zJh ok))
   rw [decide_eq_false nc]
   cases hb:(low1 k (b ^ pl.toNat) == low1 k' (b ^ pl.toNat) && low2 k (b ^ pl.toNat) == low2 k' (b ^ pl.toNat)) with
   | false=>rfl
   | true =>
    rw [Bool.and_eq_true,beq_iff_eq,beq_iff_eq] at hb
    have s1:=zGy (w:=wy) (k:=k) (S:=b ^ pl.toNat) (by omega)
    have s2:=zGy (w:=wy) (k:=k') (S:=b ^ pl.toNat) (by omega)
    rw [hb.1,hb.2] at s1
    exact absurd (s1.symm.trans s2) e
 | word sg lo hi=>exact sd _ _
 | cho ns=>exact sd _ _
theorem zSw (o:okS wd f x d) {cs:List (List Nat × List Nat)} (al:Al (fun v p=>VlA H v d p.1 p.2) us cs):Dts K H us (cs.map fun p=>vd d (p.1++p.2)):=by
 induction al with
 | nil=>exact .nil
 | cons h _ ih=>exact .cons (zRN o h) ih
theorem zQb {wd:Int} {f:Nat} {x:Str} {d:Fd} (o:okS wd f x d) : ∀ cs:List (List Nat × List Nat),(∀ p ∈ cs,CoL d (p.1++p.2) p.1)->PyData.canLayAll0 (cs.map fun p=>vd d (p.1++p.2))=true
 | [],_=>by simp [PyData.canLayAll0]
 | p::cs,h=>by
  have o1:=(zTm o (h p (mem_cons_self ..))).1
  simp only [map_cons,PyData.canLayAll0,zQb o cs (fun q hq=>h q (mem_cons_of_mem _ hq)),o1,Bool.and_true]
theorem zSE (o:okS wd f x d) {cs:List (List Nat × List Nat)} (hc : ∀ p ∈ cs,CoL d (p.1++p.2) p.1) (nd:(cs.map fun p=>p.1++p.2).Nodup) {q:List Nat × List Nat} (hq:q ∈ cs):((cs.map fun p=>vd d (p.1++p.2)).countP fun y=>y.eqv (vd d (q.1++q.2)))=1:=by
 have e:((cs.map fun p=>vd d (p.1++p.2)).countP fun y=>y.eqv (vd d (q.1++q.2)))=(cs.map fun p=>p.1++p.2).count (q.1++q.2):=by
  rw [List.countP_map,List.count,List.countP_map]
  refine List.countP_congr fun p hp=>?_
  show (vd d (p.1++p.2)).eqv (vd d (q.1++q.2))=true↔(p.1++p.2 == q.1++q.2)=true
  rw [zWb o (hc p hp) (hc q hq),decide_eq_true_iff,beq_iff_eq]
 rw [e]
 have h1:=List.nodup_iff_count.mp nd (q.1++q.2)
 have h2:0 < (cs.map fun p=>p.1++p.2).count (q.1++q.2):=List.count_pos_iff.mpr (List.mem_map.mpr ⟨q,hq,rfl⟩)
 omega
theorem zTX {o:Addr} (h:FdAt K H o cN cW cC wd f x st d) {k:Nat} {t:List Nat} (hk:k < (lks wd f x st d).length) (ft:Fit ((lks wd f x st d).getD k []) t):Asc t/\t.length<=300:=by
 obtain ⟨p,⟨co,_,e⟩,_⟩:=zOZ h hk ft
 obtain ⟨_,_,_,sx,w0,w1⟩:=h.bd
 have hf:f < 127:=by cases h with | num F ok=>exact ok.f | word F ok=>exact ok.f | cho F e ok=>exact ok.f
 obtain ⟨l1,l2,a1,a2⟩:=zS5 h.okS co
 rw [<- e]
 exact zT6 sx w0 w1 hf l1 l2 a1 a2
theorem zSA {z:Int} {pt:Nat} (ok:NumS fg pl b sn z m pt wy wd f x) (hq:(ncs fg pl b sn z m pt)[j]? = some q) (hk:LimN fg pl b k) (ix:ixK fg pl b k=j):q.1=chs (stL sn (decide (k < 0))):=by
 have o1:=ok.fg1;have o2:=ok.fg2;have o3:=ok.pl1;have o4:=ok.pl2;have o5:=ok.b1;have o6:=ok.b2
 have ef:(fg+pl).toNat=fg.toNat+pl.toNat:=by omega
 unfold LimN at hk
 rw [ef] at hk
 have kd:=zLp (b:=b.toNat) (p:=pl.toNat) (fg:=fg.toNat) (n:=k.natAbs) (by omega) (by omega) (by omega) (by omega) (by omega) hk
 unfold ixK at ix
 rcases zM6 hq with ⟨hj,rfl⟩ | ⟨hj,hl,rfl⟩
 ·have : ¬ k < 0:=fun z=>by rw [if_pos z] at ix;omega
  rw [decide_eq_false this];rfl
 ·have:k < 0:=Classical.byContradiction fun z=>by rw [if_neg z] at ix;omega
  rw [decide_eq_true this];rfl
theorem zNr {o:Addr} (h:FdAt K H o cN cW cC wd f x st d) {t:List Nat} {p p':List Nat × List Nat} {k:Nat} (v:VoT wd f x st t d p) (v':VoT wd f x st t d p') (l:LkF wd st d (p.1++p.2) k) (l':LkF wd st d (p'.1++p'.2) k):p.1++p.2=p'.1++p'.2:=by
 obtain ⟨_,_,_,sx,w0,w1⟩:=h.bd
 obtain ⟨q,hq,f1⟩:=l
 obtain ⟨q',hq',f2⟩:=l'
 rw [hq] at hq';cases hq'
 have le:(p.1++p.2).length=(p'.1++p'.2).length:=f1.len.trans f2.len.symm
 have e:=v.2.2.trans v'.2.2.symm
 unfold nfil at e
 split at e
 ·rename_i hx
  rw [drop_left,drop_left] at e
  have l1:p.1.length=p'.1.length:=by
   cases h with
   | @num fg pl b sn z m pt wy F ok =>
    obtain ⟨g,g1,g2,g3⟩:=zIr (p:=fits wd st) (cors (.num fg pl b sn z m pt wy))
    have kl:=(List.getElem?_eq_some_iff.mp hq).1
    have hj:(ncs fg pl b sn z m pt)[g k]? = some q:=(g2 k kl).2.symm.trans hq
    have one : ∀ r:List Nat × List Nat,CoL (.num fg pl b sn z m pt wy) (r.1++r.2) r.1->Fit (q.1++q.2) (r.1++r.2)->r.1.length=q.1.length:=fun r co ff=>by
     obtain ⟨k1,m1,i1,c1⟩:=(zQz ok hj).mp ff
     obtain ⟨k2,m2,c2,c3⟩:=co
     have:=zGt ok m1 m2 (c1.symm.trans c2) (zJh ok)
     subst this
     have e3:r.1=stL sn (decide (k1 < 0)):=c3
     rw [zSA ok hj m1 i1,e3]
     unfold chs;rw [length_map]
    rw [one p v.1 f1,one p' v'.1 f2]
   | word F ok=>rw [show p.1=[] from v.1.2,show p'.1=[] from v'.1.2]
   | cho F e0 ok=>rw [show p.1=[] from v.1.2,show p'.1=[] from v'.1.2]
  obtain ⟨e1,e2⟩:=List.append_inj e l1
  rw [length_append,length_append] at le
  have l2:p.2.length=p'.2.length:=by omega
  unfold pad at e2
  rw [l1,l2] at e2
  have e3:=append_cancel_left (List.append_cancel_right e2)
  rw [e1,e3]
 ·rename_i hx
  have sx':Side x:=sx.elim id fun z=>absurd z hx
  unfold pad at e
  rw [le] at e
  have e2:=List.append_cancel_right e
  exact append_cancel_left e2
theorem zST {o:Addr} (h:FdAt K H o cN cW cC wd f x st d) {t:List Nat} {p:List Nat × List Nat} {k:Nat} (v:VoT wd f x st t d p) (l:LkF wd st d (p.1++p.2) k):k < (lks wd f x st d).length/\Fit ((lks wd f x st d).getD k []) t:=by
 obtain ⟨g,g1,g2,g3⟩:=zIr (p:=fits wd st) (cors d)
 obtain ⟨q,hq,ff⟩:=l
 have hk:=(List.getElem?_eq_some_iff.mp hq).1
 have hj:=(g2 k hk).2.symm.trans hq
 have el:(lks wd f x st d).getD k []=flk wd f x q:=by unfold lks;rw [getD_eq_getElem?_getD,getElem?_map,hq];rfl
 refine ⟨by unfold lks;rw [length_map];exact hk,?_⟩
 rw [el]
 exact (zOB h hj).mpr ⟨_,_,(zHA h hj).mp ff,v.1,v.2.2.symm⟩
variable {qs:List ((List Nat × List Nat) × Nat)}
theorem zPf {o:Addr} (h:FdAt K H o cN cW cC wd f x st d) {t:List Nat} {cs:List (List Nat × List Nat)} (nd:(cs.map fun p=>p.1++p.2).Nodup) (mi : ∀ p,p ∈ cs↔VoT wd f x st t d p) (hq : ∀ q ∈ qs,VoT wd f x st t d q.1/\LkF wd st d (q.1.1++q.1.2) q.2) (ix:qs.map (·.2)=(List.range (lks wd f x st d).length).filter fun k=>fitB ((lks wd f x st d).getD k []) t):(qs.map fun q=>q.1.1++q.1.2).Nodup/\cs.length=qs.length:=by
 have n1:(qs.map (·.2)).Nodup:=by rw [ix];exact List.Pairwise.filter _ List.nodup_range
 have n2:(qs.map fun q=>q.1.1++q.1.2).Nodup:=by
  refine List.pairwise_map.mpr ((List.Pairwise.and_mem.mp (List.pairwise_map.mp n1)).imp ?_)
  rintro a b ⟨ha,hb,hne⟩ e
  have la:=(hq a ha).2
  have lb:=(hq b hb).2
  rw [<- e] at lb
  exact hne (LkF.one h h.nd la lb)
 refine ⟨n2,?_⟩
 have pm:(cs.map fun p=>p.1++p.2).Perm (qs.map fun q=>q.1.1++q.1.2):=(List.perm_ext_iff_of_nodup nd n2).mpr fun c=>by
  rw [mem_map,mem_map]
  constructor
  ·rintro ⟨p,hp,rfl⟩
   have vp:=(mi p).mp hp
   obtain ⟨k,hk,lf⟩:=LkF.ex h vp.1 vp.2.1
   obtain ⟨k1,k2⟩:=zST h vp lf
   have:k ∈ qs.map (·.2):=by rw [ix];exact List.mem_filter.mpr ⟨List.mem_range.mpr k1,zFx.mpr k2⟩
   obtain ⟨q,hm,rfl⟩:=List.mem_map.mp this
   exact ⟨q,hm,zNr h (hq q hm).1 vp (hq q hm).2 lf⟩
  ·rintro ⟨q,hm,rfl⟩
   exact ⟨q.1,(mi q.1).mpr (hq q hm).1,rfl⟩
 have:=pm.length_eq
 rwa [length_map,length_map] at this
def zF3 (K:W.Frag):Sp:=fun vs H Q _=>∃ (l:Addr) (n wy:Int) (c:Ce),vs=[.ref l,.int n,.int wy]/\H l=some (.lst (tsV c))/\c.length<=500/\NeC c/\0<=wy/\wy < 3 /\ ∀ (t:List Nat) H',Same H H'->Fit c t->Q (.str (T t)) H'
theorem zUZ {n wy:Int} {c:Ce} (h1:H l=some (.lst (tsV c))) (h2:c.length<=500) (h3:NeC c) (h4:0<=wy) (h5:wy < 3) (q : ∀ (t:List Nat) H',Same H H'->Fit c t->Q (.str (T t)) H'):zF3 K ([.ref l,.int n,.int wy]++[]) H Q E:=⟨l,n,wy,c,rfl,h1,h2,h3,h4,h5,q⟩
theorem Fit.snoc {c:Ce} {t:List Nat} {i:Nat} {a:Nat} (h:Fit (c.take i) t) (hi:i < c.length) (ha:a ∈ c.getD i []):Fit (c.take (i+1)) (t++[a]):=by
 rw [take_succ,getElem?_eq_getElem hi]
 refine (zB7 h.len).mpr ⟨h,?_,trivial⟩
 rw [getD_eq_getElem?_getD,getElem?_eq_getElem hi] at ha
 exact ha
theorem zNo (F:Fun K "_law_text" "_law_text" zG8 fq fd) (B:Blt mg) (zAM:Has P w K mg base "_law_pick" 1 ["_law_cell", "_law_salt", "_law_many"] (zBg K)):FnOk P w K mg base CX0 2 fq fd ["_law_look", "_law_cell", "_law_way"] (zF3 K):=by
 refine F.ok zEW (fun vs H Q E h=>?_) (fun cdv A outer s H vs Q E hr h=>?_)
 ·obtain ⟨l,n,wy,c,rfl,h1,h2,h3,w0,w1,q⟩:=h
  rfl
 obtain ⟨l,n,wy,c,rfl,h1,h2,h3,w0,w1,q⟩:=h
 refine ⟨_,zAF (zAN (i:=3) zEW.nd rfl (Or.inl rfl) (zF7 (l:=[]) (by decide +kernel)))
  (zAF (zGC PassesOwn.never rfl (zDm rfl B.vAB (zAA (zAL zBR B.vAA rfl zBF (zAA (pv 0) (zAE))) (zAE))) (zAz (i:=4) zEW.nd rfl (Or.inl rfl)) (zAF (zAN (i:=5) zEW.nd rfl (Or.inl rfl) (zAb zAv (zA1 (zAA (zAI zAM hr rfl (zAA (pv 1) (zAA (zAR zBA (zAG) (pv 4)) (zAA (zAL zA6 B.vAA rfl zBF (zAA (zAb zAv (pv 0) (pv 4) (fun _ _=>rfl)) (zAE))) (zAE))))) (zAA (zAG) (zAA (zAR zCm (zAL zA6 B.vAA rfl zBF (zAA (zAb zAv (pv 0) (pv 4) (fun _ _=>rfl)) (zAE))) (zAG)) (zAE))))) (pv 2) (fun _ _=>rfl)))
  (zAJ (zAN (i:=3) zEW.nd rfl (Or.inl rfl) (zAR zDC (pv 3) (zAb zER (zAb zAv (pv 0) (pv 4) (fun _ _=>rfl)) (pv 5) (fun _ _=>rfl)))))))
  (zAJ (zAO (pv 3)))),?_⟩
 walk_at "st"
 walk_at "rd"
 refine zJq (by omega) (by omega) (fun i σ H'=>Same H H' /\ ∃ (t:List Nat) (r1 r2:Option V),Fit (c.take i) t/\σ=[some (.ref l),some (.int n),some (.int wy),some (.str (T t)),r1,r2]) ⟨Same.refl _,[],none,none,trivial,rfl⟩ ?_ ?_
 ·rintro i σ H' hi ⟨g',t,r1,r2,ft,rfl⟩
  have e0:(0+(i:Int)).toNat=i:=by omega
  have hm:=h3 (c.getD (0+(i:Int)).toNat []) (by rw [e0,getD_eq_getElem?_getD,getElem?_eq_getElem (by omega)];exact getElem_mem _)
  have tl:t.length<=500:=by have:=ft.len;rw [length_take] at this;omega
  have h1':=g'.at h1
  walk_at "rd"
  rename_i v' v0 v1 p' H2 g2 n2 e2
  refine zHf (fun z=>0<=z/\z < ((c.getD (0+(i:Int)).toNat []).length:Int)) e2 w0 (by simpa using w1) (by
   simp only [mem_cons,not_mem_nil,or_false]
   rintro v (rfl | rfl | rfl)
   ·exact ⟨_,rfl,v0,v1⟩
   ·exact ⟨_,rfl,by omega,by omega⟩
   ·exact ⟨_,rfl,by omega,by omega⟩) fun z hz=>?_
  have h1'':=g2.at h1'
  walk_at "rd"
  refine ⟨g'.trans g2,_,_,_,ft.snoc (by omega) ?_,rfl⟩
  rw [e0] at hz ⊢
  rw [getD_eq_getElem?_getD (l:=c.getD i []),getElem?_eq_getElem (by omega)]
  exact getElem_mem _
 ·rintro σ H' ⟨g',t,r1,r2,ft,rfl⟩
  walk_at "rd"
  rw [toNat_natCast,take_length] at ft
  exact q _ _ g' ft
def zDo (K:W.Frag):Sp:=fun vs H Q _=>∃ i:Int,vs=[.int i]/\Q (.bl true) H
theorem zUE (q:Q (.bl true) H):zDo K ([.int i]++[]) H Q E:=⟨i,rfl,q⟩
local macro_rules | `(tactic| walk_at "rdc")=>`(tactic| with_reducible refine zUE ?_)
theorem zLw (F:Fun K "_law_whole" "_law_whole" zFo fq fd) (B:Blt mg):FnOk P w K mg base CX0 1 fq fd ["_law_thing"] (zDo K):=by
 refine F.ok zMh (fun vs H Q E h=>?_) (fun cdv A outer s H vs Q E hr h=>?_)
 ·obtain ⟨i,rfl,q⟩:=h
  rfl
 obtain ⟨i,rfl,q⟩:=h
 refine ⟨_,zAJ (zAO (zGT (zAL zCt B.vAC rfl zBC (zAA (pv 0) (zAA (zE0 rfl B.vAG zTB (v:=.ty "int") rfl) (zAE)))) (zHs (zTJ (zAL zCt B.vAC rfl zBC (zAA (pv 0) (zAA (zE0 rfl B.vAH zQ2 (v:=.ty "bool") rfl) (zAE)))))))),?_⟩
 walk_at "st"
 walk_at "rd"
 exact q
def zDM (K:W.Frag):Sp:=fun vs H Q _=>∃ (p:Addr) (v:V) (wd:Int) (f:Nat) (x:Str) (st:Bool) (d:Fd) (ld rs:List Nat),vs=[.ref p,v]/\SpAt H p wd f x st d/\VlA H v d ld rs/\Q (.bl true) H
theorem zPA (h1:SpAt H p wd f x st d) (h2:VlA H v d ld rs) (q:Q (.bl true) H):zDM K ([.ref p,v]++[]) H Q E:=⟨p,v,wd,f,x,st,d,ld,rs,rfl,h1,h2,q⟩
theorem zJk (F:Fun K "_law_is_value" "_law_is_value" zDl fq fd) (B:Blt mg) (zFs:Has P w K mg base "_law_whole" 1 ["_law_thing"] (zDo K)):FnOk P w K mg base CX0 2 fq fd ["_law_spec_here", "_law_value"] (zDM K):=by
 refine F.ok zJj (fun vs H Q E h=>?_) (fun cdv A outer s H vs Q E hr h=>?_)
 ·obtain ⟨p,v,wd,f,x,st,d,ld,rs,rfl,S0,V0,q⟩:=h
  rfl
 obtain ⟨p,v,wd,f,x,st,d,ld,rs,rfl,S0,V0,q⟩:=h
 refine ⟨_,zAF (zBN (zAW zIq (zAb zBc (pv 0) (zAG) (fun _ _=>rfl)) (zA2) (zAZ _)) (zAJ (zAO (zAL zCt B.vAC rfl zBC (zAA (pv 1) (zAA (zE0 rfl B.vAD zOa (v:=.ty "str") rfl) (zAE)))))) (zAY))
  (zAJ (zAO (zGT (zAL zCt B.vAC rfl zBC (zAA (pv 1) (zAA (zE0 rfl B.vAK zN1 (v:=.ty "tuple") rfl) (zAE)))) (zGT (zBu zCl (zAL zBR B.vAA rfl zBF (zAA (pv 1) (zAE))) (zAG) (zAZ _)) (zGT (zAI zFs hr rfl (zAA (zAb zBc (pv 1) (zAG) (fun _ _=>rfl)) (zAE))) (zHs (zAI zFs hr rfl (zAA (zAb zBc (pv 1) (zAG) (fun _ _=>rfl)) (zAE))))))))),?_⟩
 walk_at "st"
 cases V0 with
 | @num p0 fg pl b sn z m pt wy k hv hp lim =>
  subst hv
  cases S0 with
  | num e ok =>
   walk_at "rd"
   exact q
 | @word sg lo hi t hv iw =>
  subst hv
  cases S0 with
  | word e ok =>
   walk_at "rd"
   exact q
 | @cho ns t hv hm =>
  subst hv
  cases S0 with
  | cho e eL ok =>
   walk_at "rd"
   exact q
def zEi (K:W.Frag) (cN cW cC:Addr):Sp:=fun vs H Q _=>∃ (o p l9:Addr) (k:Nat) (t:List Nat) (wd:Int) (f:Nat) (x:Str) (st:Bool) (d:Fd) (us:List V),vs=[.ref o,.ref p,.ref l9,.int k,.str (T t)]/\FdAt K H o cN cW cC wd f x st d/\SpAt H p wd f x st d/\H l9=some (.lst us)/\Al (RL H Tr) us (lks wd f x st d)/\k < (lks wd f x st d).length/\Fit ((lks wd f x st d).getD k []) t /\ ∀ H',Same H H'->Q (.bl true) H'
theorem zR6 {o l9:Addr} {k:Nat} {t:List Nat} (h1:FdAt K H o cN cW cC wd f x st d) (h2:SpAt H p wd f x st d) (h3:H l9=some (.lst us)) (h4:Al (RL H Tr) us (lks wd f x st d)) (h5:k < (lks wd f x st d).length) (h6:Fit ((lks wd f x st d).getD k []) t) (q : ∀ H',Same H H'->Q (.bl true) H'):zEi K cN cW cC ([.ref o,.ref p,.ref l9,.int k,.str (T t)]++[]) H Q E:=⟨o,p,l9,k,t,wd,f,x,st,d,us,rfl,h1,h2,h3,h4,h5,h6,q⟩
theorem zMW (F:Fun K "_law_right" "_law_right" zFu fq fd) (B:Blt mg) (zAK:Cls K zAB) (zAS:Cls K zAD) (zAQ:Cls K zAC) (zHJ:Has P w K mg base "value_in" 8 ["form", "at", "text"] (zEe K zAB zAD zAC)) (zIn:Has P w K mg base "look_for" 7 ["form", "value"] (zEK K zAB zAD zAC)) (zKK:Has P w K mg base "fits" 1 ["look", "text"] (zHh K)) (zKV:Has P w K mg base "_law_is_value" 2 ["_law_spec_here", "_law_value"] (zDM K)) (zFs:Has P w K mg base "_law_whole" 1 ["_law_thing"] (zDo K)) (zDt:HasM P w K mg base CX0 zAB "put" 6 ["self", "value"] (spc (zBq K zAB zAD zAC zAu))) (zE7:HasM P w K mg base CX0 zAD "put" 6 ["self", "value"] (spc (zBq K zAB zAD zAC zAu))) (zDx:HasM P w K mg base CX0 zAC "put" 6 ["self", "value"] (spc (zBq K zAB zAD zAC zAu))) (zBK:HasM P w K mg base CX0 zAB "values_for" 7 ["self", "text"] (zBE K zAB)) (zBX:HasM P w K mg base CX0 zAD "values_for" 5 ["self", "text"] (zBQ K zAD)) (zBL:HasM P w K mg base CX0 zAC "values_for" 5 ["self", "text"] (zBH K zAC)):FnOk P w K mg base CX0 9 fq fd ["_law_form_here", "_law_spec_here", "_law_looks", "_law_at", "_law_text_here"] (zEi K zAB zAD zAC):=by
 refine F.ok zGr (fun vs H Q E h=>?_) (fun cdv A outer s H vs Q E hr h=>?_)
 ·obtain ⟨o,p,l9,k,t,wd,f,x,st,d,us,rfl,D0,S0,e9,al9,hk,ft,q⟩:=h
  rfl
 obtain ⟨o,p,l9,k,t,wd,f,x,st,d,us,rfl,D0,S0,e9,al9,hk,ft,q⟩:=h
 refine ⟨_,zAF (zBN (zAW zRs (zAI zKK hr rfl (zAA (zAb zAv (pv 2) (pv 3) (fun _ _=>rfl)) (zAA (pv 4) (zAE)))) (zEz) (zAZ _)) (zAJ (zAO (zEz))) (zAY))
  (zAF (zAN (i:=5) zGr.nd rfl (Or.inl rfl) (zAI zHJ hr rfl (zAA (pv 0) (zAA (pv 3) (zAA (pv 4) (zAE))))))
  (zAF (zBN (PW.pt (zI8 (zCT (zBt (zAI zKV hr rfl (zAA (pv 1) (zAA (pv 5) (zAE)))))) (zGA (zAW zIq (zCb (zAV zDt zAK zBV hr (pv 0) (zAA (pv 5) (zAE))) (zCb (zAV zE7 zAS zBV hr (pv 0) (zAA (pv 5) (zAE))) (zAV zDx zAQ zBV hr (pv 0) (zAA (pv 5) (zAE))))) (pv 4) (zAZ _))))) (zAJ (zAO (zEz))) (zAY))
  (zAF (zAN (i:=6) zGr.nd rfl (Or.inl rfl) (zAI zIn hr rfl (zAA (pv 0) (zAA (pv 5) (zAE)))))
  (zAF (zBN (PW.pt (zI8 (zCT (zBt (zAI zFs hr rfl (zAA (pv 6) (zAE))))) (zGA (zAW zIq (pv 6) (pv 3) (zAZ _))))) (zAJ (zAO (zEz))) (zAY))
  (zAJ (zAO (zGT (zBu (zTE (hu20 hr)) (zGL PySem.F.plainAttrs_list PySem.F.slot_list_count PySem.F.type_list_count (zQA (hu20 hr)) (zCb (zAV zBK zAK zBV hr (pv 0) (zAA (pv 4) (zAE))) (zCb (zAV zBX zAS zBV hr (pv 0) (zAA (pv 4) (zAE))) (zAV zBL zAQ zBV hr (pv 0) (zAA (pv 4) (zAE))))) (zAA (pv 5) (zAE))) (zAG) (zAZ _)) (zHs (zBu (zTE (hu20 hr)) (zAI zHJ hr rfl (zAA (pv 0) (zAA (pv 3) (zAA (pv 4) (zAE))))) (pv 5) (zAZ _)))))))))),?_⟩
 walk_at "st"
 obtain ⟨ll,lb⟩:=zOU D0
 obtain ⟨at',tl⟩:=zTX D0 hk ft
 have ln9:=al9.len
 have ok:=D0.okS
 walk_at "rd"
 refine zE1 (SqL.of e9) (by omega) (by omega) fun y hy=>?_
 rw [toNat_natCast] at hy
 obtain ⟨q2,rfl,e2,m2⟩:=zR1 al9 hy
 walk_at "rd"
 refine zOE e2 (lb _ m2).2 (by omega) fun H1 g1=>?_
 rw [zFx.mpr ft]
 walk_at "rd"
 refine ⟨true,rfl,rfl,?_⟩
 walk_at "rd"
 refine zIR (D0.same g1) hk at' tl ft fun v H2 p2 g2 vl vo lf=>?_
 have g02:=g1.trans g2
 walk_at "rd"
 refine zPA (S0.same g02) vl ?_
 walk_at "rd"
 refine zTH (D0.same g02) vl vo.2.1 (fun Q' h=>by walk_at "rd"; exact h) (fun Q' h=>by walk_at "rd"; exact h) fun H3 g3=>?_
 rw [vo.2.2]
 have g03:=g02.trans g3
 walk_at "rd"
 refine zKz (D0.same g03) (vl.same g3) vo.2.1 fun j H4 g4 lj=>?_
 have ej:=LkF.one D0 D0.nd lj lf
 subst ej
 have g04:=g03.trans g4
 walk_at "rd"
 refine zQp (D0.same g04) at' tl (fun Q' h=>by walk_at "rd"; exact h) (fun Q' h=>by walk_at "rd"; exact h) fun l H5 vs cs g5 e5 al5 nd mi l42=>?_
 have g05:=g04.trans g5
 have hcs : ∀ p ∈ cs,CoL d (p.1++p.2) p.1:=fun p hp=>((mi p).mp hp).1
 have vok:=zTm ok vo.1
 have vl5:=(vl.same g3).same (g4.trans g5)
 walk_at "rd"
 refine ⟨l,vs,v,_,_,rfl,rfl,e5,zSw ok al5,zRN ok vl5,zQb ok cs hcs,vok.1,vok.2,?_⟩
 rw [zSE ok hcs nd ((mi p2).mpr vo)]
 walk_at "rd"
 refine zXH (.int _) (.int _) rfl (by decide) ?_
 walk_at "rd"
 refine zIR (D0.same g05) hk at' tl ft fun v' H6 p6 g6 vl6 vo6 lf6=>?_
 walk_at "rd"
 have one:=zNr D0 vo vo6 lf lf6
 refine zXH (d:=vd d (p2.1++p2.2)) (by rw [one];exact zRN ok vl6) (zRN ok (vl5.same g6)) vok.1 (by have:=vok.2;omega) ?_
 walk_at "rd"
 exact q _ (g05.trans g6)
def zEj (K:W.Frag) (cN cW cC:Addr):Sp:=fun vs H Q _=>∃ (o l9:Addr) (t:List Nat) (wd:Int) (f:Nat) (x:Str) (st:Bool) (d:Fd) (us:List V),vs=[.ref o,.ref l9,.str (T t)]/\FdAt K H o cN cW cC wd f x st d/\H l9=some (.lst us)/\Al (RL H Tr) us (lks wd f x st d)/\Asc t/\t.length<=300 /\ ∀ H',Same H H'->Q (.bl true) H'
theorem zR7 {o l9:Addr} {t:List Nat} (h1:FdAt K H o cN cW cC wd f x st d) (h3:H l9=some (.lst us)) (h4:Al (RL H Tr) us (lks wd f x st d)) (h5:Asc t) (h6:t.length<=300) (q : ∀ H',Same H H'->Q (.bl true) H'):zEj K cN cW cC ([.ref o,.ref l9,.str (T t)]++[]) H Q E:=⟨o,l9,t,wd,f,x,st,d,us,rfl,h1,h3,h4,h5,h6,q⟩
theorem Al.same_vl (g:Same H H') (h:Al (fun v q=>VlA H v d q.1.1 q.1.2) us qs):Al (fun v q=>VlA H' v d q.1.1 q.1.2) us qs:=h.imp fun _ _ h=>h.same g
theorem Al.take {α:Type} {R:V->α->Prop} {as:List α} (h:Al R vs as) : ∀ k,Al R (vs.take k) (as.take k):=by
 induction h with
 | nil=>intro k;rw [take_nil,take_nil];exact .nil
 | cons h _ ih =>
  intro k
  cases k with
  | zero=>exact .nil
  | succ k=>exact .cons h (ih k)
theorem zW2 {ys:List V} {k:Nat}:cutV ys none (some (k:Int))=ys.take k:=by
 unfold cutV
 have h1:HT.sIx ys.length 0 none=0:=rfl
 have h2:HT.sIx ys.length ys.length (some (k:Int))=min k ys.length:=by unfold HT.sIx;simp;omega
 rw [h1,h2,List.drop_zero,sub_zero]
 rcases le_total k ys.length with y | y
 ·rw [min_eq_left y]
 ·rw [min_eq_right y,take_length,take_of_length_le y]
theorem zXa {o:Addr} (h:FdAt K H o cN cW cC wd f x st d) {t:List Nat} (hq : ∀ q ∈ qs,VoT wd f x st t d q.1/\LkF wd st d (q.1.1++q.1.2) q.2) (ix:qs.map (·.2)=(List.range (lks wd f x st d).length).filter fun k=>fitB ((lks wd f x st d).getD k []) t):(qs.map fun q=>q.1.1++q.1.2).Nodup:=by
 have n1:(qs.map (·.2)).Nodup:=by rw [ix];exact List.Pairwise.filter _ List.nodup_range
 refine List.pairwise_map.mpr ((List.Pairwise.and_mem.mp (List.pairwise_map.mp n1)).imp ?_)
 rintro a b ⟨ha,hb,hne⟩ e
 have la:=(hq a ha).2
 have lb:=(hq b hb).2
 rw [<- e] at lb
 exact hne (LkF.one h h.nd la lb)
theorem zMP (F:Fun K "_law_apart" "_law_apart" zFj fq fd) (B:Blt mg) (zAK:Cls K zAB) (zAS:Cls K zAD) (zAQ:Cls K zAC) (zHJ:Has P w K mg base "value_in" 8 ["form", "at", "text"] (zEe K zAB zAD zAC)) (zKK:Has P w K mg base "fits" 1 ["look", "text"] (zHh K)) (zBK:HasM P w K mg base CX0 zAB "values_for" 7 ["self", "text"] (zBE K zAB)) (zBX:HasM P w K mg base CX0 zAD "values_for" 5 ["self", "text"] (zBQ K zAD)) (zBL:HasM P w K mg base CX0 zAC "values_for" 5 ["self", "text"] (zBH K zAC)):FnOk P w K mg base CX0 9 fq fd ["_law_form_here", "_law_looks", "_law_text_here"] (zEj K zAB zAD zAC):=by
 refine F.ok zGK (fun vs H Q E h=>?_) (fun cdv A outer s H vs Q E hr h=>?_)
 ·obtain ⟨o,l9,t,wd,f,x,st,d,us,rfl,D0,e9,al9,at',tl,q⟩:=h
  rfl
 obtain ⟨o,l9,t,wd,f,x,st,d,us,rfl,D0,e9,al9,at',tl,q⟩:=h
 refine ⟨_,zAF (zEF (cl:=[("_law_text_here", s.heap.objs.size+1+2),("_law_looks", s.heap.objs.size+1+1),("_law_form_here", s.heap.objs.size+1+0)]) (fr:=["_law_form_here", "_law_looks", "_law_text_here"]) (is:=[0,1,2]) (i:=3) zGK.nd rfl (Or.inl rfl) rfl rfl rfl ⟨rfl,⟨rfl,⟨rfl,trivial⟩⟩⟩ rfl ⟨⟨rfl,rfl,Or.inl rfl⟩,⟨⟨rfl,rfl,Or.inl rfl⟩,⟨⟨rfl,rfl,Or.inl rfl⟩,trivial⟩⟩⟩ (by decide) (by decide +kernel) rfl (by decide +kernel) rfl (zDm rfl B.vAB (zAA (zAL zBR B.vAA rfl zBF (zAA (pv 1) (zAE))) (zAE))) (fun _ _ _ _=>zEk (zBt (zAI zKK hr rfl (zAA (zAb (zOG (K:=K) rfl) (pv 2) (pv 0) (fun _ _=>rfl)) (zAA (pv 3) (zAE)))))) (fun _ _ _ _=>zAI zHJ hr rfl (zAA (pv 1) (zAA (pv 0) (zAA (pv 3) (zAE))))))
  (zAF (zGC PassesOwn.never rfl (zDm rfl B.vAB (zAA (zAL zBR B.vAA rfl zBF (zAA (pv 3) (zAE))) (zAE))) (zAz (i:=4) zGK.nd rfl (Or.inl rfl)) (zAJ (zBN (zAW (zVX (hu20 hr)) (zAb zAv (pv 3) (pv 4) (fun _ _=>rfl)) (zAw zHi (pv 3) (zBe) (zAx (pv 4))) (by with_unfolding_all rfl)) (zAJ (zAO (zEz))) (zAY))))
  (zAJ (zAO (zBu zCl (zAL zBR B.vAA rfl zBF (zAA (zCb (zAV zBK zAK zBV hr (pv 0) (zAA (pv 2) (zAE))) (zCb (zAV zBX zAS zBV hr (pv 0) (zAA (pv 2) (zAE))) (zAV zBL zAQ zBV hr (pv 0) (zAA (pv 2) (zAE))))) (zAE))) (zAL zBR B.vAA rfl zBF (zAA (pv 3) (zAE))) (zAZ _))))),?_⟩
 walk_at "st"
 obtain ⟨ll,lb⟩:=zOU D0
 have ln9:=al9.len
 have ok:=D0.okS
 walk_at "rd"
 refine zKI (by omega) (by omega) (small (by omega)) (fun i ys H'=>Same H H' /\ ∃ qs:List ((List Nat × List Nat) × Nat),Al (fun v q=>VlA H' v d q.1.1 q.1.2) ys qs/\(∀ q ∈ qs,VoT wd f x st t d q.1/\LkF wd st d (q.1.1++q.1.2) q.2)/\qs.map (·.2)=(List.range i).filter fun k=>fitB ((lks wd f x st d).getD k []) t) ⟨Same.refl _,[],.nil,(fun _ h=>by cases h),rfl⟩ (fun i ys H' _ zz=>by
  obtain ⟨_,qs,al,_,e⟩:=zz
  have e2:=congrArg List.length e
  have:=length_filter_le (fun k=>fitB ((lks wd f x st d).getD k []) t) (List.range i)
  rw [length_map] at e2
  rw [length_range] at this
  rw [al.len,e2];exact this) ?_ ?_
 ·rintro i ys H1 hi ⟨g1,qs,al,hq,ix⟩
  have e91:=g1.at e9
  have e0:(0+(i:Int))=(i:Int):=by omega
  rw [e0]
  walk_at "rd"
  refine zE1 (SqL.of e91) (by omega) (by omega) fun y hy=>?_
  rw [toNat_natCast] at hy
  obtain ⟨q2,rfl,e2,m2⟩:=zR1 al9 hy
  have e21:=g1.at e2
  walk_at "rd"
  refine zOE e21 (lb _ m2).2 (by omega) fun H2 g2=>?_
  cases hf:fitB ((lks wd f x st d).getD i []) t with
  | true =>
   walk_at "rd"
   refine zIR ((D0.same g1).same g2) (by omega) at' tl (zFx.mp hf) fun v H3 p3 g3 vl vo lf=>?_
   walk_at "rd"
   refine nxC hi ⟨g1.trans (g2.trans g3),qs++[(p3,i)],(al.same_vl (g2.trans g3)).app (.one vl),fun q hq'=>?_,?_⟩
   ·rcases List.mem_append.mp hq' with h | h
    ·exact hq q h
    ·rw [List.mem_singleton.mp h];exact ⟨vo,lf⟩
   ·rw [map_append,ix,range_succ,filter_append,filter_cons,if_pos hf];rfl
  | false =>
   walk_at "rd"
   refine nxC hi ⟨g1.trans g2,qs,al.same_vl g2,hq,?_⟩
   rw [ix,range_succ,filter_append,filter_cons,if_neg (by rw [hf];exact Bool.false_ne_true),filter_nil,append_nil]
 ·rintro ys H1 ⟨g1,qs,al,hq,ix⟩ p2 H2 g2 n2 e2
  rw [toNat_natCast,ln9] at ix
  have al2:=al.same_vl g2
  have g02:=g1.trans g2
  have lq:=al.len
  have lq2:qs.length<=100:=by
   have e:=congrArg List.length ix
   have:=length_filter_le (fun k=>fitB ((lks wd f x st d).getD k []) t) (List.range (lks wd f x st d).length)
   rw [length_map] at e
   rw [length_range] at this
   omega
  walk_at "rd"
  refine zJq (by omega) (by omega) (fun _ σ H'=>Same H2 H' /\ ∃ r1:Option V,σ=[some (.ref o),some (.ref l9),some (.str (T t)),some (.ref p2),r1]) ⟨Same.refl _,none,rfl⟩ ?_ ?_
  ·rintro k σ H3 hk ⟨g3,r1,rfl⟩
   have e3:=g3.at e2
   have al3:=al2.same_vl g3
   rw [show (0+(k:Int))=(k:Int) by omega]
   walk_at "rd"
   refine zE1 (SqL.of e3) (by omega) (by omega) fun y hy=>?_
   rw [toNat_natCast] at hy
   obtain ⟨qk,hqk,vk⟩:=al3.get hy
   have mk:=hq qk (mem_of_getElem? hqk)
   walk_at "rd"
   rename_i p4 H4 g4 e4
   have vok:=zTm ok mk.1.1
   rw [show cutV ys none (some (k:Int))=ys.take k from zW2] at e4
   refine ⟨_,((qs.take k).map (·.1)).map fun p=>vd d (p.1++p.2),zRN ok (vk.same g4),.lst (SqL.of e4) (zSw ok (Al.map ((al3.same_vl g4).take k))),zQb ok _ (fun p hp=>?_),vok.1,Nat.le_succ_of_le vok.2,?_⟩
   ·obtain ⟨q',hq',rfl⟩:=List.mem_map.mp hp
    exact (hq q' (mem_of_mem_take hq')).1.1
   ·rw [List.any_eq_false.mpr (fun y hy'=>?_)]
    ·walk_at "rd"
     exact ⟨g3.trans g4,_,rfl⟩
    ·obtain ⟨p',hp',rfl⟩:=List.mem_map.mp hy'
     obtain ⟨q',hq',rfl⟩:=List.mem_map.mp hp'
     rw [zWb ok (hq q' (mem_of_mem_take hq')).1.1 mk.1.1,decide_eq_true_iff]
     have nd:=zXa D0 hq ix
     rw [<- take_append_drop k qs,map_append,List.nodup_append] at nd
     exact nd.2.2 _ (List.mem_map.mpr ⟨q',hq',rfl⟩) _ (List.mem_map.mpr ⟨qk,mem_of_getElem? (i:=0) (by rw [List.getElem?_drop];exact hqk),rfl⟩)
  ·rintro σ H3 ⟨g3,r1,rfl⟩
   have e3:=g3.at e2
   walk_at "rd"
   refine zQp ((D0.same g02).same g3) at' tl (fun Q' h=>by walk_at "rd"; exact h) (fun Q' h=>by walk_at "rd"; exact h) fun l H5 vs cs g5 e5 al5 nd mi l42=>?_
   have e35:=g5.at e3
   have l5:=al5.len
   obtain ⟨_,ms⟩:=zPf D0 nd mi hq ix
   walk_at "rd"
   have e6:((vs.length:Nat):Int)=(ys.length:Nat):=by omega
   rw [decide_eq_true e6]
   exact q _ (g02.trans (g3.trans g5))
theorem zSm (h0:0<=lo) (h1:lo<=1000) (h2:0<=hi) (h3:hi<=1000) (hc:1<=c) (hc2:c<=1000) : ∃ n:Nat,n<=1000/\zQ8 lo hi c n /\ ∀ k:Nat,k < n->lo+k*c < hi:=by
 have e:Builtin.Range.rangeSize lo hi c=if lo < hi then (hi - lo - 1) / c+1 else 0:=by
  unfold Builtin.Range.rangeSize
  rw [if_pos (by omega)]
 have d0:lo < hi->0<=(hi - lo - 1) / c:=fun _=>Int.ediv_nonneg (by omega) (by omega)
 have d1:lo < hi->(hi - lo - 1) / c<=hi - lo - 1:=fun _=>Int.ediv_le_self _ (by omega)
 refine ⟨(Builtin.Range.rangeSize lo hi c).toNat,?_,⟨hc,?_,?_,PyProof.noPylong_small (by omega)⟩,fun k hk=>?_⟩
 ·rw [e];split
  ·rename_i h;have:=d1 h;omega
  ·decide
 ·unfold Builtin.Range.small
  rw [e]
  simp only [Builtin.Range.rangeFitsLong,Bool.and_eq_true,Bool.or_eq_true,decide_eq_true_eq,beq_iff_eq,show c > 0 by omega,if_true]
  split
  ·rename_i h;have:=d0 h;have:=d1 h;omega
  ·omega
 ·rw [e];split
  ·rename_i h;have:=d0 h;omega
  ·rfl
 ·rw [e] at hk
  split at hk
  ·rename_i h
   have:=Int.mul_le_of_le_ediv (a:=(k:Int)) (b:=hi - lo - 1) (c:=c) (by omega) (by have:=d0 h;omega)
   omega
  ·exact absurd hk (by simp)
theorem len0 {α:Type} {P:List α->Prop} (h:P []) : ∀ us:List α,us.length=0->P us
 | [],_=>h
theorem lenS {α:Type} {P:List α->Prop} (h : ∀ (a:α) (us:List α),us.length=n->P (a::us)) : ∀ us:List α,us.length=n+1->P us
 | a::us,e=>h a us (Nat.succ.inj e)
def zNy (K:W.Frag):Sp:=fun vs H Q _=>∃ (a:Addr) (ns:List Int),vs=[.ref a]/\SqL K H a (ns.map V.int)/\ns.length<=63 /\ ∀ H',Q (.bl true) H'
theorem zV0 {o:Int} (h:s=0\/s=1) (q : ∀ p H' wd f x st d,Same H H'->SpAt H' p wd f x st d->Q (.ref p) H'):zFq K ([.int c,.int o,.int s]++[]) H Q E:=⟨c,o,s,rfl,h,q⟩
local macro_rules | `(tactic| walk_at "rdc")=>`(tactic| with_reducible refine zPc ?_)
local macro_rules | `(tactic| walk_at "rd1")=>`(tactic| with_reducible refine zPc ?_)
theorem zWX (F:Fun K "law" "law" zNA fq fd) (B:Blt mg) (zD9:Has P w K mg base "_law_cell_at" 1 ["_law_script", "_law_k"] (zDg K)) (zOo:Has P w K mg base "_law_spec" 4 ["_law_cell", "_law_other", "_law_small"] (zFq K)) (zPR:Has P w K mg base "_law_form" 5 ["_law_spec_here"] (zFv K zAB zAD zAC)) (zIZ:Has P w K mg base "looks_of" 7 ["form"] (zEL K zAB zAD zAC)) (zAM:Has P w K mg base "_law_pick" 1 ["_law_cell", "_law_salt", "_law_many"] (zBg K)) (zOz:Has P w K mg base "_law_text" 2 ["_law_look", "_law_cell", "_law_way"] (zF3 K)) (zM0:Has P w K mg base "_law_right" 9 ["_law_form_here", "_law_spec_here", "_law_looks", "_law_at", "_law_text_here"] (zEi K zAB zAD zAC)) (zND:Has P w K mg base "_law_apart" 9 ["_law_form_here", "_law_looks", "_law_text_here"] (zEj K zAB zAD zAC)):FnOk P w K mg base CX0 10 fq fd ["_law_script"] (zNy K):=by
 refine F.ok zHW (fun vs H Q E h=>?_) (fun cdv A outer s H vs Q E hr h=>?_)
 ·obtain ⟨a,ns,rfl,hS,h63,k⟩:=h
  rfl
 obtain ⟨a,ns,rfl,hS,h63,k⟩:=h
 refine ⟨_,zAF (zGC PassesOwn.never rfl (zMp rfl B.vAB (zAA (zAG) (zAA (zAL (zG1 rfl) B.vAE rfl zOJ (zAA (zAG) (zAA (zAL (zG2 rfl) B.vAF rfl zNx (zAA (zAL zBR B.vAA rfl zBF (zAA (pv 0) (zAE))) (zAA (zAG) (zAE)))) (zAE)))) (zAA (zAG) (zAE))))) (zAz (i:=1) zHW.nd rfl (Or.inl rfl)) (zAF (zAN (i:=2) zHW.nd rfl (Or.inl rfl) (zAI zD9 hr rfl (zAA (pv 0) (zAA (pv 1) (zAE)))))
  (zAF (zAN (i:=3) zHW.nd rfl (Or.inl rfl) (zAI zOo hr rfl (zAA (pv 2) (zAA (zAI zD9 hr rfl (zAA (pv 0) (zAA (zAR zBA (pv 1) (zAG)) (zAE)))) (zAA (zAI zAM hr rfl (zAA (pv 2) (zAA (zAG) (zAA (zAG) (zAE))))) (zAE))))))
  (zAF (zAN (i:=4) zHW.nd rfl (Or.inl rfl) (zAI zPR hr rfl (zAA (pv 3) (zAE))))
  (zAF (zAN (i:=5) zHW.nd rfl (Or.inl rfl) (zAI zIZ hr rfl (zAA (pv 4) (zAE))))
  (zAF (zAN (i:=6) zHW.nd rfl (Or.inl rfl) (zAR zBA (zAG) (zAR zDL (zAL zBR B.vAA rfl zBF (zAA (pv 5) (zAE))) (zAG))))
  (zAJ (zGC PassesOwn.never rfl (zMp rfl B.vAB (zAA (zAI zAM hr rfl (zAA (zAI zD9 hr rfl (zAA (pv 0) (zAA (zAR zBA (pv 1) (zAG)) (zAE)))) (zAA (zAG) (zAA (pv 6) (zAE))))) (zAA (zAL zBR B.vAA rfl zBF (zAA (pv 5) (zAE))) (zAA (pv 6) (zAE))))) (zAz (i:=7) zHW.nd rfl (Or.inl rfl)) (zAF (zAN (i:=8) zHW.nd rfl (Or.inl rfl) (zAI zD9 hr rfl (zAA (pv 0) (zAA (zAR zBA (zAR zBA (pv 1) (zAG)) (zAR zC0 (zAR zDL (pv 7) (pv 6)) (zAG))) (zAE)))))
  (zAF (zAN (i:=9) zHW.nd rfl (Or.inl rfl) (zAI zOz hr rfl (zAA (zAb zAv (pv 5) (pv 7) (fun _ _=>rfl)) (zAA (pv 8) (zAA (zAR zC0 (zAI zAM hr rfl (zAA (pv 8) (zAA (zAG) (zAA (zAG) (zAE))))) (zAG)) (zAE))))))
  (zAF (zBN (zCT (zBt (zAI zM0 hr rfl (zAA (pv 4) (zAA (pv 3) (zAA (pv 5) (zAA (pv 7) (zAA (pv 9) (zAE))))))))) (zAJ (zAO (zEz))) (zAY))
  (zAJ (zBN (zCT (zBt (zAI zND hr rfl (zAA (pv 4) (zAA (pv 5) (zAA (pv 9) (zAE))))))) (zAJ (zAO (zEz))) (zAY))))))))))))))
  (zAJ (zAO (zEz))),?_⟩
 walk_at "st"
 walk_at "rd"
 rename_i k1 hk1 k0 hk0
 rw [length_map] at hk1
 obtain ⟨n8,l8,b8,_⟩:=zSm (lo:=0) (hi:=k0) (c:=8) (by decide) (by decide) (by omega) (by omega) (by decide) (by decide)
 refine zOX b8 (fun i σ H'=>Same H H' /\ ∃ r1 r2 r3 r4 r5 r6 r7 r8 r9:Option V,σ=[some (.ref a),r1,r2,r3,r4,r5,r6,r7,r8,r9]) ⟨Same.refl _,none,none,none,none,none,none,none,none,none,rfl⟩ ?_ ?_
 ·rintro i σ H1 hlt ⟨gg,r1,r2,r3,r4,r5,r6,r7,r8,r9,rfl⟩
  have hS1:=gg.seq hS
  clear hS
  walk_at "rd"
  rename_i c1 c2 s1 s2 s3
  refine zV0 (by omega) fun p H7 wd f x st d g7 S7=>?_
  walk_at "rd"
  refine zWW S7 fun o H8 g8 F8=>?_
  walk_at "rd"
  refine zKn F8 fun l9 H9 us g9 n9 e9 al9=>?_
  have ln:=al9.len
  obtain ⟨ll,lb⟩:=zOU F8
  have F9:=F8.same g9
  have S9:=(S7.same g8).same g9
  have alT:Al (RL H9 Tr) us (lks wd f x st d):=al9.imp fun _ _ h=>h.wk fun _ _=>trivial
  have hS9:=g9.seq (g8.seq (g7.seq hS1))
  have g09:Same H H9:=gg.trans (g7.trans (g8.trans g9))
  walk_at "rd"
  rename_i cA v0 v1 v2
  have st1:(1:Int)<=1+(us.length:Int) / 8/\1+(us.length:Int) / 8<=200:=by omega
  generalize 1+(us.length:Int) / 8=sp at v2 st1 ⊢
  obtain ⟨nS,lS,bS,bd⟩:=zSm (lo:=v0) (hi:=us.length) (c:=sp) v1 (by omega) (by omega) (by omega) st1.1 (by omega)
  refine zOX bS (fun j σ H'=>Same H9 H' /\ ∃ q1 q2 q3:Option V,σ=[some (.ref a),some (.int (0+(i:Int)*8)),some (.int c1),some (.ref p),some (.ref o),some (.ref l9),some (.int sp),q1,q2,q3]) ⟨Same.refl _,r7,r8,r9,rfl⟩ ?_ ?_
  ·rintro j σ HA hj ⟨gA,q1,q2,q3,rfl⟩
   have hSA:=gA.seq hS9
   have eA:=gA.at e9
   have FA:=F9.same gA
   have SA:=S9.same gA
   have alA:=alT.imp fun _ _ h=>h.same gA
   have b1:=bd j hj
   have b0:0<=v0+(j:Int)*sp:=by have:=mul_nonneg (Int.natCast_nonneg j) (show 0<=sp by omega);omega
   obtain ⟨kk,ek⟩:=eq_ofNat_of_zero_le b0
   rw [ek] at b1 ⊢
   clear b0 ek
   have dv0:0<=(kk:Int) / sp:=Int.ediv_nonneg (by omega) (by omega)
   walk_at "rd"
   refine zE1 (SqL.of eA) (by omega) (by omega) fun y hy=>?_
   rw [toNat_natCast] at hy
   obtain ⟨qa,rfl,ea,ma⟩:=zR1 alA hy
   obtain ⟨nl,bl⟩:=lb _ ma
   walk_at "rd"
   refine zUZ ea bl nl (by omega) (by omega) fun t HB gB ft=>?_
   obtain ⟨at',tl⟩:=zTX F8 (by omega) ft
   have alB:Al (RL HB Tr) us (lks wd f x st d):=alA.imp fun _ _ h=>h.same gB
   walk_at "rd"
   refine zR6 (FA.same gB) (SA.same gB) (gB.at eA) alB (by omega) ft fun HC gC=>?_
   walk_at "rd"
   refine zR7 ((FA.same gB).same gC) (gC.at (gB.at eA)) (alB.imp fun _ _ h=>h.same gC) at' tl fun HD gD=>?_
   walk_at "rd"
   exact ⟨gA.trans (gB.trans (gC.trans gD)),_,_,_,rfl⟩
  ·rintro σ HA ⟨gA,q1,q2,q3,rfl⟩
   exact ⟨g09.trans gA,_,_,_,_,_,_,_,_,_,rfl⟩
 ·rintro σ H1 ⟨gg,r1,r2,r3,r4,r5,r6,r7,r8,r9,rfl⟩
  walk_at "rd"
  exact k _
end
abbrev aH (K:W.Frag) (n:Str) (f:Addr):=W.nsIn K mainGlobals n=some (some (.ref f))
abbrev lH (K:W.Frag) (n q:Str) (z:Stmt) (f:Addr) (a:Value) (b:Option Addr) (c d e:Value) (g:Option Addr) (h i:Value) (j:Array (Option Value)):=K.lookup f=some ⟨a,b,.func (W.fnOf n q (zAy z) (zAi z) (zAH z) .none c d e g h i),j⟩
abbrev cH (K:W.Frag) (c:Value) (n:Str):=W.codeIn K c n=true
abbrev kH (K:W.Frag) (f:Addr):=W.keepIn K (.ref f)=true
theorem l2N {α:Type} {P:List α->Prop} (h:∀ a b,P [a,b]):∀ us:List α,us.length=2->P us:=lenS fun a=>lenS fun b=>len0 (h a b)
theorem l3N {α:Type} {P:List α->Prop} (h:∀ a b c,P [a,b,c]):∀ us:List α,us.length=3->P us:=lenS fun a=>lenS fun b=>lenS fun c=>len0 (h a b c)
theorem l4N {α:Type} {P:List α->Prop} (h:∀ a b c d,P [a,b,c,d]):∀ us:List α,us.length=4->P us:=lenS fun a=>lenS fun b=>lenS fun c=>lenS fun d=>len0 (h a b c d)
theorem l5N {α:Type} {P:List α->Prop} (h:∀ a b c d e,P [a,b,c,d,e]):∀ us:List α,us.length=5->P us:=lenS fun a=>lenS fun b=>lenS fun c=>lenS fun d=>lenS fun e=>len0 (h a b c d e)
theorem l6N {α:Type} {P:List α->Prop} (h:∀ a b c d e f,P [a,b,c,d,e,f]):∀ us:List α,us.length=6->P us:=lenS fun a=>lenS fun b=>lenS fun c=>lenS fun d=>lenS fun e=>lenS fun f=>len0 (h a b c d e f)
theorem all_mk {l:W.OpenLaw} {w:World} {K:W.Frag} {h:Heap} {mg:Str->Option Value} {fa f0 f1 f2 f3 f4 f5 f6 f7 f8 f9 f10 f11 f12 f13 f14 f15 f16 f17 f18 f19 f20 f21 f22 f23 f24 f25 f26 f27 f28 f29 f30 f31 f32 f33 f34 f35 f36 f37 f38 f39 f40 f41 f42 f43 f44 f45 f46 f47 f48 f49 f50 f51 f52 f53 f54 f55 f56 f57 f58 f59 f60 f61 f62 f63 f64 f65 f66 f67 f68 f69 f70 f71 f72 f73:Addr} (X:K.In h) (G:h.Ns mainGlobals mg) (hfa:mg "law" = some (.ref fa))
  {od0 an0 od1 an1 od2 an2 od3 an3 od4 an4 od5 an5 od6 an6 od7 an7 od8 an8 od9 an9 od10 an10 od11 an11 od12 an12 od13 an13 od14 an14 od15 an15 od16 an16 od17 an17 od18 an18 od19 an19 od20 an20 od21 an21 od22 an22 od23 an23 od24 an24 od25 an25 od26 an26 od27 an27 od28 an28 od29 an29 od30 an30 od31 an31 od32 an32 od33 an33 od34 an34 od35 an35 od36 an36 od37 an37 od38 an38 od39 an39 od40 an40 od41 an41 od42 an42 od43 an43 od44 an44 od45 an45 od46 an46 od47 an47 od48 an48 od49 an49 od50 an50 od51 an51 od52 an52 od53 an53 od54 an54 od55 an55 od56 an56 od57 an57 od58 an58 od59 an59 od60 an60 od61 an61 od62 an62 od63 an63 od64 an64 od65 an65 od66 an66 od67 an67 od68 an68 od69 an69 od70 an70 od71 an71 od72 an72 od73 an73:Option Addr} {sl0 sl1 sl2 sl3 sl4 sl5 sl6 sl7 sl8 sl9 sl10 sl11 sl12 sl13 sl14 sl15 sl16 sl17 sl18 sl19 sl20 sl21 sl22 sl23 sl24 sl25 sl26 sl27 sl28 sl29 sl30 sl31 sl32 sl33 sl34 sl35 sl36 sl37 sl38 sl39 sl40 sl41 sl42 sl43 sl44 sl45 sl46 sl47 sl48 sl49 sl50 sl51 sl52 sl53 sl54 sl55 sl56 sl57 sl58 sl59 sl60 sl61 sl62 sl63 sl64 sl65 sl66 sl67 sl68 sl69 sl70 sl71 sl72 sl73:Array (Option Value)} {oc0 kV0 dc0 pm0 cd0 ct0 oc1 kV1 dc1 pm1 cd1 ct1 oc2 kV2 dc2 pm2 cd2 ct2 oc3 kV3 dc3 pm3 cd3 ct3 oc4 kV4 dc4 pm4 cd4 ct4 oc5 kV5 dc5 pm5 cd5 ct5 oc6 kV6 dc6 pm6 cd6 ct6 oc7 kV7 dc7 pm7 cd7 ct7 oc8 kV8 dc8 pm8 cd8 ct8 oc9 kV9 dc9 pm9 cd9 ct9 oc10 kV10 dc10 pm10 cd10 ct10 oc11 kV11 dc11 pm11 cd11 ct11 oc12 kV12 dc12 pm12 cd12 ct12 oc13 kV13 dc13 pm13 cd13 ct13 oc14 kV14 dc14 pm14 cd14 ct14 oc15 kV15 dc15 pm15 cd15 ct15 oc16 kV16 dc16 pm16 cd16 ct16 oc17 kV17 dc17 pm17 cd17 ct17 oc18 kV18 dc18 pm18 cd18 ct18 oc19 kV19 dc19 pm19 cd19 ct19 oc20 kV20 dc20 pm20 cd20 ct20 oc21 kV21 dc21 pm21 cd21 ct21 oc22 kV22 dc22 pm22 cd22 ct22 oc23 kV23 dc23 pm23 cd23 ct23 ocD23 d23v0 d23v1 d23v2 d23v3 oc24 kV24 dc24 pm24 cd24 ct24 ocD24 d24v0 d24v1 d24v2 d24v3 oc25 kV25 dc25 pm25 cd25 ct25 ocD25 d25v0 d25v1 d25v2 d25v3 d25v4 d25v5 d25v6 d25v7 d25v8 d25v9 oc26 kV26 dc26 pm26 cd26 ct26 oc27 kV27 dc27 pm27 cd27 ct27 oc28 kV28 dc28 pm28 cd28 ct28 oc29 kV29 dc29 pm29 cd29 ct29 oc30 kV30 dc30 pm30 cd30 ct30 oc31 kV31 dc31 pm31 cd31 ct31 oc32 kV32 dc32 pm32 cd32 ct32 oc33 kV33 dc33 pm33 cd33 ct33 oc34 kV34 dc34 pm34 cd34 ct34 oc35 kV35 dc35 pm35 cd35 ct35 oc36 kV36 dc36 pm36 cd36 ct36 oc37 kV37 dc37 pm37 cd37 ct37 oc38 kV38 dc38 pm38 cd38 ct38 oc39 kV39 dc39 pm39 cd39 ct39 oc40 kV40 dc40 pm40 cd40 ct40 oc41 kV41 dc41 pm41 cd41 ct41 oc42 kV42 dc42 pm42 cd42 ct42 oc43 kV43 dc43 pm43 cd43 ct43 oc44 kV44 dc44 pm44 cd44 ct44 oc45 kV45 dc45 pm45 cd45 ct45 oc46 kV46 dc46 pm46 cd46 ct46 oc47 kV47 dc47 pm47 cd47 ct47 oc48 kV48 dc48 pm48 cd48 ct48 oc49 kV49 dc49 pm49 cd49 ct49 oc50 kV50 dc50 pm50 cd50 ct50 oc51 kV51 dc51 pm51 cd51 ct51 oc52 kV52 dc52 pm52 cd52 ct52 oc53 kV53 dc53 pm53 cd53 ct53 oc54 kV54 dc54 pm54 cd54 ct54 oc55 kV55 dc55 pm55 cd55 ct55 oc56 kV56 dc56 pm56 cd56 ct56 oc57 kV57 dc57 pm57 cd57 ct57 oc58 kV58 dc58 pm58 cd58 ct58 oc59 kV59 dc59 pm59 cd59 ct59 oc60 kV60 dc60 pm60 cd60 ct60 oc61 kV61 dc61 pm61 cd61 ct61 oc62 kV62 dc62 pm62 cd62 ct62 oc63 kV63 dc63 pm63 cd63 ct63 oc64 kV64 dc64 pm64 cd64 ct64 oc65 kV65 dc65 pm65 cd65 ct65 oc66 kV66 dc66 pm66 cd66 ct66 oc67 kV67 dc67 pm67 cd67 ct67 oc68 kV68 dc68 pm68 cd68 ct68 oc69 kV69 dc69 pm69 cd69 ct69 oc70 kV70 dc70 pm70 cd70 ct70 oc71 kV71 dc71 pm71 cd71 ct71 oc72 kV72 dc72 pm72 cd72 ct72 oc73 kV73 dc73 pm73 cd73 ct73:Value} {tD23:Addr} {odD23:Option Addr} {nD23:Nat} {slD23:Array (Option Value)} {tD24:Addr} {odD24:Option Addr} {nD24:Nat} {slD24:Array (Option Value)} {tD25:Addr} {odD25:Option Addr} {nD25:Nat} {slD25:Array (Option Value)} {zAd zAj zA3 zBB zAu zRT zCc zAB zAD zAC:Addr} {zEc:Tok} {zFi:Addr} {zGd:Tok} {zE2:Tok}
  (a0:aH K "_law_cell_at" f0) (l0:lH K "_law_cell_at" "_law_cell_at" zEA f0 oc0 od0 kV0 dc0 pm0 an0 cd0 ct0 sl0) (c0:cH K cd0 "_law_cell_at") (k0:kH K f0)
  (a1:aH K "_law_pick" f1) (l1:lH K "_law_pick" "_law_pick" zHI f1 oc1 od1 kV1 dc1 pm1 an1 cd1 ct1 sl1) (c1:cH K cd1 "_law_pick") (k1:kH K f1)
  (a2:aH K "pads_of" f2) (l2:lH K "pads_of" "pads_of" zIH f2 oc2 od2 kV2 dc2 pm2 an2 cd2 ct2 sl2) (c2:cH K cd2 "pads_of") (k2:kH K f2)
  (a3:aH K "padded" f3) (l3:lH K "padded" "padded" zJO f3 oc3 od3 kV3 dc3 pm3 an3 cd3 ct3 sl3) (c3:cH K cd3 "padded") (k3:kH K f3)
  (a4:aH K "power_of" f4) (l4:lH K "power_of" "power_of" zHF f4 oc4 od4 kV4 dc4 pm4 an4 cd4 ct4 sl4) (c4:cH K cd4 "power_of") (k4:kH K f4)
  (a5:aH K "goes_up" f5) (l5:lH K "goes_up" "goes_up" zHy f5 oc5 od5 kV5 dc5 pm5 an5 cd5 ct5 sl5) (c5:cH K cd5 "goes_up") (k5:kH K f5)
  (a6:aH K "gridded" f6) (l6:lH K "gridded" "gridded" zH9 f6 oc6 od6 kV6 dc6 pm6 an6 cd6 ct6 sl6) (c6:cH K cd6 "gridded") (k6:kH K f6)
  (a7:aH K "figures_of" f7) (l7:lH K "figures_of" "figures_of" zEt f7 oc7 od7 kV7 dc7 pm7 an7 cd7 ct7 sl7) (c7:cH K cd7 "figures_of") (k7:kH K f7)
  (a8:aH K "parts_of" f8) (l8:lH K "parts_of" "parts_of" zEC f8 oc8 od8 kV8 dc8 pm8 an8 cd8 ct8 sl8) (c8:cH K cd8 "parts_of") (k8:kH K f8)
  (a9:aH K "grouped" f9) (l9:lH K "grouped" "grouped" zIC f9 oc9 od9 kV9 dc9 pm9 an9 cd9 ct9 sl9) (c9:cH K cd9 "grouped") (k9:kH K f9)
  (a10:aH K "body_of" f10) (l10:lH K "body_of" "body_of" zH4 f10 oc10 od10 kV10 dc10 pm10 an10 cd10 ct10 sl10) (c10:cH K cd10 "body_of") (k10:kH K f10)
  (a11:aH K "ends_of" f11) (l11:lH K "ends_of" "ends_of" zH1 f11 oc11 od11 kV11 dc11 pm11 an11 cd11 ct11 sl11) (c11:cH K cd11 "ends_of") (k11:kH K f11)
  (a12:aH K "signed" f12) (l12:lH K "signed" "signed" zJP f12 oc12 od12 kV12 dc12 pm12 an12 cd12 ct12 sl12) (c12:cH K cd12 "signed") (k12:kH K f12)
  (a13:aH K "stands_between_figures" f13) (l13:lH K "stands_between_figures" "stands_between_figures" zBd f13 oc13 od13 kV13 dc13 pm13 an13 cd13 ct13 sl13) (c13:cH K cd13 "stands_between_figures") (k13:kH K f13)
  (a14:aH K "unsigned" f14) (l14:lH K "unsigned" "unsigned" zG3 f14 oc14 od14 kV14 dc14 pm14 an14 cd14 ct14 sl14) (c14:cH K cd14 "unsigned") (k14:kH K f14)
  (a15:aH K "is_whole" f15) (l15:lH K "is_whole" "is_whole" zHG f15 oc15 od15 kV15 dc15 pm15 an15 cd15 ct15 sl15) (c15:cH K cd15 "is_whole") (k15:kH K f15)
  (a16:aH K "common_divisor" f16) (l16:lH K "common_divisor" "common_divisor" zCw f16 oc16 od16 kV16 dc16 pm16 an16 cd16 ct16 sl16) (c16:cH K cd16 "common_divisor") (k16:kH K f16)
  (a17:aH K "is_fraction" f17) (l17:lH K "is_fraction" "is_fraction" zEB f17 oc17 od17 kV17 dc17 pm17 an17 cd17 ct17 sl17) (c17:cH K cd17 "is_fraction") (k17:kH K f17)
  (a18:aH K "ungrouped" f18) (l18:lH K "ungrouped" "ungrouped" zFr f18 oc18 od18 kV18 dc18 pm18 an18 cd18 ct18 sl18) (c18:cH K cd18 "ungrouped") (k18:kH K f18)
  (a19:aH K "number_of" f19) (l19:lH K "number_of" "number_of" zFd f19 oc19 od19 kV19 dc19 pm19 an19 cd19 ct19 sl19) (c19:cH K cd19 "number_of") (k19:kH K f19)
  (a20:aH K "whole_end" f20) (l20:lH K "whole_end" "whole_end" zF5 f20 oc20 od20 kV20 dc20 pm20 an20 cd20 ct20 sl20) (c20:cH K cd20 "whole_end") (k20:kH K f20)
  (a21:aH K "number_in" f21) (l21:lH K "number_in" "number_in" zFy f21 oc21 od21 kV21 dc21 pm21 an21 cd21 ct21 sl21) (c21:cH K cd21 "number_in") (k21:kH K f21)
  (a22:W.findIn K (.ref zCc) "__init__" = some (some (.ref f22))) (l22:lH K "__init__" "Form.__init__" zBp f22 oc22 od22 kV22 dc22 pm22 an22 cd22 ct22 sl22) (c22:cH K cd22 "Form.__init__") (k22:kH K f22)
  (a23:W.findIn K (.ref zAD) "__init__" = some (some (.ref f23))) (l23:K.lookup f23=some ⟨oc23,od23,.func (W.fnOf "__init__" "WordForm.__init__" (zAy zAq) (zAi zAq) (zAH zAq) (.ref tD23) kV23 dc23 pm23 an23 cd23 ct23),sl23⟩) (c23:cH K cd23 "WordForm.__init__") (k23:kH K f23)
  (a24:W.findIn K (.ref zAC) "__init__" = some (some (.ref f24))) (l24:K.lookup f24=some ⟨oc24,od24,.func (W.fnOf "__init__" "ChoiceForm.__init__" (zAy zAf) (zAi zAf) (zAH zAf) (.ref tD24) kV24 dc24 pm24 an24 cd24 ct24),sl24⟩) (c24:cH K cd24 "ChoiceForm.__init__") (k24:kH K f24)
  (a25:W.findIn K (.ref zAB) "__init__" = some (some (.ref f25))) (l25:K.lookup f25=some ⟨oc25,od25,.func (W.fnOf "__init__" "NumberForm.__init__" (zAy zAe) (zAi zAe) (zAH zAe) (.ref tD25) kV25 dc25 pm25 an25 cd25 ct25),sl25⟩) (c25:cH K cd25 "NumberForm.__init__") (k25:kH K f25)
  (a26:W.findIn K (.ref zAB) "is_too_great" = some (some (.ref f26))) (l26:lH K "is_too_great" "NumberForm.is_too_great" zAh f26 oc26 od26 kV26 dc26 pm26 an26 cd26 ct26 sl26) (c26:cH K cd26 "NumberForm.is_too_great") (k26:kH K f26)
  (a27:W.findIn K (.ref zAB) "core" = some (some (.ref f27))) (l27:lH K "core" "NumberForm.core" zBS f27 oc27 od27 kV27 dc27 pm27 an27 cd27 ct27 sl27) (c27:cH K cd27 "NumberForm.core") (k27:kH K f27)
  (a28:W.findIn K (.ref zCc) "is_too_wide" = some (some (.ref f28))) (l28:lH K "is_too_wide" "Form.is_too_wide" zA0 f28 oc28 od28 kV28 dc28 pm28 an28 cd28 ct28 sl28) (c28:cH K cd28 "Form.is_too_wide") (k28:kH K f28)
  (a29:aH K "padded_inside" f29) (l29:lH K "padded_inside" "padded_inside" zDE f29 oc29 od29 kV29 dc29 pm29 an29 cd29 ct29 sl29) (c29:cH K cd29 "padded_inside") (k29:kH K f29)
  (a30:W.findIn K (.ref zAB) "lead_of" = some (some (.ref f30))) (l30:lH K "lead_of" "NumberForm.lead_of" zA8 f30 oc30 od30 kV30 dc30 pm30 an30 cd30 ct30 sl30) (c30:cH K cd30 "NumberForm.lead_of") (k30:kH K f30)
  (a31:W.findIn K (.ref zCc) "filled" = some (some (.ref f31))) (l31:lH K "filled" "Form.filled" zCF f31 oc31 od31 kV31 dc31 pm31 an31 cd31 ct31 sl31) (c31:cH K cd31 "Form.filled") (k31:kH K f31)
  (a32:W.findIn K (.ref zAD) "is_word" = some (some (.ref f32))) (l32:lH K "is_word" "WordForm.is_word" zBJ f32 oc32 od32 kV32 dc32 pm32 an32 cd32 ct32 sl32) (c32:cH K cd32 "WordForm.is_word") (k32:kH K f32)
  (a33:W.findIn K (.ref zAD) "core" = some (some (.ref f33))) (l33:lH K "core" "WordForm.core" zBn f33 oc33 od33 kV33 dc33 pm33 an33 cd33 ct33 sl33) (c33:cH K cd33 "WordForm.core") (k33:kH K f33)
  (a34:W.findIn K (.ref zAC) "core" = some (some (.ref f34))) (l34:lH K "core" "ChoiceForm.core" zBT f34 oc34 od34 kV34 dc34 pm34 an34 cd34 ct34 sl34) (c34:cH K cd34 "ChoiceForm.core") (k34:kH K f34)
  (a35:W.findIn K (.ref zCc) "put" = some (some (.ref f35))) (l35:lH K "put" "Form.put" zDU f35 oc35 od35 kV35 dc35 pm35 an35 cd35 ct35 sl35) (c35:cH K cd35 "Form.put") (k35:kH K f35)
  (a36:aH K "stripped" f36) (l36:lH K "stripped" "stripped" zHB f36 oc36 od36 kV36 dc36 pm36 an36 cd36 ct36 sl36) (c36:cH K cd36 "stripped") (k36:kH K f36)
  (a37:W.findIn K (.ref zCc) "unfilled" = some (some (.ref f37))) (l37:lH K "unfilled" "Form.unfilled" zBo f37 oc37 od37 kV37 dc37 pm37 an37 cd37 ct37 sl37) (c37:cH K cd37 "Form.unfilled") (k37:kH K f37)
  (a38:aH K "fraction" f38) (l38:lH K "fraction" "fraction" zGx f38 oc38 od38 kV38 dc38 pm38 an38 cd38 ct38 sl38) (c38:cH K cd38 "fraction") (k38:kH K f38)
  (a39:aH K "grid_value" f39) (l39:lH K "grid_value" "grid_value" zEl f39 oc39 od39 kV39 dc39 pm39 an39 cd39 ct39 sl39) (c39:cH K cd39 "grid_value") (k39:kH K f39)
  (a40:W.findIn K (.ref zAB) "number_with" = some (some (.ref f40))) (l40:lH K "number_with" "NumberForm.number_with" zAk f40 oc40 od40 kV40 dc40 pm40 an40 cd40 ct40 sl40) (c40:cH K cd40 "NumberForm.number_with") (k40:kH K f40)
  (a41:aH K "stripped_inside" f41) (l41:lH K "stripped_inside" "stripped_inside" zCa f41 oc41 od41 kV41 dc41 pm41 an41 cd41 ct41 sl41) (c41:cH K cd41 "stripped_inside") (k41:kH K f41)
  (a42:W.findIn K (.ref zAB) "cores_in" = some (some (.ref f42))) (l42:lH K "cores_in" "NumberForm.cores_in" zA4 f42 oc42 od42 kV42 dc42 pm42 an42 cd42 ct42 sl42) (c42:cH K cd42 "NumberForm.cores_in") (k42:kH K f42)
  (a43:W.findIn K (.ref zAB) "numbers_in" = some (some (.ref f43))) (l43:lH K "numbers_in" "NumberForm.numbers_in" zAs f43 oc43 od43 kV43 dc43 pm43 an43 cd43 ct43 sl43) (c43:cH K cd43 "NumberForm.numbers_in") (k43:kH K f43)
  (a44:W.findIn K (.ref zAB) "values_for" = some (some (.ref f44))) (l44:lH K "values_for" "NumberForm.values_for" zAt f44 oc44 od44 kV44 dc44 pm44 an44 cd44 ct44 sl44) (c44:cH K cd44 "NumberForm.values_for") (k44:kH K f44)
  (a45:W.findIn K (.ref zAC) "values_for" = some (some (.ref f45))) (l45:lH K "values_for" "ChoiceForm.values_for" zAr f45 oc45 od45 kV45 dc45 pm45 an45 cd45 ct45 sl45) (c45:cH K cd45 "ChoiceForm.values_for") (k45:kH K f45)
  (a46:W.findIn K (.ref zAD) "values_for" = some (some (.ref f46))) (l46:lH K "values_for" "WordForm.values_for" zA5 f46 oc46 od46 kV46 dc46 pm46 an46 cd46 ct46 sl46) (c46:cH K cd46 "WordForm.values_for") (k46:kH K f46)
  (a47:aH K "grouped_cells" f47) (l47:lH K "grouped_cells" "grouped_cells" zDI f47 oc47 od47 kV47 dc47 pm47 an47 cd47 ct47 sl47) (c47:cH K cd47 "grouped_cells") (k47:kH K f47)
  (a48:aH K "body_cells" f48) (l48:lH K "body_cells" "body_cells" zEu f48 oc48 od48 kV48 dc48 pm48 an48 cd48 ct48 sl48) (c48:cH K cd48 "body_cells") (k48:kH K f48)
  (a49:aH K "signed_cells" f49) (l49:lH K "signed_cells" "signed_cells" zDf f49 oc49 od49 kV49 dc49 pm49 an49 cd49 ct49 sl49) (c49:cH K cd49 "signed_cells") (k49:kH K f49)
  (a50:aH K "rows_from_nought" f50) (l50:lH K "rows_from_nought" "rows_from_nought" zCP f50 oc50 od50 kV50 dc50 pm50 an50 cd50 ct50 sl50) (c50:cH K cd50 "rows_from_nought") (k50:kH K f50)
  (a51:aH K "rows_below_nought" f51) (l51:lH K "rows_below_nought" "rows_below_nought" zCE f51 oc51 od51 kV51 dc51 pm51 an51 cd51 ct51 sl51) (c51:cH K cd51 "rows_below_nought") (k51:kH K f51)
  (a52:aH K "number_cores" f52) (l52:lH K "number_cores" "number_cores" zDj f52 oc52 od52 kV52 dc52 pm52 an52 cd52 ct52 sl52) (c52:cH K cd52 "number_cores") (k52:kH K f52)
  (a53:aH K "filled_look" f53) (l53:lH K "filled_look" "filled_look" zD4 f53 oc53 od53 kV53 dc53 pm53 an53 cd53 ct53 sl53) (c53:cH K cd53 "filled_look") (k53:kH K f53)
  (a54:aH K "core_looks" f54) (l54:lH K "core_looks" "core_looks" zEp f54 oc54 od54 kV54 dc54 pm54 an54 cd54 ct54 sl54) (c54:cH K cd54 "core_looks") (k54:kH K f54)
  (a55:aH K "looks_of" f55) (l55:lH K "looks_of" "looks_of" zHD f55 oc55 od55 kV55 dc55 pm55 an55 cd55 ct55 sl55) (c55:cH K cd55 "looks_of") (k55:kH K f55)
  (a56:aH K "fits" f56) (l56:lH K "fits" "fits" zOA f56 oc56 od56 kV56 dc56 pm56 an56 cd56 ct56 sl56) (c56:cH K cd56 "fits") (k56:kH K f56)
  (a57:aH K "look_for" f57) (l57:lH K "look_for" "look_for" zGu f57 oc57 od57 kV57 dc57 pm57 an57 cd57 ct57 sl57) (c57:cH K cd57 "look_for") (k57:kH K f57)
  (a58:aH K "value_in" f58) (l58:lH K "value_in" "value_in" zG4 f58 oc58 od58 kV58 dc58 pm58 an58 cd58 ct58 sl58) (c58:cH K cd58 "value_in") (k58:kH K f58)
  (a59:aH K "_law_signs" f59) (l59:lH K "_law_signs" "_law_signs" zF6 f59 oc59 od59 kV59 dc59 pm59 an59 cd59 ct59 sl59) (c59:cH K cd59 "_law_signs") (k59:kH K f59)
  (a60:aH K "_law_sign" f60) (l60:lH K "_law_sign" "_law_sign" zGv f60 oc60 od60 kV60 dc60 pm60 an60 cd60 ct60 sl60) (c60:cH K cd60 "_law_sign") (k60:kH K f60)
  (a61:aH K "_law_number_spec" f61) (l61:lH K "_law_number_spec" "_law_number_spec" zCY f61 oc61 od61 kV61 dc61 pm61 an61 cd61 ct61 sl61) (c61:cH K cd61 "_law_number_spec") (k61:kH K f61)
  (a62:aH K "_law_number_form" f62) (l62:lH K "_law_number_form" "_law_number_form" zCZ f62 oc62 od62 kV62 dc62 pm62 an62 cd62 ct62 sl62) (c62:cH K cd62 "_law_number_form") (k62:kH K f62)
  (a63:aH K "_law_word_spec" f63) (l63:lH K "_law_word_spec" "_law_word_spec" zDG f63 oc63 od63 kV63 dc63 pm63 an63 cd63 ct63 sl63) (c63:cH K cd63 "_law_word_spec") (k63:kH K f63)
  (a64:aH K "_law_names" f64) (l64:lH K "_law_names" "_law_names" zFc f64 oc64 od64 kV64 dc64 pm64 an64 cd64 ct64 sl64) (c64:cH K cd64 "_law_names") (k64:kH K f64)
  (a65:aH K "_law_choice_spec" f65) (l65:lH K "_law_choice_spec" "_law_choice_spec" zCX f65 oc65 od65 kV65 dc65 pm65 an65 cd65 ct65 sl65) (c65:cH K cd65 "_law_choice_spec") (k65:kH K f65)
  (a66:aH K "_law_form" f66) (l66:lH K "_law_form" "_law_form" zHC f66 oc66 od66 kV66 dc66 pm66 an66 cd66 ct66 sl66) (c66:cH K cd66 "_law_form") (k66:kH K f66)
  (a67:aH K "_law_spec" f67) (l67:lH K "_law_spec" "_law_spec" zGz f67 oc67 od67 kV67 dc67 pm67 an67 cd67 ct67 sl67) (c67:cH K cd67 "_law_spec") (k67:kH K f67)
  (a68:aH K "_law_text" f68) (l68:lH K "_law_text" "_law_text" zG8 f68 oc68 od68 kV68 dc68 pm68 an68 cd68 ct68 sl68) (c68:cH K cd68 "_law_text") (k68:kH K f68)
  (a69:aH K "_law_whole" f69) (l69:lH K "_law_whole" "_law_whole" zFo f69 oc69 od69 kV69 dc69 pm69 an69 cd69 ct69 sl69) (c69:cH K cd69 "_law_whole") (k69:kH K f69)
  (a70:aH K "_law_is_value" f70) (l70:lH K "_law_is_value" "_law_is_value" zDl f70 oc70 od70 kV70 dc70 pm70 an70 cd70 ct70 sl70) (c70:cH K cd70 "_law_is_value") (k70:kH K f70)
  (a71:aH K "_law_right" f71) (l71:lH K "_law_right" "_law_right" zFu f71 oc71 od71 kV71 dc71 pm71 an71 cd71 ct71 sl71) (c71:cH K cd71 "_law_right") (k71:kH K f71)
  (a72:aH K "_law_apart" f72) (l72:lH K "_law_apart" "_law_apart" zFj f72 oc72 od72 kV72 dc72 pm72 an72 cd72 ct72 sl72) (c72:cH K cd72 "_law_apart") (k72:kH K f72)
  (a73:aH K "law" f73) (l73:lH K "law" "law" zNA f73 oc73 od73 kV73 dc73 pm73 an73 cd73 ct73 sl73) (c73:cH K cd73 "law") (k73:kH K f73)
  (vAA:W.nsIn K mainGlobals "len" = some none) (vAB:W.nsIn K mainGlobals "range" = some none) (vAC:W.nsIn K mainGlobals "isinstance" = some none) (vAD:W.nsIn K mainGlobals "str" = some none) (vAE:W.nsIn K mainGlobals "max" = some none) (vAF:W.nsIn K mainGlobals "min" = some none) (vAG:W.nsIn K mainGlobals "int" = some none) (vAH:W.nsIn K mainGlobals "bool" = some none) (vAI:W.nsIn K mainGlobals "abs" = some none) (vAJ:W.nsIn K mainGlobals "list" = some none) (vAK:W.nsIn K mainGlobals "tuple" = some none) (vAL:W.nsIn K mainGlobals "all" = some none) (vAM:W.nsIn K mainGlobals "sorted" = some none) (vAN:W.nsIn K mainGlobals "FIGURES" = some (some (.str "0123456789abcdef" zEc))) (vAO:aH K "STYLES" zFi) (vAP:W.nsIn K mainGlobals "MOST_SIGNS" = some (some (.int 40 zGd))) (vAQ:W.nsIn K mainGlobals "MOST_FIGURES" = some (some (.int 240 zE2))) (vAR:aH K "NoFigures" zAd) (vAS:aH K "NoGroups" zAj) (vAT:aH K "NoBody" zA3) (vAU:aH K "NoCore" zBB) (vAV:aH K "TooWide" zAu) (vAW:aH K "NoText" zRT) (vAX:aH K "Form" zCc) (vAY:aH K "NumberForm" zAB) (vAZ:aH K "WordForm" zAD) (vAa:aH K "ChoiceForm" zAC) (vAb:W.excIn K zAd VEB "ValueError.__new__" = true) (vAc:W.findIn K (.ref zAd) "__getattribute__" = some (some (.builtin "BaseException.__getattribute__"))) (vAd:W.findIn K (.ref zAd) "__getattr__" = some none) (vAe:W.mroIn K zAd (.type "BaseException")=some true) (vAf:W.hasDictIn K zAd=true) (vAg:W.findIn K (.ref zAd) "__class__" = some (some (.builtin "object.__class__"))) (vAh:W.specialIn K (.builtin "object.__class__") "__get__" = some (some (.builtin "getset_descriptor.__get__"))) (vAi:W.takesIn K (.builtin "object.__class__")=some true) (vAj:W.mroIn K zAd (.type "object")=some true) (vAk:W.excIn K zAj VEB "ValueError.__new__" = true) (vAl:W.findIn K (.ref zAj) "__getattribute__" = some (some (.builtin "BaseException.__getattribute__"))) (vAm:W.findIn K (.ref zAj) "__getattr__" = some none) (vAn:W.mroIn K zAj (.type "BaseException")=some true) (vAo:W.hasDictIn K zAj=true) (vAp:W.findIn K (.ref zAj) "__class__" = some (some (.builtin "object.__class__"))) (vAq:W.specialIn K (.builtin "object.__class__") "__get__" = some (some (.builtin "getset_descriptor.__get__"))) (vAr:W.takesIn K (.builtin "object.__class__")=some true) (vAs:W.mroIn K zAj (.type "object")=some true) (vAt:W.excIn K zA3 VEB "ValueError.__new__" = true) (vAu:W.findIn K (.ref zA3) "__getattribute__" = some (some (.builtin "BaseException.__getattribute__"))) (vAv:W.findIn K (.ref zA3) "__getattr__" = some none) (vAw:W.mroIn K zA3 (.type "BaseException")=some true) (vAx:W.hasDictIn K zA3=true) (vAy:W.findIn K (.ref zA3) "__class__" = some (some (.builtin "object.__class__"))) (vAz:W.specialIn K (.builtin "object.__class__") "__get__" = some (some (.builtin "getset_descriptor.__get__"))) (vA0:W.takesIn K (.builtin "object.__class__")=some true) (vA1:W.mroIn K zA3 (.type "object")=some true) (vA2:W.excIn K zBB VEB "ValueError.__new__" = true) (vA3:W.findIn K (.ref zBB) "__getattribute__" = some (some (.builtin "BaseException.__getattribute__"))) (vA4:W.findIn K (.ref zBB) "__getattr__" = some none) (vA5:W.mroIn K zBB (.type "BaseException")=some true) (vA6:W.hasDictIn K zBB=true) (vA7:W.findIn K (.ref zBB) "__class__" = some (some (.builtin "object.__class__"))) (vA8:W.specialIn K (.builtin "object.__class__") "__get__" = some (some (.builtin "getset_descriptor.__get__"))) (vA9:W.takesIn K (.builtin "object.__class__")=some true) (vBA:W.mroIn K zBB (.type "object")=some true) (vBB:W.excIn K zAu VEB "ValueError.__new__" = true) (vBC:W.findIn K (.ref zAu) "__getattribute__" = some (some (.builtin "BaseException.__getattribute__"))) (vBD:W.findIn K (.ref zAu) "__getattr__" = some none) (vBE:W.mroIn K zAu (.type "BaseException")=some true) (vBF:W.hasDictIn K zAu=true) (vBG:W.findIn K (.ref zAu) "__class__" = some (some (.builtin "object.__class__"))) (vBH:W.specialIn K (.builtin "object.__class__") "__get__" = some (some (.builtin "getset_descriptor.__get__"))) (vBI:W.takesIn K (.builtin "object.__class__")=some true) (vBJ:W.mroIn K zAu (.type "object")=some true) (sty:Sty w K zFi) (xg:W.exmAny K (.ref zAj) [.ref zAj,.ref zAd]=some true) (xf:W.exmAny K (.ref zAd) [.ref zAj,.ref zAd]=some true) (xc:W.exmAny K (.ref zBB) [.ref zBB,.ref zA3]=some true) (xb:W.exmAny K (.ref zA3) [.ref zBB,.ref zA3]=some true) (ihn:W.specialIn K (.builtin "object.__class__") "__get__" = some (some (.builtin "getset_descriptor.__get__"))) (iht:W.takesIn K (.builtin "object.__class__")=some true) (nha:W.findIn K (.ref zAB) "__class__" = some (some (.builtin "object.__class__"))) (nhm:W.mroIn K zAB (.type "object")=some true) (nk1:W.kitOne K (.ref zAB) (.ref zAB)=some true) (nk2:W.kitOne K (.ref zAB) (.ref zAD)=some false) (wha:W.findIn K (.ref zAD) "__class__" = some (some (.builtin "object.__class__"))) (whm:W.mroIn K zAD (.type "object")=some true) (wk1:W.kitOne K (.ref zAD) (.ref zAB)=some false) (wk2:W.kitOne K (.ref zAD) (.ref zAD)=some true) (cha:W.findIn K (.ref zAC) "__class__" = some (some (.builtin "object.__class__"))) (chm:W.mroIn K zAC (.type "object")=some true) (ck1:W.kitOne K (.ref zAC) (.ref zAB)=some false) (ck2:W.kitOne K (.ref zAC) (.ref zAD)=some false) (vBK:W.plainGet K zAB Str.empty=true) (vBL:W.hasDictIn K zAB=true) (vBM:W.plainOver K zAB=true) (vBN:W.findIn K (.ref zAB) "__setattr__" = some (some (.builtin "object.__setattr__"))) (vBO:W.findIn K (.ref zAB) "width" = some none) (vBP:W.findIn K (.ref zAB) "fill" = some none) (vBQ:W.findIn K (.ref zAB) "side" = some none) (vBR:W.findIn K (.ref zAB) "strict" = some none) (vBS:W.findIn K (.ref zAB) "figures" = some none) (vBT:W.findIn K (.ref zAB) "places" = some none) (vBU:W.findIn K (.ref zAB) "base" = some none) (vBV:W.findIn K (.ref zAB) "sign" = some none) (vBW:W.findIn K (.ref zAB) "size" = some none) (vBX:W.findIn K (.ref zAB) "mark" = some none) (vBY:W.findIn K (.ref zAB) "point" = some none) (vBZ:W.findIn K (.ref zAB) "way" = some none) (vBa:W.plainGet K zAD Str.empty=true) (vBb:W.hasDictIn K zAD=true) (vBc:W.plainOver K zAD=true) (vBd:W.findIn K (.ref zAD) "__setattr__" = some (some (.builtin "object.__setattr__"))) (vBe:W.findIn K (.ref zAD) "width" = some none) (vBf:W.findIn K (.ref zAD) "fill" = some none) (vBg:W.findIn K (.ref zAD) "side" = some none) (vBh:W.findIn K (.ref zAD) "strict" = some none) (vBi:W.findIn K (.ref zAD) "signs" = some none) (vBj:W.findIn K (.ref zAD) "least" = some none) (vBk:W.findIn K (.ref zAD) "most" = some none) (vBl:W.plainGet K zAC Str.empty=true) (vBm:W.hasDictIn K zAC=true) (vBn:W.plainOver K zAC=true) (vBo:W.findIn K (.ref zAC) "__setattr__" = some (some (.builtin "object.__setattr__"))) (vBp:W.findIn K (.ref zAC) "width" = some none) (vBq:W.findIn K (.ref zAC) "fill" = some none) (vBr:W.findIn K (.ref zAC) "side" = some none) (vBs:W.findIn K (.ref zAC) "strict" = some none) (vBt:W.findIn K (.ref zAC) "names" = some none) (vBu:W.specialIn K (.ref zCc) "__getattribute__" = some (some (.builtin "type.__getattribute__"))) (vBv:W.readsIn K zCc (.type "type")=true) (vBw:W.findCls K (.ref zCc) (.type "type") "__init__" = some (.val (.ref f22))) (vBx:W.isFn K (.ref f26)=true) (vBy:W.findIn K (.ref zAB) "is_too_great" = some (some (.ref f26))) (vBz:W.isFn K (.ref f30)=true) (vB0:W.findIn K (.ref zAB) "lead_of" = some (some (.ref f30))) (vB1:W.isFn K (.ref f32)=true) (vB2:W.findIn K (.ref zAD) "is_word" = some (some (.ref f32))) (vB3:W.isFn K (.ref f27)=true) (vB4:W.findIn K (.ref zAB) "core" = some (some (.ref f27))) (vB5:W.isFn K (.ref f33)=true) (vB6:W.findIn K (.ref zAD) "core" = some (some (.ref f33))) (vB7:W.isFn K (.ref f34)=true) (vB8:W.findIn K (.ref zAC) "core" = some (some (.ref f34))) (vB9:W.isFn K (.ref f28)=true) (vCA:W.findIn K (.ref zAB) "is_too_wide" = some (some (.ref f28))) (vCB:W.findIn K (.ref zAD) "is_too_wide" = some (some (.ref f28))) (vCC:W.findIn K (.ref zAC) "is_too_wide" = some (some (.ref f28))) (vCD:W.isFn K (.ref f31)=true) (vCE:W.findIn K (.ref zAB) "filled" = some (some (.ref f31))) (vCF:W.findIn K (.ref zAD) "filled" = some (some (.ref f31))) (vCG:W.findIn K (.ref zAC) "filled" = some (some (.ref f31))) (vCH:W.isFn K (.ref f37)=true) (vCI:W.findIn K (.ref zAB) "unfilled" = some (some (.ref f37))) (vCJ:W.isFn K (.ref f40)=true) (vCK:W.findIn K (.ref zAB) "number_with" = some (some (.ref f40))) (vCL:W.isFn K (.ref f42)=true) (vCM:W.findIn K (.ref zAB) "cores_in" = some (some (.ref f42))) (vCN:W.isFn K (.ref f43)=true) (vCO:W.findIn K (.ref zAB) "numbers_in" = some (some (.ref f43))) (vCP:W.findIn K (.ref zAC) "unfilled" = some (some (.ref f37))) (vCQ:W.findIn K (.ref zAD) "unfilled" = some (some (.ref f37))) (vCR:W.isFn K (.ref f35)=true) (vCS:W.findIn K (.ref zAB) "put" = some (some (.ref f35))) (vCT:W.findIn K (.ref zAD) "put" = some (some (.ref f35))) (vCU:W.findIn K (.ref zAC) "put" = some (some (.ref f35))) (vCV:W.isFn K (.ref f44)=true) (vCW:W.findIn K (.ref zAB) "values_for" = some (some (.ref f44))) (vCX:W.isFn K (.ref f46)=true) (vCY:W.findIn K (.ref zAD) "values_for" = some (some (.ref f46))) (vCZ:W.isFn K (.ref f45)=true) (vCa:W.findIn K (.ref zAC) "values_for" = some (some (.ref f45))) (vCb:W.isFn K (.ref f25)=true) (vCc:W.makesIn K zAB=true) (vCd:W.findIn K (.ref zAB) "__init__" = some (some (.ref f25))) (vCe:kH K zAB) (vCf:W.isFn K (.ref f24)=true) (vCg:W.makesIn K zAC=true) (vCh:W.findIn K (.ref zAC) "__init__" = some (some (.ref f24))) (vCi:kH K zAC) (vCj:W.isFn K (.ref f23)=true) (vCk:W.makesIn K zAD=true) (vCl:W.findIn K (.ref zAD) "__init__" = some (some (.ref f23))) (vCm:kH K zAD) (vCn:K.lookup tD23=some ⟨ocD23,odD23,.seq #[d23v0,d23v1,d23v2,d23v3] nD23,slD23⟩) (vCo:K.lookup tD24=some ⟨ocD24,odD24,.seq #[d24v0,d24v1,d24v2,d24v3] nD24,slD24⟩) (vCp:K.lookup tD25=some ⟨ocD25,odD25,.seq #[d25v0,d25v1,d25v2,d25v3,d25v4,d25v5,d25v6,d25v7,d25v8,d25v9] nD25,slD25⟩) :
  ∃ fd:FuncData,(∀ (s:Shared) (v:Value),BindsTo s fd ⟨[v],[]⟩ [("_law_script", v)]) /\ ∀ base:Heap,K.In base->base.Ns mainGlobals mg->FnOk l.prog w K mg base CX0 10 fa fd ["_law_script"] (zNy K):=by
 have e:=hfa.symm.trans (W.mg_of X G a73)
 cases e
 have B:Blt mg:=⟨W.mg_none_of X G vAA,W.mg_none_of X G vAB,W.mg_none_of X G vAC,W.mg_none_of X G vAD,W.mg_none_of X G vAE,W.mg_none_of X G vAF,W.mg_none_of X G vAG,W.mg_none_of X G vAH,W.mg_none_of X G vAI,W.mg_none_of X G vAJ,W.mg_none_of X G vAK,W.mg_none_of X G vAL,W.mg_none_of X G vAM⟩
 refine ⟨W.fnOf "law" "law" (zAy zNA) (zAi zNA) (zAH zNA) .none kV73 dc73 pm73 an73 cd73 ct73,fun s v=>.of_eq rfl,fun base _ _=>?_⟩
 have zBa:=W.mg_of X G vAN
 have zJS:=W.mg_of X G vAO
 have zGS:=W.mg_of X G vAP
 have zEy:=W.mg_of X G vAQ
 have zCz:=W.mg_of X G vAR
 have zEG:=W.mg_of X G vAS
 have zDd:=W.mg_of X G vAT
 have zG5:=W.mg_of X G vAU
 have zJ2:=W.mg_of X G vAV
 have zXX:=W.mg_of X G vAW
 have zIE:=W.mg_of X G vAX
 have zC3:=W.mg_of X G vAY
 have zED:=W.mg_of X G vAZ
 have zGa:=W.mg_of X G vAa
 have zF0:Exc K zAd:=⟨vAb,vAc,vAd,vAe,vAf,vAg,vAh,vAi,vAj⟩
 have zIW:Exc K zAj:=⟨vAk,vAl,vAm,vAn,vAo,vAp,vAq,vAr,vAs⟩
 have zF4:Exc K zA3:=⟨vAt,vAu,vAv,vAw,vAx,vAy,vAz,vA0,vA1⟩
 have zLh:Exc K zBB:=⟨vA2,vA3,vA4,vA5,vA6,vA7,vA8,vA9,vBA⟩
 have zJb:Exc K zAu:=⟨vBB,vBC,vBD,vBE,vBF,vBG,vBH,vBI,vBJ⟩
 have zAK:Cls K zAB:=⟨vBK,vBL,vBM,vBN⟩
 have zID:zCd K zAB ["width", "fill", "side", "strict", "figures", "places", "base", "sign", "size", "mark", "point", "way"]:=⟨vBO,vBP,vBQ,vBR,vBS,vBT,vBU,vBV,vBW,vBX,vBY,vBZ,trivial⟩
 have zAS:Cls K zAD:=⟨vBa,vBb,vBc,vBd⟩
 have zJ6:zCd K zAD ["width", "fill", "side", "strict", "signs", "least", "most"]:=⟨vBe,vBf,vBg,vBh,vBi,vBj,vBk,trivial⟩
 have zAQ:Cls K zAC:=⟨vBl,vBm,vBn,vBo⟩
 have zH3:zCd K zAC ["width", "fill", "side", "strict", "names"]:=⟨vBp,vBq,vBr,vBs,vBt,trivial⟩
 have F0:=zAn (st:=zEA) l0 c0 k0
 have zLT:Has l.prog w K mg base "_law_cell_at" 1 ["_law_script", "_law_k"] (zDg K):=⟨_,_,zKg  F0 B   , W.mg_of X G a0,k0,F0.binds fun _ _ _ _ _ _=>l2N fun _ _=>rfl⟩
 have F1:=zAn (st:=zHI) l1 c1 k1
 have zC2:Has l.prog w K mg base "_law_pick" 1 ["_law_cell", "_law_salt", "_law_many"] (zBg K):=⟨_,_,zNf  F1 B   , W.mg_of X G a1,k1,F1.binds fun _ _ _ _ _ _=>l3N fun _ _ _=>rfl⟩
 have F2:=zAn (st:=zIH) l2 c2 k2
 have zJ5:Has l.prog w K mg base "pads_of" 1 ["length", "width", "side"] (zEE K):=⟨_,_,zOx  F2 B   , W.mg_of X G a2,k2,F2.binds fun _ _ _ _ _ _=>l3N fun _ _ _=>rfl⟩
 have F3:=zAn (st:=zJO) l3 c3 k3
 have zLR:Has l.prog w K mg base "padded" 2 ["text", "width", "fill", "side"] (zFO K):=⟨_,_,zQ7  F3 B zJ5  , W.mg_of X G a3,k3,F3.binds fun _ _ _ _ _ _=>l4N fun _ _ _ _=>rfl⟩
 have F4:=zAn (st:=zHF) l4 c4 k4
 have zIi:Has l.prog w K mg base "power_of" 1 ["base", "times"] (zDc K):=⟨_,_,zNk  F4 B   , W.mg_of X G a4,k4,F4.binds fun _ _ _ _ _ _=>l2N fun _ _=>rfl⟩
 have F5:=zAn (st:=zHy) l5 c5 k5
 have zQG:Has l.prog w K mg base "goes_up" 1 ["below", "rest", "bottom", "way"] (zG7 K):=⟨_,_,zPN  F5 B   , W.mg_of X G a5,k5,F5.binds fun _ _ _ _ _ _=>l4N fun _ _ _ _=>rfl⟩
 have F6:=zAn (st:=zH9) l6 c6 k6
 have zP7:Has l.prog w K mg base "gridded" 2 ["value", "base", "places", "way"] (zGw K):=⟨_,_,zOu  F6 B zIi zQG  , W.mg_of X G a6,k6,F6.binds fun _ _ _ _ _ _=>l4N fun _ _ _ _=>rfl⟩
 have F7:=zAn (st:=zEt) l7 c7 k7
 have zL0:Has l.prog w K mg base "figures_of" 1 ["number", "base"] (zD6 K):=⟨_,_,zK9  F7 B  zBa , W.mg_of X G a7,k7,F7.binds fun _ _ _ _ _ _=>l2N fun _ _=>rfl⟩
 have F8:=zAn (st:=zEC) l8 c8 k8
 have zIh:Has l.prog w K mg base "parts_of" 1 ["text", "size", "between"] (zC1 K):=⟨_,_,zNQ  F8 B   , W.mg_of X G a8,k8,F8.binds fun _ _ _ _ _ _=>l3N fun _ _ _=>rfl⟩
 have F9:=zAn (st:=zIC) l9 c9 k9
 have zMq:Has l.prog w K mg base "grouped" 2 ["text", "size", "mark"] (zFN K):=⟨_,_,zPC  F9 B zIh  , W.mg_of X G a9,k9,F9.binds fun _ _ _ _ _ _=>l3N fun _ _ _=>rfl⟩
 have F10:=zAn (st:=zH4) l10 c10 k10
 have zP1:Has l.prog w K mg base "body_of" 3 ["number", "base", "places", "point", "size", "mark"] (zG0 K):=⟨_,_,zOy  F10 B zMq zL0  , W.mg_of X G a10,k10,F10.binds fun _ _ _ _ _ _=>l6N fun _ _ _ _ _ _=>rfl⟩
 have F11:=zAn (st:=zH1) l11 c11 k11
 have zGg:Has l.prog w K mg base "ends_of" 1 ["style", "below"] (zC4 K):=⟨_,_,zOs  F11 B  zJS sty,W.mg_of X G a11,k11,F11.binds fun _ _ _ _ _ _=>l2N fun _ _=>rfl⟩
 have F12:=zAn (st:=zJP) l12 c12 k12
 have zN9:Has l.prog w K mg base "signed" 2 ["body", "style", "below"] (zGN K):=⟨_,_,zPl  F12 B zGg  , W.mg_of X G a12,k12,F12.binds fun _ _ _ _ _ _=>l3N fun _ _ _=>rfl⟩
 have F13:=zAn (st:=zBd) l13 c13 k13
 have zFJ:Has l.prog w K mg base "stands_between_figures" 1 ["body"] (zBW K):=⟨_,_,zE3  F13 B  zBa , W.mg_of X G a13,k13,F13.binds fun _ _ _ _ _ _=>(lenS fun _=>len0 (rfl))⟩
 have F14:=zAn (st:=zG3) l14 c14 k14
 have zKw:=zM7 (P:=l.prog) (w:=w) (base:=base)  F14 B zGg zFJ zN9  zG5 zLh vAU
 have zPS:HasX l.prog w K mg base "unsigned" 3 ["core", "style"] (zDX K):=⟨_,_,zKw,W.mg_of X G a14,k14,F14.binds fun _ _ _ _ _ _=>l2N fun _ _=>rfl⟩
 have zMz:Has l.prog w K mg base "unsigned" 3 ["core", "style"] (spc (zDX K)):=⟨_,_,zKw.calm,W.mg_of X G a14,k14,F14.binds fun _ _ _ _ _ _=>l2N fun _ _=>rfl⟩
 have F15:=zAn (st:=zHG) l15 c15 k15
 have zKr:Has l.prog w K mg base "is_whole" 1 ["thing"] (zEM K):=⟨_,_,zMx  F15 B   , W.mg_of X G a15,k15,F15.binds fun _ _ _ _ _ _=>(lenS fun _=>len0 (rfl))⟩
 have F16:=zAn (st:=zCw) l16 c16 k16
 have zGB:Has l.prog w K mg base "common_divisor" 1 ["one", "other"] (zCA K):=⟨_,_,zIS  F16 B   , W.mg_of X G a16,k16,F16.binds fun _ _ _ _ _ _=>l2N fun _ _=>rfl⟩
 have F17:=zAn (st:=zEB) l17 c17 k17
 have zLK:Has l.prog w K mg base "is_fraction" 2 ["thing"] (zDh K):=⟨_,_,zKa  F17 B zKr zGB  , W.mg_of X G a17,k17,F17.binds fun _ _ _ _ _ _=>(lenS fun _=>len0 (rfl))⟩
 have F18:=zAn (st:=zFr) l18 c18 k18
 have zKE:=zMs (P:=l.prog) (w:=w) (base:=base)  F18 B zIh zMq zGS zEG zIW vAS
 have zNZ:zQL l.prog w K mg base "ungrouped" 3 ["text", "size", "mark"] (zEr K):=⟨_,_,zKE,W.mg_of X G a18,k18,F18.binds fun _ _ _ _ _ _=>l3N fun _ _ _=>rfl⟩
 have zS9:Has l.prog w K mg base "ungrouped" 3 ["text", "size", "mark"] (spc (zEr K)):=⟨_,_,zKE.of2.calm,W.mg_of X G a18,k18,F18.binds fun _ _ _ _ _ _=>l3N fun _ _ _=>rfl⟩
 have F19:=zAn (st:=zFd) l19 c19 k19
 have zJm:=zMg (P:=l.prog) (w:=w) (base:=base)  F19 B  zEy zBa zCz zF0 vAR
 have zNH:zQL l.prog w K mg base "number_of" 1 ["text", "base"] (zEm K):=⟨_,_,zJm,W.mg_of X G a19,k19,F19.binds fun _ _ _ _ _ _=>l2N fun _ _=>rfl⟩
 have zS3:Has l.prog w K mg base "number_of" 1 ["text", "base"] (spc (zEm K)):=⟨_,_,zJm.of2.calm,W.mg_of X G a19,k19,F19.binds fun _ _ _ _ _ _=>l2N fun _ _=>rfl⟩
 have F20:=zAn (st:=zF5) l20 c20 k20
 have zJy:=zMU (P:=l.prog) (w:=w) (base:=base)  F20 B   zDd zF4 vAT
 have zNa:HasX l.prog w K mg base "whole_end" 1 ["body", "places", "point"] (zEh K):=⟨_,_,zJy,W.mg_of X G a20,k20,F20.binds fun _ _ _ _ _ _=>l3N fun _ _ _=>rfl⟩
 have zSo:Has l.prog w K mg base "whole_end" 1 ["body", "places", "point"] (spc (zEh K)):=⟨_,_,zJy.calm,W.mg_of X G a20,k20,F20.binds fun _ _ _ _ _ _=>l3N fun _ _ _=>rfl⟩
 have F21:=zAn (st:=zFy) l21 c21 k21
 have zKS:=zLx (P:=l.prog) (w:=w) (base:=base)  F21 B zNa zNZ zNH  zEG zCz zDd zF4 vAS vAR vAT xg xf
 have zM3:HasX l.prog w K mg base "number_in" 4 ["body", "base", "places", "point", "size", "mark"] (zEv K):=⟨_,_,zKS,W.mg_of X G a21,k21,F21.binds fun _ _ _ _ _ _=>l6N fun _ _ _ _ _ _=>rfl⟩
 have zSz:Has l.prog w K mg base "number_in" 4 ["body", "base", "places", "point", "size", "mark"] (spc (zEv K)):=⟨_,_,zKS.calm,W.mg_of X G a21,k21,F21.binds fun _ _ _ _ _ _=>l6N fun _ _ _ _ _ _=>rfl⟩
 have F22:=zB5 (x:="__init__") (qual:="Form.__init__") (st:=zBp) l22 c22 k22
 have zEU:=zI6 (P:=l.prog) (w:=w) (base:=base)  F22 B
 have zEd:zCI K (W.fnOf "__init__" "Form.__init__" (zAy zBp) (zAi zBp) (zAH zBp) .none kV22 dc22 pm22 an22 cd22 ct22) ["self", "width", "fill", "side", "strict"] []:=.all (lenS fun _=>lenS fun _=>lenS fun _=>lenS fun _=>lenS fun _=>len0 (rfl))
 have F23:=zB5 (x:="__init__") (qual:="WordForm.__init__") (st:=zAq) l23 c23 k23
 have zHl:=zHN (P:=l.prog) (w:=w) (base:=base) (zCc:=zCc) (zAD:=zAD) F23 B zIE   ⟨_,_,zEU,⟨vBu,vBv,vBw,k22⟩,zEd⟩  zAS zJ6
 have zHZ:zCI K (W.fnOf "__init__" "WordForm.__init__" (zAy zAq) (zAi zAq) (zAH zAq) (.ref tD23) kV23 dc23 pm23 an23 cd23 ct23) ["self", "signs", "least", "most", "width", "fill", "side", "strict"] []:=zIL vCn rfl (lenS fun _=>lenS fun _=>lenS fun _=>lenS fun _=>lenS fun _=>lenS fun _=>lenS fun _=>lenS fun _=>len0 (⟨_,rfl,rfl⟩))
 have F24:=zB5 (x:="__init__") (qual:="ChoiceForm.__init__") (st:=zAf) l24 c24 k24
 have zGe:=zGJ (P:=l.prog) (w:=w) (base:=base) (zCc:=zCc) (zAC:=zAC) F24 B zIE   ⟨_,_,zEU,⟨vBu,vBv,vBw,k22⟩,zEd⟩  zAQ zH3
 have zGq:zCI K (W.fnOf "__init__" "ChoiceForm.__init__" (zAy zAf) (zAi zAf) (zAH zAf) (.ref tD24) kV24 dc24 pm24 an24 cd24 ct24) ["self", "names", "width", "fill", "side", "strict"] []:=zIL vCo rfl (lenS fun _=>lenS fun _=>lenS fun _=>lenS fun _=>lenS fun _=>lenS fun _=>len0 (⟨_,rfl,rfl⟩))
 have F25:=zB5 (x:="__init__") (qual:="NumberForm.__init__") (st:=zAe) l25 c25 k25
 have zGP:=zGH (P:=l.prog) (w:=w) (base:=base) (zCc:=zCc) (zAB:=zAB) F25 B zIE   ⟨_,_,zEU,⟨vBu,vBv,vBw,k22⟩,zEd⟩  zAK zID
 have zGs:zCI K (W.fnOf "__init__" "NumberForm.__init__" (zAy zAe) (zAi zAe) (zAH zAe) (.ref tD25) kV25 dc25 pm25 an25 cd25 ct25) ["self", "figures", "places", "base", "sign", "size", "mark", "point", "way", "width", "fill", "side", "strict"] []:=zIL vCp rfl (lenS fun _=>lenS fun _=>lenS fun _=>lenS fun _=>lenS fun _=>lenS fun _=>lenS fun _=>lenS fun _=>lenS fun _=>lenS fun _=>lenS fun _=>lenS fun _=>lenS fun _=>len0 (⟨_,rfl,rfl⟩))
 have F26:=zB5 (x:="is_too_great") (qual:="NumberForm.is_too_great") (st:=zAh) l26 c26 k26
 have zCj:=zEg (P:=l.prog) (w:=w) (base:=base) (zAB:=zAB) F26 B zIi
 have zCk:zCI K (W.fnOf "is_too_great" "NumberForm.is_too_great" (zAy zAh) (zAi zAh) (zAH zAh) .none kV26 dc26 pm26 an26 cd26 ct26) ["self", "number"] []:=.all (lenS fun _=>lenS fun _=>len0 (rfl))
 have F27:=zB5 (x:="core") (qual:="NumberForm.core") (st:=zBS) l27 c27 k27
 have zFU:=zHt (P:=l.prog) (w:=w) (base:=base) (zAB:=zAB) F27 B zAK zP7 zP1 zN9 zLK  ⟨_,_,zCj,⟨vBy,vBx,k26⟩,zCk⟩
 have zFT:zCI K (W.fnOf "core" "NumberForm.core" (zAy zBS) (zAi zBS) (zAH zBS) .none kV27 dc27 pm27 an27 cd27 ct27) ["self", "value"] []:=.all (lenS fun _=>lenS fun _=>len0 (rfl))
 have F28:=zB5 (x:="is_too_wide") (qual:="Form.is_too_wide") (st:=zA0) l28 c28 k28
 have zAo:=zHm (P:=l.prog) (w:=w) (base:=base)  F28 B
 have zAp:zCI K (W.fnOf "is_too_wide" "Form.is_too_wide" (zAy zA0) (zAi zA0) (zAH zA0) .none kV28 dc28 pm28 an28 cd28 ct28) ["self", "core"] []:=.all (lenS fun _=>lenS fun _=>len0 (rfl))
 have F29:=zAn (st:=zDE) l29 c29 k29
 have zJg:Has l.prog w K mg base "padded_inside" 3 ["lead", "rest", "width", "fill"] (zCv K):=⟨_,_,zJA  F29 B zLR  , W.mg_of X G a29,k29,F29.binds fun _ _ _ _ _ _=>l4N fun _ _ _ _=>rfl⟩
 have F30:=zB5 (x:="lead_of") (qual:="NumberForm.lead_of") (st:=zA8) l30 c30 k30
 have zHM:=zGp (P:=l.prog) (w:=w) (base:=base) (zAB:=zAB) F30 B zGg zMz
 have zHQ:zCI K (W.fnOf "lead_of" "NumberForm.lead_of" (zAy zA8) (zAi zA8) (zAH zA8) .none kV30 dc30 pm30 an30 cd30 ct30) ["self", "core"] []:=.all (lenS fun _=>lenS fun _=>len0 (rfl))
 have F31:=zB5 (x:="filled") (qual:="Form.filled") (st:=zCF) l31 c31 k31
 have zFk:=zKf (P:=l.prog) (w:=w) (base:=base) (zAB:=zAB) F31 B zAK zJg zLR  ⟨_,_,zHM,⟨vB0,vBz,k30⟩,zHQ⟩
 have zFm:zCI K (W.fnOf "filled" "Form.filled" (zAy zCF) (zAi zCF) (zAH zCF) .none kV31 dc31 pm31 an31 cd31 ct31) ["self", "core"] []:=.all (lenS fun _=>lenS fun _=>len0 (rfl))
 have F32:=zB5 (x:="is_word") (qual:="WordForm.is_word") (st:=zBJ) l32 c32 k32
 have zEs:=zHa (P:=l.prog) (w:=w) (base:=base) (zAD:=zAD) F32 B
 have zEo:zCI K (W.fnOf "is_word" "WordForm.is_word" (zAy zBJ) (zAi zBJ) (zAH zBJ) .none kV32 dc32 pm32 an32 cd32 ct32) ["self", "thing"] []:=.all (lenS fun _=>lenS fun _=>len0 (rfl))
 have F33:=zB5 (x:="core") (qual:="WordForm.core") (st:=zBn) l33 c33 k33
 have zGc:=zJJ (P:=l.prog) (w:=w) (base:=base) (zAD:=zAD) F33 B zAS   ⟨_,_,zEs,⟨vB2,vB1,k32⟩,zEo⟩
 have zGl:zCI K (W.fnOf "core" "WordForm.core" (zAy zBn) (zAi zBn) (zAH zBn) .none kV33 dc33 pm33 an33 cd33 ct33) ["self", "value"] []:=.all (lenS fun _=>lenS fun _=>len0 (rfl))
 have F34:=zB5 (x:="core") (qual:="ChoiceForm.core") (st:=zBT) l34 c34 k34
 have zFY:=zIA (P:=l.prog) (w:=w) (base:=base) (zAC:=zAC) F34 B
 have zFB:zCI K (W.fnOf "core" "ChoiceForm.core" (zAy zBT) (zAi zBT) (zAH zBT) .none kV34 dc34 pm34 an34 cd34 ct34) ["self", "value"] []:=.all (lenS fun _=>lenS fun _=>len0 (rfl))
 have F35:=zB5 (x:="put") (qual:="Form.put") (st:=zDU) l35 c35 k35
 have zEH:=zNT (P:=l.prog) (w:=w) (base:=base) (zAB:=zAB) (zAD:=zAD) (zAC:=zAC) (zAu:=zAu) F35 B zAK zAS zAQ zJ2  zJb ⟨_,_,zFU,⟨vB4,vB3,k27⟩,zFT⟩ ⟨_,_,zGc,⟨vB6,vB5,k33⟩,zGl⟩ ⟨_,_,zFY,⟨vB8,vB7,k34⟩,zFB⟩ ⟨_,_,zAo,⟨vCA,vB9,k28⟩,zAp⟩ ⟨_,_,zAo,⟨vCB,vB9,k28⟩,zAp⟩ ⟨_,_,zAo,⟨vCC,vB9,k28⟩,zAp⟩ ⟨_,_,zFk,⟨vCE,vCD,k31⟩,zFm⟩ ⟨_,_,zFk,⟨vCF,vCD,k31⟩,zFm⟩ ⟨_,_,zFk,⟨vCG,vCD,k31⟩,zFm⟩
 have zEI:zCI K (W.fnOf "put" "Form.put" (zAy zDU) (zAi zDU) (zAH zDU) .none kV35 dc35 pm35 an35 cd35 ct35) ["self", "value"] []:=.all (lenS fun _=>lenS fun _=>len0 (rfl))
 have F36:=zAn (st:=zHB) l36 c36 k36
 have zKm:Has l.prog w K mg base "stripped" 3 ["text", "width", "fill", "side"] (zEP K):=⟨_,_,zNN  F36 B zJ5 zLR  , W.mg_of X G a36,k36,F36.binds fun _ _ _ _ _ _=>l4N fun _ _ _ _=>rfl⟩
 have F37:=zB5 (x:="unfilled") (qual:="Form.unfilled") (st:=zBo) l37 c37 k37
 have zES:=zJD (P:=l.prog) (w:=w) (base:=base) (zAB:=zAB) (zAD:=zAD) (zAC:=zAC) F37 B zAK zAS zAQ zKm  ⟨_,_,zAo,⟨vCA,vB9,k28⟩,zAp⟩ ⟨_,_,zAo,⟨vCB,vB9,k28⟩,zAp⟩ ⟨_,_,zAo,⟨vCC,vB9,k28⟩,zAp⟩
 have zEQ:zCI K (W.fnOf "unfilled" "Form.unfilled" (zAy zBo) (zAi zBo) (zAH zBo) .none kV37 dc37 pm37 an37 cd37 ct37) ["self", "text"] []:=.all (lenS fun _=>lenS fun _=>len0 (rfl))
 have F38:=zAn (st:=zGx) l38 c38 k38
 have zO6:Has l.prog w K mg base "fraction" 2 ["top", "bottom"] (zFe K):=⟨_,_,zNY  F38 B zGB zKr  , W.mg_of X G a38,k38,F38.binds fun _ _ _ _ _ _=>l2N fun _ _=>rfl⟩
 have F39:=zAn (st:=zEl) l39 c39 k39
 have zMv:Has l.prog w K mg base "grid_value" 3 ["k", "base", "places"] (zD2 K):=⟨_,_,zLb  F39 B zO6 zIi  , W.mg_of X G a39,k39,F39.binds fun _ _ _ _ _ _=>l3N fun _ _ _=>rfl⟩
 have F40:=zB5 (x:="number_with") (qual:="NumberForm.number_with") (st:=zAk) l40 c40 k40
 have zFR:=zE9 (P:=l.prog) (w:=w) (base:=base) (zAB:=zAB) (zBB:=zBB) (zA3:=zA3) F40 B zAK zG5 zDd zPS zM3  ⟨_,_,zCj,⟨vBy,vBx,k26⟩,zCk⟩  vAU vAT xc xb
 have zFP:zCI K (W.fnOf "number_with" "NumberForm.number_with" (zAy zAk) (zAi zAk) (zAH zAk) .none kV40 dc40 pm40 an40 cd40 ct40) ["self", "core", "below"] []:=.all (lenS fun _=>lenS fun _=>lenS fun _=>len0 (rfl))
 have F41:=zAn (st:=zCa) l41 c41 k41
 have zIk:Has l.prog w K mg base "stripped_inside" 4 ["text", "lead", "width", "fill"] (zCM K):=⟨_,_,zH6  F41 B zKm  , W.mg_of X G a41,k41,F41.binds fun _ _ _ _ _ _=>l4N fun _ _ _ _=>rfl⟩
 have F42:=zB5 (x:="cores_in") (qual:="NumberForm.cores_in") (st:=zA4) l42 c42 k42
 have zGj:=zGD (P:=l.prog) (w:=w) (base:=base) (zAB:=zAB) (zAD:=zAD) (zAC:=zAC) F42 B zAK zGg zIk  ⟨_,_,zES,⟨vCI,vCH,k37⟩,zEQ⟩ ⟨_,_,zAo,⟨vCA,vB9,k28⟩,zAp⟩
 have zGO:zCI K (W.fnOf "cores_in" "NumberForm.cores_in" (zAy zA4) (zAi zA4) (zAH zA4) .none kV42 dc42 pm42 an42 cd42 ct42) ["self", "text", "below"] []:=.all (lenS fun _=>lenS fun _=>lenS fun _=>len0 (rfl))
 have F43:=zB5 (x:="numbers_in") (qual:="NumberForm.numbers_in") (st:=zAs) l43 c43 k43
 have zF2:=zFG (P:=l.prog) (w:=w) (base:=base) (zAB:=zAB) F43 B zAK   ⟨_,_,zFR,⟨vCK,vCJ,k40⟩,zFP⟩ ⟨_,_,zGj,⟨vCM,vCL,k42⟩,zGO⟩
 have zFh:zCI K (W.fnOf "numbers_in" "NumberForm.numbers_in" (zAy zAs) (zAi zAs) (zAH zAs) .none kV43 dc43 pm43 an43 cd43 ct43) ["self", "text", "below"] []:=.all (lenS fun _=>lenS fun _=>lenS fun _=>len0 (rfl))
 have F44:=zB5 (x:="values_for") (qual:="NumberForm.values_for") (st:=zAt) l44 c44 k44
 have zCG:=zFQ (P:=l.prog) (w:=w) (base:=base) (zAB:=zAB) F44 B zAK zMv  ⟨_,_,zF2,⟨vCO,vCN,k43⟩,zFh⟩
 have zCC:zCI K (W.fnOf "values_for" "NumberForm.values_for" (zAy zAt) (zAi zAt) (zAH zAt) .none kV44 dc44 pm44 an44 cd44 ct44) ["self", "text"] []:=.all (lenS fun _=>lenS fun _=>len0 (rfl))
 have F45:=zB5 (x:="values_for") (qual:="ChoiceForm.values_for") (st:=zAr) l45 c45 k45
 have zCH:=zFK (P:=l.prog) (w:=w) (base:=base) (zAC:=zAC) (zAB:=zAB) (zAD:=zAD) F45 B zAQ   ⟨_,_,zES,⟨vCP,vCH,k37⟩,zEQ⟩
 have zCD:zCI K (W.fnOf "values_for" "ChoiceForm.values_for" (zAy zAr) (zAi zAr) (zAH zAr) .none kV45 dc45 pm45 an45 cd45 ct45) ["self", "text"] []:=.all (lenS fun _=>lenS fun _=>len0 (rfl))
 have F46:=zB5 (x:="values_for") (qual:="WordForm.values_for") (st:=zA5) l46 c46 k46
 have zCV:=zGG (P:=l.prog) (w:=w) (base:=base) (zAD:=zAD) (zAB:=zAB) (zAC:=zAC) F46 B zAS   ⟨_,_,zES,⟨vCQ,vCH,k37⟩,zEQ⟩ ⟨_,_,zEs,⟨vB2,vB1,k32⟩,zEo⟩
 have zCR:zCI K (W.fnOf "values_for" "WordForm.values_for" (zAy zA5) (zAi zA5) (zAH zA5) .none kV46 dc46 pm46 an46 cd46 ct46) ["self", "text"] []:=.all (lenS fun _=>lenS fun _=>len0 (rfl))
 have F47:=zAn (st:=zDI) l47 c47 k47
 have zKQ:Has l.prog w K mg base "grouped_cells" 2 ["row", "size", "mark"] (zCp K):=⟨_,_,zJF  F47 B zIh  , W.mg_of X G a47,k47,F47.binds fun _ _ _ _ _ _=>l3N fun _ _ _=>rfl⟩
 have F48:=zAn (st:=zEu) l48 c48 k48
 have zMV:Has l.prog w K mg base "body_cells" 3 ["form", "row"] (zD3 K):=⟨_,_,zLa  F48 B zKQ  , W.mg_of X G a48,k48,F48.binds fun _ _ _ _ _ _=>l2N fun _ _=>rfl⟩
 have F49:=zAn (st:=zDf) l49 c49 k49
 have zKd:Has l.prog w K mg base "signed_cells" 4 ["form", "row", "below"] (zDD K):=⟨_,_,zKR  F49 B zGg zMV  , W.mg_of X G a49,k49,F49.binds fun _ _ _ _ _ _=>l3N fun _ _ _=>rfl⟩
 have F50:=zAn (st:=zCP) l50 c50 k50
 have zHx:Has l.prog w K mg base "rows_from_nought" 1 ["form"] (zCx K):=⟨_,_,zHk  F50 B  zBa , W.mg_of X G a50,k50,F50.binds fun _ _ _ _ _ _=>(lenS fun _=>len0 (rfl))⟩
 have F51:=zAn (st:=zCE) l51 c51 k51
 have zHo:Has l.prog w K mg base "rows_below_nought" 1 ["form"] (zCe K):=⟨_,_,zHP  F51 B  zBa , W.mg_of X G a51,k51,F51.binds fun _ _ _ _ _ _=>(lenS fun _=>len0 (rfl))⟩
 have F52:=zAn (st:=zDj) l52 c52 k52
 have zKX:Has l.prog w K mg base "number_cores" 5 ["form"] (zEV K):=⟨_,_,zJ7  F52 B zKd zHx zHo  , W.mg_of X G a52,k52,F52.binds fun _ _ _ _ _ _=>(lenS fun _=>len0 (rfl))⟩
 have F53:=zAn (st:=zD4) l53 c53 k53
 have zLM:Has l.prog w K mg base "filled_look" 2 ["form", "lead", "rest"] (zDi K):=⟨_,_,zKT  F53 B zJ5  , W.mg_of X G a53,k53,F53.binds fun _ _ _ _ _ _=>l3N fun _ _ _=>rfl⟩
 have F54:=zAn (st:=zEp) l54 c54 k54
 have zIv:Has l.prog w K mg base "core_looks" 6 ["form"] (zD1 K zAB zAD zAC):=⟨_,_,zLF (zAB:=zAB) (zAD:=zAD) (zAC:=zAC) F54 B zAK zAS zAQ zKX  ⟨_,_,zAo,⟨vCA,vB9,k28⟩,zAp⟩ ⟨_,_,zAo,⟨vCB,vB9,k28⟩,zAp⟩ ⟨_,_,zAo,⟨vCC,vB9,k28⟩,zAp⟩  zC3 zED ⟨zAK,nha,ihn,iht,nhm,nk1,nk2⟩ ⟨zAS,wha,ihn,iht,whm,wk1,wk2⟩ ⟨zAQ,cha,ihn,iht,chm,ck1,ck2⟩,W.mg_of X G a54,k54,F54.binds fun _ _ _ _ _ _=>(lenS fun _=>len0 (rfl))⟩
 have F55:=zAn (st:=zHD) l55 c55 k55
 have zKh:Has l.prog w K mg base "looks_of" 7 ["form"] (zEL K zAB zAD zAC):=⟨_,_,zMy (zAB:=zAB) (zAD:=zAD) (zAC:=zAC) F55 B zLM zIv  , W.mg_of X G a55,k55,F55.binds fun _ _ _ _ _ _=>(lenS fun _=>len0 (rfl))⟩
 have F56:=zAn (st:=zOA) l56 c56 k56
 have zN2:Has l.prog w K mg base "fits" 1 ["look", "text"] (zHh K):=⟨_,_,zTg  F56 B   , W.mg_of X G a56,k56,F56.binds fun _ _ _ _ _ _=>l2N fun _ _=>rfl⟩
 have F57:=zAn (st:=zGu) l57 c57 k57
 have zKt:Has l.prog w K mg base "look_for" 7 ["form", "value"] (zEK K zAB zAD zAC):=⟨_,_,zNM (zAB:=zAB) (zAD:=zAD) (zAC:=zAC) (zAu:=zAu) F57 B zAK zAS zAQ zN2 zIv  ⟨_,_,zEH.calm,⟨vCS,vCR,k35⟩,zEI⟩ ⟨_,_,zEH.calm,⟨vCT,vCR,k35⟩,zEI⟩ ⟨_,_,zEH.calm,⟨vCU,vCR,k35⟩,zEI⟩ ⟨_,_,zFU,⟨vB4,vB3,k27⟩,zFT⟩ ⟨_,_,zGc,⟨vB6,vB5,k33⟩,zGl⟩ ⟨_,_,zFY,⟨vB8,vB7,k34⟩,zFB⟩  , W.mg_of X G a57,k57,F57.binds fun _ _ _ _ _ _=>l2N fun _ _=>rfl⟩
 have F58:=zAn (st:=zG4) l58 c58 k58
 have zKu:Has l.prog w K mg base "value_in" 8 ["form", "at", "text"] (zEe K zAB zAD zAC):=⟨_,_,zNJ (zAB:=zAB) (zAD:=zAD) (zAC:=zAC) F58 B zAK zAS zAQ zN2 zKh zKt  ⟨_,_,zCG,⟨vCW,vCV,k44⟩,zCC⟩ ⟨_,_,zCV,⟨vCY,vCX,k46⟩,zCR⟩ ⟨_,_,zCH,⟨vCa,vCZ,k45⟩,zCD⟩  , W.mg_of X G a58,k58,F58.binds fun _ _ _ _ _ _=>l3N fun _ _ _=>rfl⟩
 have F59:=zAn (st:=zF6) l59 c59 k59
 have zHd:Has l.prog w K mg base "_law_signs" 1 [] (zCW K):=⟨_,_,zMd  F59 B   , W.mg_of X G a59,k59,F59.binds fun _ _ _ _ _ _=>(len0 (rfl))⟩
 have F60:=zAn (st:=zGv) l60 c60 k60
 have zIT:Has l.prog w K mg base "_law_sign" 2 ["_law_cell", "_law_salt"] (zDV K):=⟨_,_,zNb  F60 B zC2 zHd  , W.mg_of X G a60,k60,F60.binds fun _ _ _ _ _ _=>l2N fun _ _=>rfl⟩
 have F61:=zAn (st:=zCY) l61 c61 k61
 have zIo:Has l.prog w K mg base "_law_number_spec" 3 ["_law_cell", "_law_other", "_law_small"] (zCO K):=⟨_,_,zIF  F61 B zC2 zIT  , W.mg_of X G a61,k61,F61.binds fun _ _ _ _ _ _=>l3N fun _ _ _=>rfl⟩
 have F62:=zAn (st:=zCZ) l62 c62 k62
 have zIb:Has l.prog w K mg base "_law_number_form" 4 ["_law_spec_here"] (zDK K zAB):=⟨_,_,zHu (zAB:=zAB) F62 B zC3   ⟨_,_,zGP,⟨vCc,vCd,vCb,vCe⟩,zGs⟩  zAK zID,W.mg_of X G a62,k62,F62.binds fun _ _ _ _ _ _=>(lenS fun _=>len0 (rfl))⟩
 have F63:=zAn (st:=zDG) l63 c63 k63
 have zKB:Has l.prog w K mg base "_law_word_spec" 3 ["_law_cell", "_law_other", "_law_small"] (zCr K):=⟨_,_,zJI  F63 B zC2 zHd zIT  , W.mg_of X G a63,k63,F63.binds fun _ _ _ _ _ _=>l3N fun _ _ _=>rfl⟩
 have F64:=zAn (st:=zFc) l64 c64 k64
 have zNi:Has l.prog w K mg base "_law_names" 2 ["_law_cell", "_law_many"] (zEw K):=⟨_,_,zMS  F64 B zC2 zHd  , W.mg_of X G a64,k64,F64.binds fun _ _ _ _ _ _=>l2N fun _ _=>rfl⟩
 have F65:=zAn (st:=zCX) l65 c65 k65
 have zIN:Has l.prog w K mg base "_law_choice_spec" 3 ["_law_cell", "_law_other", "_law_small"] (zCQ K):=⟨_,_,zH2  F65 B zNi zC2 zIT  , W.mg_of X G a65,k65,F65.binds fun _ _ _ _ _ _=>l3N fun _ _ _=>rfl⟩
 have F66:=zAn (st:=zHC) l66 c66 k66
 have zPB:Has l.prog w K mg base "_law_form" 5 ["_law_spec_here"] (zFv K zAB zAD zAC):=⟨_,_,zM4 (zAC:=zAC) (zAD:=zAD) (zAB:=zAB) F66 B zGa zED zIb  ⟨_,_,zGe,⟨vCg,vCh,vCf,vCi⟩,zGq⟩ ⟨_,_,zHl,⟨vCk,vCl,vCj,vCm⟩,zHZ⟩  zAS zJ6 zAQ zH3,W.mg_of X G a66,k66,F66.binds fun _ _ _ _ _ _=>(lenS fun _=>len0 (rfl))⟩
 have F67:=zAn (st:=zGz) l67 c67 k67
 have zPF:Has l.prog w K mg base "_law_spec" 4 ["_law_cell", "_law_other", "_law_small"] (zFq K):=⟨_,_,zNh  F67 B zC2 zIo zKB zIN  , W.mg_of X G a67,k67,F67.binds fun _ _ _ _ _ _=>l3N fun _ _ _=>rfl⟩
 have F68:=zAn (st:=zG8) l68 c68 k68
 have zOi:Has l.prog w K mg base "_law_text" 2 ["_law_look", "_law_cell", "_law_way"] (zF3 K):=⟨_,_,zNo  F68 B zC2  , W.mg_of X G a68,k68,F68.binds fun _ _ _ _ _ _=>l3N fun _ _ _=>rfl⟩
 have F69:=zAn (st:=zFo) l69 c69 k69
 have zJx:Has l.prog w K mg base "_law_whole" 1 ["_law_thing"] (zDo K):=⟨_,_,zLw  F69 B   , W.mg_of X G a69,k69,F69.binds fun _ _ _ _ _ _=>(lenS fun _=>len0 (rfl))⟩
 have F70:=zAn (st:=zDl) l70 c70 k70
 have zKe:Has l.prog w K mg base "_law_is_value" 2 ["_law_spec_here", "_law_value"] (zDM K):=⟨_,_,zJk  F70 B zJx  , W.mg_of X G a70,k70,F70.binds fun _ _ _ _ _ _=>l2N fun _ _=>rfl⟩
 have F71:=zAn (st:=zFu) l71 c71 k71
 have zNG:Has l.prog w K mg base "_law_right" 9 ["_law_form_here", "_law_spec_here", "_law_looks", "_law_at", "_law_text_here"] (zEi K zAB zAD zAC):=⟨_,_,zMW (zAB:=zAB) (zAD:=zAD) (zAC:=zAC) (zAu:=zAu) F71 B zAK zAS zAQ zKu zKt zN2 zKe zJx  ⟨_,_,zEH.calm,⟨vCS,vCR,k35⟩,zEI⟩ ⟨_,_,zEH.calm,⟨vCT,vCR,k35⟩,zEI⟩ ⟨_,_,zEH.calm,⟨vCU,vCR,k35⟩,zEI⟩ ⟨_,_,zCG,⟨vCW,vCV,k44⟩,zCC⟩ ⟨_,_,zCV,⟨vCY,vCX,k46⟩,zCR⟩ ⟨_,_,zCH,⟨vCa,vCZ,k45⟩,zCD⟩  , W.mg_of X G a71,k71,F71.binds fun _ _ _ _ _ _=>l5N fun _ _ _ _ _=>rfl⟩
 have F72:=zAn (st:=zFj) l72 c72 k72
 have zNX:Has l.prog w K mg base "_law_apart" 9 ["_law_form_here", "_law_looks", "_law_text_here"] (zEj K zAB zAD zAC):=⟨_,_,zMP (zAB:=zAB) (zAD:=zAD) (zAC:=zAC) F72 B zAK zAS zAQ zKu zN2  ⟨_,_,zCG,⟨vCW,vCV,k44⟩,zCC⟩ ⟨_,_,zCV,⟨vCY,vCX,k46⟩,zCR⟩ ⟨_,_,zCH,⟨vCa,vCZ,k45⟩,zCD⟩  , W.mg_of X G a72,k72,F72.binds fun _ _ _ _ _ _=>l3N fun _ _ _=>rfl⟩
 have F73:=zAn (st:=zNA) l73 c73 k73
 exact zWX (zAB:=zAB) (zAD:=zAD) (zAC:=zAC) F73 B zLT zPF zPB zKh zC2 zOi zNG zNX
theorem walk {l:W.OpenLaw} {q:Program} {loose:List Str} {XP:(Str->Option Value)->Heap->Prop} {YP:World->Heap->Prop} {d:DefRec} {K:Params->W.Frag} (hn:l.most=some 63) (hdf:d.params.defaults=[])
  (hY : ∀ (w:World) (h:Heap),YP w h->(K w.params).In h)
  (F : ∀ (w:World) (mg:Str->Option Value) (fa:Addr) (h:Heap),(K w.params).In h->h.Ns mainGlobals mg->mg d.name=some (.ref fa) ->
   ∃ fd:FuncData,(∀ (s:Shared) (u:Value),BindsTo s fd ⟨[u],[]⟩ [("_law_script", u)]) /\ ∀ base:Heap,(K w.params).In base->base.Ns mainGlobals mg->FnOk l.prog w (K w.params) mg base CX0 10 fa fd ["_law_script"] (zNy (K w.params))) :
  W.WalkO q loose XP YP l.row.toRowW d [] (fun f vs=>PySem.call f vs):=
 L2.walk_of (n:=63) (k:=10) (x:="_law_script") (CX:=fun _=>CX0) (sp:=fun w=>zNy (K w.params)) hn (by decide) hdf ⟨rfl,by decide,by decide⟩ hY F (fun _ _ a ns hl _ hS=>⟨a,ns,rfl,hS,hl,fun _=>rfl⟩) fun _ _ _ _ _ z=>z
end Pw
namespace PySem.W.Fast
def tw10008463463952658347:=0
def tw10061348284998049964:=0
def tw10068402169419034046:=0
def tw10105586765531620667:=0
def tw10106463595527564985:=0
def tw1011765243264662772:=0
def tw10119792591317237189:=0
def tw10120441056545994840:=0
def tw10123419000239868318:=0
def tw10184032985699833541:=0
def tw10212883174301453619:=0
def tw10221359208081002862:=0
def tw10222389519605240716:=0
def tw10309916292753562674:=0
def tw10309921216983703722:=0
def tw10356203539346629375:=0
def tw10363239045341839046:=0
def tw10366086637803815682:=0
def tw10385642519928645231:=0
def tw1045166697553159707:=0
def tw10461060536065259118:=0
def tw1046472843233640889:=0
def tw10472496091977788168:=0
def tw10479358117616325453:=0
def tw10488982177905730713:=0
def tw10501939971593965315:=0
def tw10543528732846653405:=0
def tw10549280872423466701:=0
def tw10559848296603662292:=0
def tw10586427848283973524:=0
def tw10671970650450507610:=0
def tw10681019740907625203:=0
def tw10698240945004822149:=0
def tw10752522230760176638:=0
def tw10758529188804158051:=0
def tw10767239559149200365:=0
def tw10783831632474726277:=0
def tw10786787925043652319:=0
def tw10887480417678917808:=0
def tw10890991397744696304:=0
def tw10892949494404765665:=0
def tw1090721301625303965:=0
def tw10924311163118183303:=0
def tw10935336697243932268:=0
def tw10947073677722656060:=0
def tw1095056090339651367:=0
def tw10960829383119226154:=0
def tw11038717357511770530:=0
def tw11040095622219519809:=0
def tw11052785206568147628:=0
def tw11063216069338049651:=0
def tw11064978339863447796:=0
def tw11065328126069584442:=0
def tw11154353093842697564:=0
def tw11179009480664268827:=0
def tw11179983556215273723:=0
def tw11183234788824256782:=0
def tw11201230993284311401:=0
def tw1121394133120813175:=0
def tw11242624204452817448:=0
def tw11263993413013812580:=0
def tw11298060297739905277:=0
def tw11353834343841737326:=0
def tw11394156715833725057:=0
def tw11399003726797396439:=0
def tw11405100239696793199:=0
def tw1141049047501956359:=0
def tw11430510611583921097:=0
def tw11438374001505739175:=0
def tw11444725011834707745:=0
def tw11474131854840446324:=0
def tw11501214912028904297:=0
def tw1152333047191334914:=0
def tw11533827965308031393:=0
def tw11547690290583288949:=0
def tw1155372241894143779:=0
def tw11554508177531562997:=0
def tw11591540557552009908:=0
def tw11606893666022815343:=0
def tw11607947278548962287:=0
def tw11628196715156250232:=0
def tw11632025816072221075:=0
def tw11632891002538702985:=0
def tw11635775833963105879:=0
def tw11642665679563131309:=0
def tw11657955251550617360:=0
def tw1166637132971101704:=0
def tw11680553619953642309:=0
def tw11711535825643817277:=0
def tw1173519781854925159:=0
def tw11738712663924528259:=0
def tw1176169702764484448:=0
def tw117699182243180456:=0
def tw11772556162754455440:=0
def tw11783817899382812757:=0
def tw11820183470777587124:=0
def tw11834148489991041790:=0
def tw11906450087625625196:=0
def tw11941201114965284668:=0
def tw11970089953831266930:=0
def tw11977686762850596783:=0
def tw12021912966344710897:=0
def tw12067098626352530575:=0
def tw12076287441654544481:=0
def tw12122897473184317015:=0
def tw12150907886659605948:=0
def tw12172541877335564276:=0
def tw12230613592372677842:=0
def tw12295269471103098937:=0
def tw12305853381822777759:=0
def tw12329147617825255084:=0
def tw12353355778883599112:=0
def tw12383848944715319141:=0
def tw12384260601149916414:=0
def tw12428916225815435624:=0
def tw12429288771721985188:=0
def tw12456841874999379204:=0
def tw12481745497886265432:=0
def tw12537441756047477301:=0
def tw12578686745816443987:=0
def tw12625340899020599114:=0
def tw12668595335007992197:=0
def tw12746644759416292699:=0
def tw12761099179030707613:=0
def tw12764137235912527501:=0
def tw12810903757083491228:=0
def tw12811257514721792335:=0
def tw12822281491237658666:=0
def tw12827509396188398754:=0
def tw12866745978872107354:=0
def tw12898297546858723541:=0
def tw12910532690887878825:=0
def tw12914033573523505413:=0
def tw1292569079033943994:=0
def tw12953070616175893735:=0
def tw12996611941898473497:=0
def tw12997206557374588064:=0
def tw1302071527588973097:=0
def tw13032811305858928788:=0
def tw13049826372325180024:=0
def tw13052895815936380779:=0
def tw13058985561114887723:=0
def tw13078245562882988556:=0
def tw13091484302865544574:=0
def tw13093041048222017344:=0
def tw13101905592562278179:=0
def tw13157826547609324699:=0
def tw1315958466381814221:=0
def tw13188704178850491772:=0
def tw13202918262746790650:=0
def tw13216067955579739385:=0
def tw13229254426031274316:=0
def tw13245420444023251722:=0
def tw13246723009630522253:=0
def tw13258125889444483196:=0
def tw13288247838566426712:=0
def tw13303309144642485834:=0
def tw13337352561184590526:=0
def tw13359545623488499944:=0
def tw13365233047911161761:=0
def tw13376317936442407761:=0
def tw13406743829175031962:=0
def tw13416668208558630365:=0
def tw13435946546206231848:=0
def tw13447698570402667497:=0
def tw13454854595906633157:=0
def tw1346003798057380148:=0
def tw13464387354763558150:=0
def tw13487733304011136249:=0
def tw13490315599962370312:=0
def tw13516548605746974006:=0
def tw13517258857923355400:=0
def tw13551929682007214647:=0
def tw13552197825908520846:=0
def tw13573997476936974257:=0
def tw13574591375769828546:=0
def tw13592984501865817094:=0
def tw13626390164882275805:=0
def tw13640131764598813080:=0
def tw13642249467364749213:=0
def tw13674461573086632838:=0
def tw13783962214106564896:=0
def tw13810786840478926206:=0
def tw1385633777055928070:=0
def tw1388209158168248700:=0
def tw13886282028588279662:=0
def tw13889230942610056152:=0
def tw13924720145384149032:=0
def tw13977115100210860981:=0
def tw13979156801790314821:=0
def tw13993458394380721306:=0
def tw14052284708415344082:=0
def tw14101915932127723709:=0
def tw1412307154964948651:=0
def tw14134230394682992590:=0
def tw14195472745997861487:=0
def tw14218494999197047385:=0
def tw14227137778123501266:=0
def tw14300586827932319435:=0
def tw14327362119092705766:=0
def tw14367024951616025436:=0
def tw14373641797804200565:=0
def tw14377963507888846954:=0
def tw14419153580128323746:=0
def tw14430394763645570379:=0
def tw14448736681891636250:=0
def tw1445659985884772423:=0
def tw14514067645012438355:=0
def tw14520888120817053740:=0
def tw14536383987764157825:=0
def tw14550303834645006500:=0
def tw1456123506078067735:=0
def tw14596572816852464930:=0
def tw14619444698334337965:=0
def tw14624222759905046363:=0
def tw14653549584612921340:=0
def tw14673417208038119208:=0
def tw14676300021506343042:=0
def tw14802247451350850638:=0
def tw14805618834879711628:=0
def tw14848352099775686461:=0
def tw14867409390065710883:=0
def tw14869166735842915494:=0
def tw1488157037217825531:=0
def tw14921470920986543873:=0
def tw1494499210088311066:=0
def tw15003554712519399425:=0
def tw15004552004263738493:=0
def tw15030372945757524384:=0
def tw15067219252570022773:=0
def tw15101198670908016425:=0
def tw15107702253362280453:=0
def tw15116582331222748638:=0
def tw15170427748961273538:=0
def tw15176742840012979316:=0
def tw15224263713966293940:=0
def tw15232409642013095634:=0
def tw1527997681964560900:=0
def tw1532822979480626119:=0
def tw15352735584761369462:=0
def tw15387957728399497475:=0
def tw15388056571336565250:=0
def tw15411280556225089754:=0
def tw15432343711169888075:=0
def tw15449127255222144483:=0
def tw15483578064157862364:=0
def tw15518884201175220959:=0
def tw1555722218072180573:=0
def tw15619127920513011914:=0
def tw15628099697369750582:=0
def tw15657422292096506124:=0
def tw15661953931422969069:=0
def tw15742614293922747137:=0
def tw15748823813302915969:=0
def tw15759259488389716410:=0
def tw15766720744910472078:=0
def tw15822721614219538472:=0
def tw1584592388371931565:=0
def tw15919906651109197890:=0
def tw15933137641566733862:=0
def tw1595575908165901303:=0
def tw15980143001808809041:=0
def tw16017156272831470325:=0
def tw16050738529005670111:=0
def tw16054591983488018442:=0
def tw16068391453594745069:=0
def tw16089571038753598672:=0
def tw16101999260551674944:=0
def tw16126143234888201625:=0
def tw16139208181861205456:=0
def tw16154096669607965040:=0
def tw1616268068836021922:=0
def tw1617528641006643791:=0
def tw16192990185772160003:=0
def tw1621179633754046934:=0
def tw16217027947882973187:=0
def tw16225158496417926239:=0
def tw16235765862705749447:=0
def tw16241446766654976465:=0
def tw16258848694535791072:=0
def tw16274753077974089521:=0
def tw16287398932516042335:=0
def tw16296409694088191374:=0
def tw16334295158022245922:=0
def tw16357714422125692852:=0
def tw16360197441651222223:=0
def tw16360859741306276543:=0
def tw16382027746201830991:=0
def tw16418695262886250614:=0
def tw16445010433487834156:=0
def tw16450965088210548713:=0
def tw16463581684681641006:=0
def tw16471055979901027294:=0
def tw16477743212802927683:=0
def tw16506956346792316360:=0
def tw16513777918903983528:=0
def tw16532245588690040971:=0
def tw16544542344618489392:=0
def tw16575818393109000249:=0
def tw16582542807179155781:=0
def tw1658962496511838389:=0
def tw1659298514641401201:=0
def tw16606242485456491194:=0
def tw16613304473696784732:=0
def tw1665722267177551011:=0
def tw16695665302527422068:=0
def tw16722521706633223113:=0
def tw16766422448571430837:=0
def tw16772633968102899497:=0
def tw16790933460537858234:=0
def tw1681169285027713168:=0
def tw16813410551842879255:=0
def tw1681646968150286951:=0
def tw16825412691440118759:=0
def tw16860692409096458556:=0
def tw16871111499438764230:=0
def tw1690342395105033553:=0
def tw16909947059430953875:=0
def tw16944256384146475941:=0
def tw1701919877164131603:=0
def tw17036360936084226297:=0
def tw17038040359756461177:=0
def tw1704690552772966482:=0
def tw17056108528852711634:=0
def tw17062619346312670906:=0
def tw17123485529624222382:=0
def tw1716598748334126643:=0
def tw17202886973374328271:=0
def tw1720349701220526160:=0
def tw17216704381331182825:=0
def tw1722444167205838698:=0
def tw17247446759937884577:=0
def tw17293584078656604291:=0
def tw17296406356820289098:=0
def tw17301013534989098557:=0
def tw17362839207226017118:=0
def tw17379954264545466738:=0
def tw17395266682203536154:=0
def tw17404941418253748653:=0
def tw1741846062803788027:=0
def tw17445635359402944252:=0
def tw17485947332072713100:=0
def tw17523728786302406039:=0
def tw1752624903348847879:=0
def tw17527511620312576005:=0
def tw17528392858586367652:=0
def tw17530344401518938030:=0
def tw17585343316314889203:=0
def tw17587059263035707845:=0
def tw17592423014618517869:=0
def tw176982645041179169:=0
def tw17735854591694974864:=0
def tw17784652831696995423:=0
def tw17786807524715942646:=0
def tw17805028872162657732:=0
def tw17809632359563356387:=0
def tw17823285367187134414:=0
def tw17838771911143063040:=0
def tw17847201599037738349:=0
def tw17927401969499594318:=0
def tw17956009531690845877:=0
def tw1795970851969333870:=0
def tw17983758508364935260:=0
def tw18091303817699449470:=0
def tw181245953728942454:=0
def tw18186664995709888800:=0
def tw18191312476712169182:=0
def tw18283269663129698257:=0
def tw18286930238337846515:=0
def tw18321948445780497317:=0
def tw18328358414305872433:=0
def tw18368243657674796270:=0
def tw18374018059617350841:=0
def tw18438066538784755695:=0
def tw18442863662610640448:=0
def tw1850135205150154366:=0
def tw1858486877551326222:=0
def tw1869739137059775820:=0
def tw1876009024635800869:=0
def tw1885884287929716663:=0
def tw1922319463632613487:=0
def tw1986607068809865311:=0
def tw1987710277206817019:=0
def tw1996144663541882953:=0
def tw2017821953455156187:=0
def tw2019539259855516045:=0
def tw2089927202275040458:=0
def tw2119033408519472114:=0
def tw214757261915880844:=0
def tw2152180068453322643:=0
def tw2181194768881322306:=0
def tw218853796911502704:=0
def tw2244466903944605774:=0
def tw225285557288771075:=0
def tw2256283034246384878:=0
def tw2287119532801176133:=0
def tw2310416629800017787:=0
def tw231051144979900446:=0
def tw2320032110464116163:=0
def tw2323167011465514639:=0
def tw2340531172222208605:=0
def tw2351810635901199444:=0
def tw2381011034800619840:=0
def tw24032491565347050:=0
def tw241602347776942000:=0
def tw242572545819124894:=0
def tw245278461516387588:=0
def tw2489801826534524451:=0
def tw2504746653706392583:=0
def tw2535346666720958668:=0
def tw254437638589863897:=0
def tw2579681136122206376:=0
def tw2641216763725728547:=0
def tw2641989174501458214:=0
def tw2657648781315357255:=0
def tw2672628248380682636:=0
def tw2709298227069906529:=0
def tw2748513504204613266:=0
def tw275515751996884009:=0
def tw2769374469889509436:=0
def tw2772375456627003402:=0
def tw2777109115500898622:=0
def tw2799455026404122818:=0
def tw2822490133306032003:=0
def tw2935417561489734325:=0
def tw2989671901887854642:=0
def tw3003082495823591400:=0
def tw3010226684034775491:=0
def tw3070092629392263039:=0
def tw3071531490292160855:=0
def tw3098333856048559017:=0
def tw3135290320528764631:=0
def tw315213483081355943:=0
def tw31755447445968641:=0
def tw3234499539533853906:=0
def tw3239715746128177470:=0
def tw3240076858319367394:=0
def tw3261896739805824307:=0
def tw3274936077031134324:=0
def tw3313355311545827250:=0
def tw3350459911673175424:=0
def tw3371657483784037634:=0
def tw340600147289099097:=0
def tw3406986413697585260:=0
def tw3417648250312275311:=0
def tw341804078229679555:=0
def tw3431154004418808239:=0
def tw3455265611383593788:=0
def tw3538894565296203598:=0
def tw354046516137445167:=0
def tw3549993530681686181:=0
def tw3567790321820176187:=0
def tw3648099929366069903:=0
def tw3649164053576011302:=0
def tw3651305050626698924:=0
def tw3660675715051123146:=0
def tw3665686540240708040:=0
def tw3675233621487741818:=0
def tw3702090307630520140:=0
def tw370302914712965148:=0
def tw3773398538890076143:=0
def tw3804646795678048502:=0
def tw3816379306963872502:=0
def tw3831391511931512367:=0
def tw383469643427679869:=0
def tw3846446868142654834:=0
def tw3859091486382785864:=0
def tw3917822752764390247:=0
def tw3947415589988707520:=0
def tw3954833170884952885:=0
def tw3955655276304583409:=0
def tw4077088524989622888:=0
def tw4093162804645609315:=0
def tw4113332353046752138:=0
def tw4124609933341435882:=0
def tw4130306664049230772:=0
def tw4130526327952736931:=0
def tw4137781573402331766:=0
def tw417058101576523641:=0
def tw417820392868262620:=0
def tw4193757797926571670:=0
def tw4197690785617878707:=0
def tw4281305733566230495:=0
def tw4282227636517187252:=0
def tw4311084967766978330:=0
def tw4338999881381239809:=0
def tw4353197409494710420:=0
def tw4367604107245240310:=0
def tw4394381794343067176:=0
def tw4406704242777233095:=0
def tw4416995893297195054:=0
def tw4420823431670371331:=0
def tw4439246750869878839:=0
def tw4440831958557019713:=0
def tw449451520813907758:=0
def tw4556032417943303344:=0
def tw458624446607771931:=0
def tw4601843251889340442:=0
def tw4631111182010192674:=0
def tw4642866893851452817:=0
def tw4656716983670509973:=0
def tw4706965025949678194:=0
def tw4709924779030631663:=0
def tw4712904786397113483:=0
def tw4713482601588723671:=0
def tw4722083195067319104:=0
def tw4773126369685308284:=0
def tw4836915542823182285:=0
def tw4844204553415674910:=0
def tw4848250195563176686:=0
def tw4863312176540928442:=0
def tw487446681342989652:=0
def tw4900156431496933977:=0
def tw4914266200726445988:=0
def tw4923576674112265058:=0
def tw4924975101612323060:=0
def tw4930936005474135219:=0
def tw4967937035478060603:=0
def tw4968974848404392574:=0
def tw4991191640120586690:=0
def tw5038183688698860218:=0
def tw5049272905219682405:=0
def tw5089437805505608800:=0
def tw5130228772637260763:=0
def tw5181268452068748570:=0
def tw5196799478490275672:=0
def tw5248057433276347222:=0
def tw5267783789972905425:=0
def tw527037862123125653:=0
def tw5285490417930644703:=0
def tw5307724705779910845:=0
def tw5346966532037151133:=0
def tw5426438355337934957:=0
def tw5434880122402078906:=0
def tw545706201035030774:=0
def tw5463028484871925106:=0
def tw5485156697877553983:=0
def tw54967394498106757:=0
def tw5509936114910457645:=0
def tw5533136429921228889:=0
def tw5553598939308577528:=0
def tw5638301492920051394:=0
def tw5697367263229386736:=0
def tw5708534490528463560:=0
def tw572715517553182605:=0
def tw5759765030793037420:=0
def tw5763318325098655249:=0
def tw576859097492234435:=0
def tw577890840459883634:=0
def tw5782346379384438191:=0
def tw580584949759012257:=0
def tw5844367413426740760:=0
def tw5854044603273821275:=0
def tw5868309367694080768:=0
def tw5960109131051137418:=0
def tw5976777258770739220:=0
def tw597728674918193883:=0
def tw5980825901929244701:=0
def tw5998904861460443031:=0
def tw6012024252982504658:=0
def tw6121366918026027083:=0
def tw6139051623671300303:=0
def tw6140782205978174023:=0
def tw6144292906805597571:=0
def tw6172338710691635267:=0
def tw6229022879882395269:=0
def tw6250077557920395143:=0
def tw6273219811821827904:=0
def tw6290150536191731530:=0
def tw6296847950904455068:=0
def tw6344336943550675345:=0
def tw6356669574845329781:=0
def tw6403424128012624155:=0
def tw6406310593259020293:=0
def tw6440747043042232181:=0
def tw6455984903627403610:=0
def tw6459458572766044836:=0
def tw6497214834252071381:=0
def tw6516080406288627541:=0
def tw6565631980089114261:=0
def tw6578378780167918074:=0
def tw6617328452877285049:=0
def tw6624080831990042515:=0
def tw6636320753516998602:=0
def tw6646761797048904264:=0
def tw6720726139565698144:=0
def tw6750022521470500740:=0
def tw677397373247511861:=0
def tw678910813771743094:=0
def tw6817440399151035980:=0
def tw6851162587661093711:=0
def tw6865625551340868523:=0
def tw6903537479989301747:=0
def tw6943131248118099723:=0
def tw6967160602721049395:=0
def tw6968068923421077074:=0
def tw6977184363662069434:=0
def tw7042415388761705472:=0
def tw7092641022616912872:=0
def tw7169964155861097501:=0
def tw7221065234539738091:=0
def tw7229629927133293301:=0
def tw7256605408978730077:=0
def tw7259213826519827186:=0
def tw7291777060830612100:=0
def tw7320357597779035359:=0
def tw7325554635216068007:=0
def tw7330979648692507314:=0
def tw7343104825912818616:=0
def tw7445062908363699718:=0
def tw7454091743596141942:=0
def tw7479557836849397821:=0
def tw7508079338244120299:=0
def tw7562505752144080731:=0
def tw7657864779170495235:=0
def tw7690243008390040590:=0
def tw7710684326558962068:=0
def tw7750473499334385681:=0
def tw7752907300088718089:=0
def tw7834500699896046590:=0
def tw7861162134972448401:=0
def tw7873127322191061312:=0
def tw7944879653403507803:=0
def tw794691996977389955:=0
def tw7966914896670273808:=0
def tw7979761148300634934:=0
def tw8042941353899254039:=0
def tw8051624890860986827:=0
def tw8142216527234779811:=0
def tw8161581524387014841:=0
def tw8190232366735161241:=0
def tw8231259661863802508:=0
def tw8244823901421938571:=0
def tw8250528766989449228:=0
def tw8280491384954516436:=0
def tw8323337164465282574:=0
def tw8357687738875473379:=0
def tw8366497349176320262:=0
def tw8391506357132877995:=0
def tw839922330307815806:=0
def tw8404153552267907617:=0
def tw841517519161582764:=0
def tw844434446126446422:=0
def tw8455379507305121742:=0
def tw8461886836154781265:=0
def tw8473664276325155424:=0
def tw8479969795785459172:=0
def tw8521833298303043871:=0
def tw8536422877332596748:=0
def tw8541316741032093699:=0
def tw8578666923923098755:=0
def tw8586483858070944126:=0
def tw8631111868896150405:=0
def tw8648037021690257133:=0
def tw8667654168327407683:=0
def tw868668636587937734:=0
def tw8702096211909159250:=0
def tw8720696074096157654:=0
def tw8730103782669098197:=0
def tw8790897490698379669:=0
def tw8814441175763199339:=0
def tw8837198764617023612:=0
def tw8841550933086022859:=0
def tw8902420967540422587:=0
def tw8922800464590255896:=0
def tw8980096045048904308:=0
def tw8985375096400204003:=0
def tw8989273820398199186:=0
def tw9003555560859375278:=0
def tw9043737526713992719:=0
def tw9082818702209646727:=0
def tw9097318857234413557:=0
def tw9118187761257972819:=0
def tw9181544461380230794:=0
def tw9181681954371003897:=0
def tw9186929585285347296:=0
def tw919918236698267320:=0
def tw9207269018890488672:=0
def tw922749150099070314:=0
def tw9238069218514254821:=0
def tw9280021195367824952:=0
def tw9312237207967559547:=0
def tw9313191509575603353:=0
def tw9324972776879107033:=0
def tw9396996644189584649:=0
def tw94196275573773580:=0
def tw9426110096118089225:=0
def tw9433065478940913352:=0
def tw944151141589414558:=0
def tw9446654319177322776:=0
def tw9454826396598853994:=0
def tw9461618948151026933:=0
def tw9464101930760446099:=0
def tw9485550790653375363:=0
def tw9493748691142569702:=0
def tw9500046600510183661:=0
def tw9516547071094374032:=0
def tw9535126927125110023:=0
def tw954579852356824462:=0
def tw9548678286257574147:=0
def tw9561781564110991141:=0
def tw9590779151211814275:=0
def tw9603869876322216532:=0
def tw9610410190802046712:=0
def tw9616680836453269852:=0
def tw9645405628582011337:=0
def tw9648216366687960829:=0
def tw9654551007791014619:=0
def tw9655609028734611632:=0
def tw9699125795928196476:=0
def tw9700988552177062243:=0
def tw9707931181033045832:=0
def tw9766897473817452560:=0
def tw9784204088593140597:=0
def tw9784920988869664308:=0
def tw9787428448701509788:=0
def tw9791379893144595443:=0
def tw9809729953451624401:=0
def tw98176874339106181:=0
def tw9823523013057660379:=0
def tw9886365880470234937:=0
def tw9903075287841124055:=0
def tw9915450787618621879:=0
def tw9916873223442496755:=0
def tw9945051415980791939:=0
def tw9949325853324009053:=0
def tw9954159909738529146:=0
def tw9969807520327151819:=0
def tw9970330999886940651:=0
def tw9998425033138098855:=0
end PySem.W.Fast
open PySem PySem.W PyProof.Rows
set_option maxRecDepth 100000 in
set_option maxHeartbeats 0 in
theorem PySem.Challenge.cw_padwright_k63_whole_texts_of_looks_holds : PySem.Challenge.rw_padwright_k63_whole_texts_of_looks.Holds := by
 w_on;o_law;k_head;(case hw=>w_witness2)
 k_fill
 refine Pw.walk (l:=PySem.Challenge.rw_padwright_k63_whole_texts_of_looks) rfl rfl (fun w h Y=>PySem.W.kIn_of Y) ?F
 case F =>
  intro w mg fa h KX G hmg
  refine' Pw.all_mk KX G hmg ?a0 ?l0 ?c0 ?k0 ?a1 ?l1 ?c1 ?k1 ?a2 ?l2 ?c2 ?k2 ?a3 ?l3 ?c3 ?k3 ?a4 ?l4 ?c4 ?k4 ?a5 ?l5 ?c5 ?k5 ?a6 ?l6 ?c6 ?k6 ?a7 ?l7 ?c7 ?k7 ?a8 ?l8 ?c8 ?k8 ?a9 ?l9 ?c9 ?k9 ?a10 ?l10 ?c10 ?k10 ?a11 ?l11 ?c11 ?k11 ?a12 ?l12 ?c12 ?k12 ?a13 ?l13 ?c13 ?k13 ?a14 ?l14 ?c14 ?k14 ?a15 ?l15 ?c15 ?k15 ?a16 ?l16 ?c16 ?k16 ?a17 ?l17 ?c17 ?k17 ?a18 ?l18 ?c18 ?k18 ?a19 ?l19 ?c19 ?k19 ?a20 ?l20 ?c20 ?k20 ?a21 ?l21 ?c21 ?k21 ?a22 ?l22 ?c22 ?k22 ?a23 ?l23 ?c23 ?k23 ?a24 ?l24 ?c24 ?k24 ?a25 ?l25 ?c25 ?k25 ?a26 ?l26 ?c26 ?k26 ?a27 ?l27 ?c27 ?k27 ?a28 ?l28 ?c28 ?k28 ?a29 ?l29 ?c29 ?k29 ?a30 ?l30 ?c30 ?k30 ?a31 ?l31 ?c31 ?k31 ?a32 ?l32 ?c32 ?k32 ?a33 ?l33 ?c33 ?k33 ?a34 ?l34 ?c34 ?k34 ?a35 ?l35 ?c35 ?k35 ?a36 ?l36 ?c36 ?k36 ?a37 ?l37 ?c37 ?k37 ?a38 ?l38 ?c38 ?k38 ?a39 ?l39 ?c39 ?k39 ?a40 ?l40 ?c40 ?k40 ?a41 ?l41 ?c41 ?k41 ?a42 ?l42 ?c42 ?k42 ?a43 ?l43 ?c43 ?k43 ?a44 ?l44 ?c44 ?k44 ?a45 ?l45 ?c45 ?k45 ?a46 ?l46 ?c46 ?k46 ?a47 ?l47 ?c47 ?k47 ?a48 ?l48 ?c48 ?k48 ?a49 ?l49 ?c49 ?k49 ?a50 ?l50 ?c50 ?k50 ?a51 ?l51 ?c51 ?k51 ?a52 ?l52 ?c52 ?k52 ?a53 ?l53 ?c53 ?k53 ?a54 ?l54 ?c54 ?k54 ?a55 ?l55 ?c55 ?k55 ?a56 ?l56 ?c56 ?k56 ?a57 ?l57 ?c57 ?k57 ?a58 ?l58 ?c58 ?k58 ?a59 ?l59 ?c59 ?k59 ?a60 ?l60 ?c60 ?k60 ?a61 ?l61 ?c61 ?k61 ?a62 ?l62 ?c62 ?k62 ?a63 ?l63 ?c63 ?k63 ?a64 ?l64 ?c64 ?k64 ?a65 ?l65 ?c65 ?k65 ?a66 ?l66 ?c66 ?k66 ?a67 ?l67 ?c67 ?k67 ?a68 ?l68 ?c68 ?k68 ?a69 ?l69 ?c69 ?k69 ?a70 ?l70 ?c70 ?k70 ?a71 ?l71 ?c71 ?k71 ?a72 ?l72 ?c72 ?k72 ?a73 ?l73 ?c73 ?k73 ?vAA ?vAB ?vAC ?vAD ?vAE ?vAF ?vAG ?vAH ?vAI ?vAJ ?vAK ?vAL ?vAM ?vAN ?vAO ?vAP ?vAQ ?vAR ?vAS ?vAT ?vAU ?vAV ?vAW ?vAX ?vAY ?vAZ ?vAa ?vAb ?vAc ?vAd ?vAe ?vAf ?vAg ?vAh ?vAi ?vAj ?vAk ?vAl ?vAm ?vAn ?vAo ?vAp ?vAq ?vAr ?vAs ?vAt ?vAu ?vAv ?vAw ?vAx ?vAy ?vAz ?vA0 ?vA1 ?vA2 ?vA3 ?vA4 ?vA5 ?vA6 ?vA7 ?vA8 ?vA9 ?vBA ?vBB ?vBC ?vBD ?vBE ?vBF ?vBG ?vBH ?vBI ?vBJ ?sty ?xg ?xf ?xc ?xb ?ihn ?iht ?nha ?nhm ?nk1 ?nk2 ?wha ?whm ?wk1 ?wk2 ?cha ?chm ?ck1 ?ck2 ?vBK ?vBL ?vBM ?vBN ?vBO ?vBP ?vBQ ?vBR ?vBS ?vBT ?vBU ?vBV ?vBW ?vBX ?vBY ?vBZ ?vBa ?vBb ?vBc ?vBd ?vBe ?vBf ?vBg ?vBh ?vBi ?vBj ?vBk ?vBl ?vBm ?vBn ?vBo ?vBp ?vBq ?vBr ?vBs ?vBt ?vBu ?vBv ?vBw ?vBx ?vBy ?vBz ?vB0 ?vB1 ?vB2 ?vB3 ?vB4 ?vB5 ?vB6 ?vB7 ?vB8 ?vB9 ?vCA ?vCB ?vCC ?vCD ?vCE ?vCF ?vCG ?vCH ?vCI ?vCJ ?vCK ?vCL ?vCM ?vCN ?vCO ?vCP ?vCQ ?vCR ?vCS ?vCT ?vCU ?vCV ?vCW ?vCX ?vCY ?vCZ ?vCa ?vCb ?vCc ?vCd ?vCe ?vCf ?vCg ?vCh ?vCi ?vCj ?vCk ?vCl ?vCm ?vCn ?vCo ?vCp
  (case vAR|vAS|vAT|vAU|vAV|vAW|vAX|vAY|vAZ|vAa|a0|l0|c0|k0|a1|l1|c1|k1|a2|l2|c2|k2|a3|l3|c3|k3|a4|l4|c4|k4|a5|l5|c5|k5|a6|l6|c6|k6|a7|l7|c7|k7|a8|l8|c8|k8|a9|l9|c9|k9|a10|l10|c10|k10|a11|l11|c11|k11|a12|l12|c12|k12|a13|l13|c13|k13|a14|l14|c14|k14|a15|l15|c15|k15|a16|l16|c16|k16|a17|l17|c17|k17|a18|l18|c18|k18|a19|l19|c19|k19|a20|l20|c20|k20|a21|l21|c21|k21|a22|l22|c22|k22|a23|l23|c23|k23|a24|l24|c24|k24|a25|l25|c25|k25|a26|l26|c26|k26|a27|l27|c27|k27|a28|l28|c28|k28|a29|l29|c29|k29|a30|l30|c30|k30|a31|l31|c31|k31|a32|l32|c32|k32|a33|l33|c33|k33|a34|l34|c34|k34|a35|l35|c35|k35|a36|l36|c36|k36|a37|l37|c37|k37|a38|l38|c38|k38|a39|l39|c39|k39|a40|l40|c40|k40|a41|l41|c41|k41|a42|l42|c42|k42|a43|l43|c43|k43|a44|l44|c44|k44|a45|l45|c45|k45|a46|l46|c46|k46|a47|l47|c47|k47|a48|l48|c48|k48|a49|l49|c49|k49|a50|l50|c50|k50|a51|l51|c51|k51|a52|l52|c52|k52|a53|l53|c53|k53|a54|l54|c54|k54|a55|l55|c55|k55|a56|l56|c56|k56|a57|l57|c57|k57|a58|l58|c58|k58|a59|l59|c59|k59|a60|l60|c60|k60|a61|l61|c61|k61|a62|l62|c62|k62|a63|l63|c63|k63|a64|l64|c64|k64|a65|l65|c65|k65|a66|l66|c66|k66|a67|l67|c67|k67|a68|l68|c68|k68|a69|l69|c69|k69|a70|l70|c70|k70|a71|l71|c71|k71|a72|l72|c72|k72|a73|l73|c73|k73|vAA|vAB|vAC|vAD|vAE|vAF|vAG|vAH|vAI|vAJ|vAK|vAL|vAM|vAN|vAO|vAP|vAQ=>first | k_is | (show _=_;k_is))
  (case vAb=>k_exc)
  (case vAc|vAd|vAe|vAf|vAg|vAh|vAi|vAj=>first | k_is | (show _=_;k_is))
  (case vAk=>k_exc)
  (case vAl|vAm|vAn|vAo|vAp|vAq|vAr|vAs=>first | k_is | (show _=_;k_is))
  (case vAt=>k_exc)
  (case vAu|vAv|vAw|vAx|vAy|vAz|vA0|vA1=>first | k_is | (show _=_;k_is))
  (case vA2=>k_exc)
  (case vA3|vA4|vA5|vA6|vA7|vA8|vA9|vBA=>first | k_is | (show _=_;k_is))
  (case vBB=>k_exc)
  (case vBC|vBD|vBE|vBF|vBG|vBH|vBI|vBJ=>first | k_is | (show _=_;k_is))
  (case sty=>(refine' L2.sty_mk ?d ?hp0 ?ha0 ?hb0 ?hp1 ?ha1 ?hb1 ?hp2 ?ha2 ?hb2 ?hp3 ?ha3 ?hb3 ?hp4 ?ha4 ?hb4);(case d=>k_is);(case hp0=>k_is);(case ha0=>k_is);(case hb0=>k_is);(case hp1=>k_is);(case ha1=>k_is);(case hb1=>k_is);(case hp2=>k_is);(case ha2=>k_is);(case hb2=>k_is);(case hp3=>k_is);(case ha3=>k_is);(case hb3=>k_is);(case hp4=>k_is);(case ha4=>k_is);(case hb4=>k_is))
  (case xg=>kts_exm)
  (case xf=>kts_exm)
  (case xc=>kts_exm)
  (case xb=>kts_exm)
  (case ihn|iht|nha|nhm=>first | k_is | (show _=_;k_is))
  (case nk1=>kit_is)
  (case nk2=>kit_is)
  (case wha|whm=>first | k_is | (show _=_;k_is))
  (case wk1=>kit_is)
  (case wk2=>kit_is)
  (case cha|chm=>first | k_is | (show _=_;k_is))
  (case ck1=>kit_is)
  (case ck2=>kit_is)
  (case vBK|vBL|vBM|vBN|vBO|vBP|vBQ|vBR|vBS|vBT|vBU|vBV|vBW|vBX|vBY|vBZ|vBa|vBb|vBc|vBd|vBe|vBf|vBg|vBh|vBi|vBj|vBk|vBl|vBm|vBn|vBo|vBp|vBq|vBr|vBs|vBt|vBu|vBv|vBw|vBx|vBy|vBz|vB0|vB1|vB2|vB3|vB4|vB5|vB6|vB7|vB8|vB9|vCA|vCB|vCC|vCD|vCE|vCF|vCG|vCH|vCI|vCJ|vCK|vCL|vCM|vCN|vCO|vCP|vCQ|vCR|vCS|vCT|vCU|vCV|vCW|vCX|vCY|vCZ|vCa|vCb|vCc|vCd|vCe|vCf|vCg|vCh|vCi|vCj|vCk|vCl|vCm|vCn|vCo|vCp=>first | k_is | (show _=_;k_is))

import PyProof.Rows.All
import KE.KDictList
import KE.KFromBytes
import KE.KItem
import KE.KNestM
import KE.KTryMore
import KE.RegKIsAll
import KE.RegKTryMore
import Wide.FinOn
import PyProof.Rows.ZipGen
import PyProof.Rows.FactsT2
import PySem.Challenge.RW_padwright_k45_values_for_a_text
set_option Elab.async false
set_option linter.all false
set_option maxRecDepth 100000
set_option compiler.extract_closed false
local macro_rules | `(tactic|omega)=>`(tactic|first|decide|lia|omega (config:={}))
namespace L2
open PySem PySem.Spec PyProof.Rows
open List (length_cons mem_append_right mem_cons_of_mem)
open Nat (le_refl le_trans lt_irrefl lt_of_lt_of_le ne_of_lt zero_le)
abbrev Key:=Sum Int Str
def zHE:Key->Value->Bool
 | .inl k,v=>Value.isInt k v
 | .inr x,v=>Value.isStrOf x v
def zJ5 (w:World):Key->Int
 | .inl k=>hashInt k
 | .inr x=>hashStr w x
theorem qN : ∀ {k:Key} {v:Value},zHE k v=true->(∃ i t,k=Sum.inl i/\v=Value.int i t)\/(∃ x t,k=Sum.inr x/\v=Value.str x t)
 | .inl i,v,h=>by
  obtain ⟨t,e⟩:=Value.isInt_shape (k:=i) (v:=v) h
  exact .inl ⟨i,t,rfl,e⟩
 | .inr x,v,h=>by
  obtain ⟨t,e⟩:=Value.isStrOf_shape (x:=x) (v:=v) h
  exact .inr ⟨x,t,rfl,e⟩
theorem zFO (a b:Int):decide ((Sum.inl a:Key)=Sum.inl b)=(a == b):=by
 by_cases e:a=b
 ·subst e;simp
 ·have h : ¬ (Sum.inl a:Key)=Sum.inl b:=fun q=>e (Sum.inl.inj q)
  rw [decide_eq_false h]
  exact (beq_eq_false_iff_ne.mpr e).symm
theorem zGM (a b:Str):decide ((Sum.inr a:Key)=Sum.inr b)=decide (a=b):=by
 by_cases e:a=b
 ·subst e;simp
 ·have h : ¬ (Sum.inr a:Key)=Sum.inr b:=fun q=>e (Sum.inr.inj q)
  rw [decide_eq_false h,decide_eq_false e]
theorem zGG (a:Int) (b:Str):decide ((Sum.inl a:Key)=Sum.inr b)=false:=decide_eq_false (fun q=>nomatch q)
theorem zHt (a:Str) (b:Int):decide ((Sum.inr a:Key)=Sum.inl b)=false:=decide_eq_false (fun q=>nomatch q)
def zBL (prog:Program) (w:World):PySem.KeyKind prog w Key where
 is:=zHE
 hash:=zJ5 w
 inj:=fun v a b ha hb=>by
  rcases qN ha with ⟨i,t,rfl,rfl⟩ | ⟨x,t,rfl,rfl⟩
  ·rcases qN hb with ⟨j,u,rfl,e⟩ | ⟨y,u,rfl,e⟩
   ·injection e with e1 _;rw [e1]
   ·exact nomatch e
  ·rcases qN hb with ⟨j,u,rfl,e⟩ | ⟨y,u,rfl,e⟩
   ·exact nomatch e
   ·injection e with e1 _;rw [e1]
 byValue:=fun k v h=>by
  rcases qN h with ⟨i,t,rfl,rfl⟩ | ⟨x,t,rfl,rfl⟩ <;> rfl
 pyHash:=fun hv h=>by
  rcases qN hv with ⟨i,t,rfl,rfl⟩ | ⟨x,t,rfl,rfl⟩
  ·exact wpAny_pyHash_int h
  ·exact wpAny_pyHash_str h
 eqBool:=fun hu hv h=>by
  rcases qN hu with ⟨i,t,rfl,rfl⟩ | ⟨x,t,rfl,rfl⟩
  ·rcases qN hv with ⟨j,u,rfl,rfl⟩ | ⟨y,u,rfl,rfl⟩
   ·rw [zFO] at h;exact wpAny_eqBool_int h
   ·rw [zGG] at h;exact SeqAt.EqAt.int_str i t y u _ _ _ _ h
  ·rcases qN hv with ⟨j,u,rfl,rfl⟩ | ⟨y,u,rfl,rfl⟩
   ·rw [zHt] at h;exact SeqAt.EqAt.str_int x t j u _ _ _ _ h
   ·rw [zGM] at h;exact wpAny_eqBool_str h
 «strs» := fun k x t v h=>by
  rcases qN h with ⟨i,u,rfl,e⟩ | ⟨y,u,rfl,e⟩
  ·exact nomatch e
  ·injection e with e1 _
   subst e1
   cases v <;> rfl
inductive V where
 | non | bl (b:Bool) | int (i:Int) | str (x:Str) | byt (b:Array UInt8) | flt (b:UInt64) | ref (a:Addr) | ty (n:String)
 deriving DecidableEq
def jX:V->Value->Prop
 | .non,u=>u=Value.none
 | .bl b,u=>u=Value.bool b
 | .int i,u=>∃ t,u=Value.int i t
 | .str x,u=>∃ t,u=Value.str x t
 | .byt b,u=>∃ t,u=Value.bytes b t
 | .flt b,u=>∃ t,u=Value.float b t
 | .ref a,u=>u=Value.ref a
 | .ty n,u=>u=Value.type n
abbrev qE:List V->List Value->Prop:=Paired jX
variable {xs:List V} {us:List Value}
theorem qE.length (r:qE xs us):xs.length=us.length:=Paired.length r
theorem qE.get : ∀ {xs:List V} {us:List Value} {i:Nat} {x:V},qE xs us->xs[i]? = some x -> ∃ u,us[i]? = some u/\jX x u
 | _,_,_,_,.nil,e=>by simp at e
 | _,_,0,_,.cons r _,e=>by simp at e;subst e;exact ⟨_,rfl,r⟩
 | _,_,i+1,x,.cons _ t,e=>by
  obtain ⟨u,h1,h2⟩:=qE.get (i:=i) (x:=x) t (by simpa using e)
  exact ⟨u,by simpa using h1,h2⟩
theorem qE.set {x:V} {u:Value} (r:jX x u) : ∀ {xs:List V} {us:List Value} (i:Nat),qE xs us->qE (xs.set i x) (us.set i u)
 | _,_,_,.nil=>.nil
 | _,_,0,.cons _ t=>.cons r t
 | _,_,i+1,.cons q t=>.cons q (qE.set r i t)
theorem qE.append : ∀ {xs ys:List V} {us ws:List Value},qE xs us->qE ys ws->qE (xs++ys) (us++ws)
 | _,_,_,_,.nil,s=>s
 | _,_,_,_,.cons r t,s=>.cons r (qE.append t s)
theorem qE.take : ∀ {xs:List V} {us:List Value} (n:Nat),qE xs us->qE (xs.take n) (us.take n)
 | _,_,0,_=>.nil
 | _,_,_+1,.nil=>.nil
 | _,_,n+1,.cons r t=>.cons r (qE.take n t)
theorem qE.drop : ∀ {xs:List V} {us:List Value} (n:Nat),qE xs us->qE (xs.drop n) (us.drop n)
 | _,_,0,r=>r
 | _,_,_+1,.nil=>.nil
 | _,_,n+1,.cons _ t=>qE.drop n t
theorem qE.none_of : ∀ {xs:List V} {us:List Value} {i:Nat},qE xs us->xs[i]? = none->us[i]? = none:=fun {xs us i} r e=>by
 have h1:=r.length
 have h2:xs.length<=i:=List.getElem?_eq_none_iff.mp e
 exact List.getElem?_eq_none_iff.mpr (by omega)
def K3:Option V->Option Value->Prop
 | some v,some u=>jX v u
 | none,none=>True
 | _,_=>False
def KV {κ:Type}:List (κ × V)->List (κ × Value)->Prop:=Paired fun (p:κ × V) (q:κ × Value)=>p.1=q.1/\jX p.2 q.2
def kV:Key->V
 | .inl i=>.int i
 | .inr x=>.str x
inductive HO where
 | lst (xs:List V)
 | tup (xs:List V)
 | dK (kvs:List (Key × V)) | dT (kvs:List (List Key × V))
 | set (S:Int->Bool) (n:Nat)
 | ins (C dx:Addr) (fs:List (Str × V))
 | own (x:Addr)
 | xd (fs:List (Str × V))
 | met (f x:Addr)
 | rng (lo hi:Int)
 | frz (o:Obj) (u:HO)
 | tbl (ps:Array Value)
 | ext (φ:Heap->Prop)
abbrev Hp:=Addr->Option HO
def upd (H:Hp) (a:Addr) (o:HO):Hp:=fun b=>if b=a then some o else H b
variable {H:Hp} {a:Addr} {o:HO}
theorem zS:upd H a o a=some o:=by unfold upd;rw [if_pos rfl]
theorem ze {b:Addr} (h:b≠a):upd H a o b=H b:=by unfold upd;rw [if_neg h]
variable {u:HO}
theorem ql:upd (upd H a o) a u=upd H a u:=by
 funext b;unfold upd;split <;> rfl
theorem za {b:Addr} (h:H a=some o) (h':H b=none):a≠b:=by
 intro e;subst e;rw [h] at h';cases h'
section
variable (P : Program) (w : World)
def jQ (H:Hp) (h:Heap) (a:Addr):HO->Prop
 | .lst xs=>xs.length<=sizeLine /\ ∃ (its:List Value) (n:Nat),qE xs its/\h.get? a=some { cls:=.type "list", data:=.seq its.toArray n }
 | .tup xs=>xs.length<=sizeLine /\ ∃ its:List Value,qE xs its/\IsTup h a its.toArray
 | .dK kvs=>kvs.length<=sizeLine/\(a == sysModules)=false /\ ∃ vs,KV kvs vs/\h.DictOf (zBL P w) a vs
 | .dT kvs=>kvs.length<=sizeLine/\(a == sysModules)=false /\ ∃ xs:List (List Key × Addr × Value),
   Paired (fun (p:List Key × V) (q:List Key × Addr × Value)=>p.1=q.1/\H q.2.1=some (.tup (p.1.map kV))/\jX p.2 q.2.2) kvs xs /\
   ∃ o es ep,h.get? a=some o/\o.ExactDict/\o.data = .dict es ep/\es.toList=xs.map (entryOfKey (tupleKind (zBL P w)))/\(xs.map (·.1)).Nodup
 | .set S n=>h.SetOf (intKind P w) a S n
 | .ins C dx fs=>H dx=some (.own a)/\fs.length<=1000/\dx≠a/\h.get? a=some (W.instObj C dx) /\
   ∃ mA,h.Ns1 dx mA/\(∀ f,K3 (fs.lookup f) (mA f))/\PySem.Within mA (fs.map (·.1))
 | .own _=>∃ o,h.get? a=some o
 | .xd fs=>∃ mA,h.Ns1 a mA /\ ∀ f,K3 (fs.lookup f) (mA f)
 | .rng lo hi=>∃ t u v,h.get? a=some { cls:=.type "range", data:=.fields #[.int lo t,.int hi u,.int 1 v] }
 | .frz o u=>h.get? a=some o/\jQ H h a u
 | .tbl ps=>h.get? a=some { cls:=.none,data:=.fields ps }
 | .met f x=>h.get? a=some (W.methodObj (.ref f) (.ref x))
 | .ext φ=>φ h/\(∃ o,h.get? a=some o) /\ ∀ h1 h2:Heap,φ h1->(∀ o,h1.get? a=some o->h2.get? a=some o)->φ h2
def HOk (H:Hp) (h:Heap):Prop:=∀ a o,H a=some o->jQ P w H h a o
end
section
variable {P : Program} {w : World} {H H' : Hp} {h h' : Heap} {a : Addr} {o : HO}
theorem jQ.lt (x:jQ P w H h a o):a < h.objs.size:=by
 cases o with
 | lst xs=>obtain ⟨_,_,_,_,e⟩:=x;exact Heap.lt_size e
 | tup xs=>obtain ⟨_,_,_,p⟩:=x;exact p.lt
 | dK kvs=>obtain ⟨_,_,_,_,o,_,_,e,_⟩:=x;exact Heap.lt_size e
 | dT kvs=>obtain ⟨_,_,_,_,o,_,_,e,_⟩:=x;exact Heap.lt_size e
 | set S n=>obtain ⟨o,_,_,_,e,_⟩:=x;exact Heap.lt_size e
 | ins C dx fs=>obtain ⟨_,_,_,e,_⟩:=x;exact Heap.lt_size e
 | own y=>obtain ⟨_,e⟩:=x;exact Heap.lt_size e
 | xd fs=>obtain ⟨_,⟨_,_,_,e,_⟩,_⟩:=x;exact Heap.lt_size e
 | rng lo hi=>obtain ⟨_,_,_,e⟩:=x;exact Heap.lt_size e
 | frz ob u=>obtain ⟨e,_⟩:=x;exact Heap.lt_size e
 | tbl ps=>exact Heap.lt_size (show h.get? a=some _ from x)
 | met f y=>exact Heap.lt_size (show h.get? a=some _ from x)
 | ext φ=>obtain ⟨_,⟨_,e⟩,_⟩:=x;exact Heap.lt_size e
theorem Paired.mapP {α β:Type} {F G:α->β->Prop} : ∀ {l₁:List α} {l₂:List β},Paired F l₁ l₂->(∀ a b,F a b->G a b)->Paired G l₁ l₂
 | _,_,.nil,_=>.nil
 | _,_,.cons r t,f=>.cons (f _ _ r) (Paired.mapP t f)
theorem jQ.stay (x:jQ P w H h a o) (k : ∀ b u,(b=a\/H b=some (.own a))->h.get? b=some u->h'.get? b=some u)
  (ho : ∀ b,H b=some (.own a)->H' b=some (.own a)) (ht : ∀ b xs,H b=some (.tup xs)->H' b=some (.tup xs)):jQ P w H' h' a o:=by
 induction o with
 | lst xs=>obtain ⟨z,its,n,r,e⟩:=x;exact ⟨z,its,n,r,k _ _ (.inl rfl) e⟩
 | tup xs=>obtain ⟨z,its,r,ob,e,c⟩:=x;exact ⟨z,its,r,ob,k _ _ (.inl rfl) e,c⟩
 | dK kvs=>obtain ⟨z,y,vs,r,ob,es,ep,e,c⟩:=x;exact ⟨z,y,vs,r,ob,es,ep,k _ _ (.inl rfl) e,c⟩
 | dT kvs =>
  obtain ⟨z,y,xs,r,ob,es,ep,e,c⟩:=x
  exact ⟨z,y,xs,Paired.mapP r fun p q z=>⟨z.1,ht _ _ z.2.1,z.2.2⟩,ob,es,ep,k _ _ (.inl rfl) e,c⟩
 | set S n=>obtain ⟨ob,es,ep,t,e,c⟩:=x;exact ⟨ob,es,ep,t,k _ _ (.inl rfl) e,c⟩
 | ins C dx fs =>
  obtain ⟨d,z,ne,e,mA,⟨od,es,ep,e2,c⟩,r⟩:=x
  exact ⟨ho _ d,z,ne,k _ _ (.inl rfl) e,mA,⟨od,es,ep,k _ _ (.inr d) e2,c⟩,r⟩
 | own y=>obtain ⟨ob,e⟩:=x;exact ⟨ob,k _ _ (.inl rfl) e⟩
 | xd fs=>obtain ⟨mA,⟨od,es,ep,e,c⟩,r⟩:=x;exact ⟨mA,⟨od,es,ep,k _ _ (.inl rfl) e,c⟩,r⟩
 | rng lo hi=>obtain ⟨t,u,v,e⟩:=x;exact ⟨t,u,v,k _ _ (.inl rfl) e⟩
 | frz ob u ih=>obtain ⟨e,q⟩:=x;exact ⟨k _ _ (.inl rfl) e,ih q⟩
 | tbl ps =>
  have e:h.get? a=some { cls:=.none,data:=.fields ps }:=x
  show h'.get? a=some { cls:=.none,data:=.fields ps }
  exact k a _ (.inl rfl) e
 | met f y =>
  have e:h.get? a=some (W.methodObj (.ref f) (.ref y)):=x
  show h'.get? a=some (W.methodObj (.ref f) (.ref y))
  exact k a _ (.inl rfl) e
 | ext φ=>obtain ⟨p,⟨o,e⟩,st⟩:=x;exact ⟨st _ _ p fun o q=>k _ _ (.inl rfl) q,⟨o,k _ _ (.inl rfl) e⟩,st⟩
theorem HOk.lt (x:HOk P w H h) (e:H a=some o):a < h.objs.size:=(x a o e).lt
theorem HOk.fresh (x:HOk P w H h) (e:h.objs.size<=a):H a=none:=by
 cases q:H a with
 | none=>rfl
 | some u=>exact absurd (lt_of_lt_of_le (x.lt q) e) (lt_irrefl _)
theorem HOk.kept (x:HOk P w H h) (k : ∀ b u,h.get? b=some u->h'.get? b=some u):HOk P w H h':=fun a o e =>
 (x a o e).stay (fun b u _ q=>k b u q) (fun _ q=>q) fun _ _ q=>q
theorem HOk.laid (x:HOk P w H h) (k : ∀ b u,h.get? b=some u->h'.get? b=some u) (hp:h.objs.size<=a) (new:jQ P w (upd H a o) h' a o):HOk P w (upd H a o) h':=fun b u e=>by
 have hn:=x.fresh hp
 by_cases hb:b=a
 ·subst hb;rw [zS] at e;cases e;exact new
 ·rw [ze hb] at e
  exact (x b u e).stay (fun c v _ q=>k c v q) (fun c q=>by rw [ze (za q hn)];exact q) fun c xs q=>by rw [ze (za q hn)];exact q
end
def Rd (H:Hp) (a:Addr) (u:HO):Prop:=H a=some u \/ ∃ o,H a=some (.frz o u)
theorem Rd.of (h:H a=some u):Rd H a u:=.inl h
variable {P:Program} {w:World} {h:Heap}
theorem Rd.ok (r:Rd H a u) (x:HOk P w H h):jQ P w H h a u:=by
 rcases r with r | ⟨o,r⟩
 ·exact x a u r
 ·obtain ⟨_,q⟩:=x a _ r
  exact q
def Mut:Option HO->Prop
 | some (.lst _)=>True
 | some (.dK _)=>True
 | some (.dT _)=>True
 | some (.set _ _)=>True
 | some (.ins _ _ _)=>True
 | some (.ext _)=>True
 | _=>False
section
variable {P : Program} {w : World} {H : Hp} {h h' : Heap} {x e : Addr} {o' : HO}
theorem HOk.write (ok:HOk P w H h) (mu:Mut (H x)) (he:e=x\/H e=some (.own x)) (k : ∀ b u,b≠e->h.get? b=some u->h'.get? b=some u) (heo : ∃ u,h'.get? e=some u)
  (new:jQ P w (upd H x o') h' x o'):HOk P w (upd H x o') h':=fun b u q=>by
 have nown : ∀ c y,H c=some (.own y)->c≠x:=fun c y r z=>by subst z;rw [r] at mu;exact mu
 have ntup : ∀ c xs,H c=some (.tup xs)->c≠x:=fun c xs r z=>by subst z;rw [r] at mu;exact mu
 by_cases hb:b=x
 ·subst hb;rw [zS] at q;cases q;exact new
 ·rw [ze hb] at q
  by_cases hbe:b=e
  ·have q':H b=some (.own x):=by
    rcases he with z | z
    ·exact absurd (hbe.trans z) hb
    ·rw [hbe];exact z
   rw [q] at q';cases q'
   obtain ⟨v,hv⟩:=heo
   exact ⟨v,by rw [hbe];exact hv⟩
  ·refine (ok b u q).stay (fun c v hc r=>k c v ?_ r) (fun c r=>by rw [ze (nown c b r)];exact r) fun c xs r=>by rw [ze (ntup c xs r)];exact r
   rcases hc with rfl | hc
   ·exact hbe
   ·rintro rfl
    rcases he with z | z
    ·exact nown c b hc z
    ·rw [hc] at z;cases z;exact hb rfl
end
structure Un (fs ex:List Addr) (H H':Hp) (h h':Heap):Prop where
 keep : ∀ b o,h.get? b=some o->H b=none->b ∉ fs->b ∉ ex->h'.get? b=some o
 slot : ∀ b o,h.get? b=some o->H b=none->b ∈ fs->b ∉ ex -> ∃ sl,h'.get? b=some { o with slots:=sl }
 free : ∀ b o,h.get? b=some o->H b=none->b ∉ ex->H' b=none
 there : ∀ b o,h.get? b=some o->b ∉ ex -> ∃ o',h'.get? b=some o'
 tups : ∀ b xs,H b=some (.tup xs)->H' b=some (.tup xs)
 frzs : ∀ b o u,H b=some (.frz o u)->H' b=some (.frz o u)
 tbls : ∀ b ps,H b=some (.tbl ps) -> ∃ more,H' b=some (.tbl (ps++more))
section
variable {fs fs' ex ex' : List Addr} {H H1 H2 : Hp} {h h1 h2 h' : Heap} {a x e : Addr} {o : HO}
theorem Un.any (u:Un fs ex H H1 h h1) {b:Addr} {ob:Obj} (q:h.get? b=some ob) (n:H b=none) (hx:b ∉ ex) : ∃ sl,h1.get? b=some { ob with slots:=sl }:=by
 by_cases hb:b ∈ fs
 ·exact u.slot b ob q n hb hx
 ·exact ⟨ob.slots,u.keep b ob q n hb hx⟩
theorem Un.trans (a:Un fs ex H H1 h h1) (b:Un fs ex H1 H2 h1 h2):Un fs ex H H2 h h2 where
 keep:=fun c ob q n hc hx=>b.keep c ob (a.keep c ob q n hc hx) (a.free c ob q n hx) hc hx
 slot:=fun c ob q n hc hx=>by
  obtain ⟨sl,e1⟩:=a.slot c ob q n hc hx
  obtain ⟨sl',e2⟩:=b.slot c _ e1 (a.free c ob q n hx) hc hx
  exact ⟨sl',e2⟩
 free:=fun c ob q n hx=>by
  obtain ⟨o',e1⟩:=a.there c ob q hx
  exact b.free c o' e1 (a.free c ob q n hx) hx
 there:=fun c ob q hx=>by
  obtain ⟨o',e1⟩:=a.there c ob q hx
  exact b.there c o' e1 hx
 tups:=fun c xs q=>b.tups c xs (a.tups c xs q)
 frzs:=fun c ob xs q=>b.frzs c ob xs (a.frzs c ob xs q)
 tbls:=fun c ps q=>by
  obtain ⟨m1,e1⟩:=a.tbls c ps q
  obtain ⟨m2,e2⟩:=b.tbls c _ e1
  exact ⟨m1++m2,by rw [e2,Array.append_assoc]⟩
theorem Un.kept (k : ∀ b u,h.get? b=some u->h'.get? b=some u):Un fs ex H H h h':=
 ⟨fun b ob q _ _ _=>k b ob q,fun b ob q _ _ _=>⟨ob.slots,k b ob q⟩,fun _ _ _ n _=>n,fun b ob q _=>⟨ob,k b ob q⟩,fun _ _ q=>q,fun _ _ _ q=>q,fun _ ps q=>⟨#[],by rw [q];simp⟩⟩
theorem Un.refl:Un fs ex H H h h:=Un.kept fun _ _ q=>q
theorem Un.laid (k : ∀ b u,h.get? b=some u->h'.get? b=some u) (hp:h.objs.size<=a) (hn:H a=none):Un fs ex H (upd H a o) h h' where
 keep:=fun b u q _ _ _=>k b u q
 slot:=fun b u q _ _ _=>⟨u.slots,k b u q⟩
 free:=fun b u q n _=>by rw [ze (ne_of_lt (lt_of_lt_of_le (Heap.lt_size q) hp))];exact n
 there:=fun b u q _=>⟨u,k b u q⟩
 tups:=fun b xs q=>by rw [ze (za q hn)];exact q
 frzs:=fun b u xs q=>by rw [ze (za q hn)];exact q
 tbls:=fun b ps q=>⟨#[],by rw [ze (za q hn),q];simp⟩
theorem Un.write (mu:Mut (H x)) (he:e=x\/H e=some (.own x)) (k : ∀ b u,b≠e->h.get? b=some u->h'.get? b=some u) (heo : ∃ u,h'.get? e=some u):Un fs ex H (upd H x o) h h':=by
 have hx : ∀ b,H b=none->b≠x:=fun b n z=>by subst z;rw [n] at mu;exact mu
 have hb : ∀ b,H b=none->b≠e:=fun b n z=>by
  subst z
  rcases he with r | r
  ·exact hx b n r
  ·rw [n] at r;cases r
 have hm : ∀ b u,H b=some u -> ¬ Mut (some u)->b≠x:=fun b u q nm z=>by subst z;rw [q] at mu;exact nm mu
 refine ⟨fun b u q n _ _=>k b u (hb b n) q,fun b u q n _ _=>⟨u.slots,k b u (hb b n) q⟩,fun b u q n _=>by rw [ze (hx b n)];exact n,fun b u q _=>?_,
  fun b xs q=>by rw [ze (hm b _ q fun z=>z)];exact q,fun b u xs q=>by rw [ze (hm b _ q fun z=>z)];exact q,fun b ps q=>⟨#[],by rw [ze (hm b _ q fun z=>z),q];simp⟩⟩
 by_cases hbe:b=e
 ·subst hbe;exact heo
 ·exact ⟨u,k b u hbe q⟩
theorem Un.mono (u:Un fs ex H H1 h h1) (hs : ∀ b ∈ fs,b ∈ fs') (hx : ∀ b ∈ ex,b ∈ ex'):Un fs' ex' H H1 h h1:=
 ⟨fun b ob q n hb he=>u.keep b ob q n (fun z=>hb (hs b z)) fun z=>he (hx b z),fun _ _ q n _ he=>u.any q n fun z=>he (hx _ z),fun b ob q n he=>u.free b ob q n fun z=>he (hx b z),fun b ob q he=>u.there b ob q fun z=>he (hx b z),u.tups,u.frzs,u.tbls⟩
end
def trk (h:Heap) (H:Hp):List Addr:=(List.range h.objs.size).filter fun a=>(H a).isSome
def zCG (h:Heap) (H:Hp):Heap:=W.hideAll h (trk h H)
theorem Wt (h:Heap) (H:Hp):(zCG h H).objs.size=h.objs.size:=W.hideAll_size _ _
theorem zCP {b:Addr} {o:Obj} (e:h.get? b=some o) (n:H b=none):(zCG h H).get? b=some o:=
 W.hideAll_get _ e fun hm=>by
  have q:(H b).isSome=true:=(List.mem_filter.mp hm).2
  rw [n] at q;simp at q
theorem zDk {b:Addr} {o:Obj} (e:(zCG h H).get? b=some o):h.get? b=some o/\H b=none:=by
 have e':h.get? b=some o:=W.of_hideAll (trk h H) e
 refine ⟨e',?_⟩
 cases q:H b with
 | none=>rfl
 | some x =>
  have hm:b ∈ trk h H:=List.mem_filter.mpr ⟨List.mem_range.mpr (Heap.lt_size e'),by simp [q]⟩
  have z:(zCG h H).get? b=none:=W.hideAll_none (trk h H) hm
  rw [z] at e;cases e
def zDt (g h:Heap) (L:Addr):List (Addr × Obj):=(List.range h.objs.size).filterMap fun a=>if a=L\/(g.get? a).isSome=true then none else (h.get? a).map fun o=>(a,o)
def Zo (g h:Heap) (L d:Addr):List (Addr × Obj):=(zDt g h L).filter fun p=>decide (p.1≠d)
structure Mod (K:W.Frag) (mg:Str->Option Value) (base:Heap):Prop where
 kin:K.In base
 glob:base.Ns mainGlobals mg
 blt : ∃ mb,base.Ns builtinsNs mb /\ ∀ x:Str,x ≠ "__name__" -> mb x=bootBuiltins x
 nolimit:base.NoLimit
structure Cx where
 prog:Program
 w:World
 K:W.Frag
 mg:Str->Option Value
 base:Heap
 A:Around
 N:List Str
 s₀:Shared
 H₀:Hp
 env:Env
 outer:List Env
 stack:List Env
 ex:List Addr
 fn:Str->Bool
 calm:Bool
 pn:List (Addr × Obj)
 xe:Value->Shared->Prop
def frs (l:List Env):List Addr:=l.filterMap (·.frame)
abbrev Cx.fs (X:Cx):List Addr:=frs X.outer
def Vis (sc:Scope) (x:Str):Prop:=sc.names.lookup x=some .local\/sc.names.lookup x=some .cell\/sc.names.lookup x=some .free
def Loc (sc:Scope) (x:Str):Prop:=sc.names.lookup x=some .local\/sc.names.lookup x=some .cell
def zJ6 (env:Env) (h:Heap) (m:Str->Option Value) (x:Str) (u:Value):Prop:=
 (env.kindOf x=some .local/\m x=some u)\/((env.kindOf x=some .cell\/env.kindOf x=some .free) /\ ∃ c,env.cells.lookup x=some c/\h.IsCell c (some u))
structure Cx.Ok (X:Cx):Prop where
 mod:Mod X.K X.mg X.base
 kind:X.env.scope.kind = .function
 glob:X.env.globals=mainGlobals
 blt:X.env.builtins=builtinsNs
 above:X.s₀.heap.objs.size<=X.env.locals
 inj : ∀ x y c,X.env.cells.lookup x=some c->X.env.cells.lookup y=some c->x=y
 has : ∀ x,(X.env.kindOf x=some .cell\/X.env.kindOf x=some .free) -> ∃ c,X.env.cells.lookup x=some c
 cab : ∀ x c,X.fn x=true->X.env.cells.lookup x=some c->X.s₀.heap.objs.size<=c
 hd:X.calm=true->X.A.handled=none
 frames:X.A.frames=some X.stack
 stk:X.stack=X.outer\/(X.stack=X.env::X.outer/\X.env.frame=some X.env.locals)
 exf : ∀ b ∈ X.ex,b≠X.env.locals /\ ∀ x c,X.env.cells.lookup x=some c->c≠b
 bs : ∀ b o,X.base.get? b=some o->X.s₀.heap.get? b=some o/\X.H₀ b=none
 bsz:X.base.objs.size<=X.s₀.heap.objs.size
 noex : ∀ b o,X.base.get? b=some o->b ∉ X.ex
 exfs : ∀ b ∈ X.ex,b ∉ X.fs
 funs:X.s₀.heap.FunFrames X.base X.outer
 frf : ∀ b ∈ X.fs,X.H₀ b=none
structure Inv (X:Cx) (pins:List (Addr × Obj)) (σ:List (Option V)) (H:Hp) (s:Shared):Prop where
 ok:X.Ok
 os:s.os=X.s₀.os
 bare:AllBare s.gens
 base:Un X.fs X.ex X.H₀ H X.s₀.heap s.heap
 loc : ∃ m,s.heap.Ns X.env.locals m /\ ∀ (i:Nat) (x:Str) (v:V),X.N[i]? = some x->σ[i]? = some (some v)->Vis X.env.scope x -> ∃ u,jX v u/\zJ6 X.env s.heap m x u
 cell : ∀ x c,X.env.cells.lookup x=some c -> ∃ v,s.heap.IsCell c v
 free:H X.env.locals=none
 freeC : ∀ x c,X.env.cells.lookup x=some c->H c=none
 pin : ∀ p ∈ X.pn++pins,s.heap.get? p.1=some p.2/\H p.1=none/\p.1≠X.env.locals/\p.1 ∉ X.fs /\ ∀ v,p.2.data ≠ .cell v
 hok:HOk X.prog X.w H s.heap
 len:σ.length=X.N.length
section
variable {X : Cx} {pins : List (Addr × Obj)} {σ : List (Option V)} {H H' : Hp} {s : Shared} {h' : Heap}
theorem Cx.Ok.nofr (ok:X.Ok) {b:Addr} {o:Obj} (e:X.base.get? b=some o):b ∉ X.fs:=fun hb=>by
 have:=(ok.funs.mem hb).1
 rw [e] at this;cases this
theorem Inv.bs (I:Inv X pins σ H s) : ∀ b o,X.base.get? b=some o->s.heap.get? b=some o/\H b=none:=fun b o e =>
 ⟨I.base.keep b o (I.ok.bs b o e).1 (I.ok.bs b o e).2 (I.ok.nofr e) (I.ok.noex b o e),I.base.free b o (I.ok.bs b o e).1 (I.ok.bs b o e).2 (I.ok.noex b o e)⟩
theorem Inv.bk (I:Inv X pins σ H s) : ∀ b o,X.base.get? b=some o->s.heap.get? b=some o:=fun b o e=>(I.bs b o e).1
theorem Inv.mod (I:Inv X pins σ H s):Mod X.K X.mg X.base:=I.ok.mod
theorem Inv.kIn (I:Inv X pins σ H s):X.K.In s.heap:=I.ok.mod.kin.keeps I.bk
theorem Inv.nolimit (I:Inv X pins σ H s):s.heap.NoLimit:=I.ok.mod.nolimit.keeps I.bk
theorem Inv.fr (I:Inv X pins σ H s) : ∃ m,Fr X.base X.env.locals s.heap m:=
 let ⟨m,hn,_⟩:=I.loc
 ⟨m,hn,I.bk,le_trans I.ok.bsz I.ok.above⟩
theorem Inv.lt (I:Inv X pins σ H s):X.env.locals < s.heap.objs.size:=let ⟨_,hn,_⟩:=I.loc;hn.lt
theorem Inv.sz (I:Inv X pins σ H s):X.s₀.heap.objs.size<=s.heap.objs.size:=le_trans I.ok.above (Nat.le_of_lt I.lt)
theorem Inv.nofs (I:Inv X pins σ H s) (h:s.heap.objs.size<=a):a ∉ X.fs:=fun hb=>by
 obtain ⟨_,o,ho,_⟩:=I.ok.funs.mem hb
 exact absurd (lt_of_lt_of_le (Heap.lt_size ho) (le_trans I.sz h)) (lt_irrefl _)
theorem Inv.cne (I:Inv X pins σ H s) : ∀ x c,X.env.cells.lookup x=some c->c≠X.env.locals:=fun x c e z=>by
 obtain ⟨v,o,ho,hd⟩:=I.cell x c e
 obtain ⟨m,⟨o',es,ep,ho',hd',_⟩,_⟩:=I.loc
 rw [z,ho'] at ho;cases ho;rw [hd'] at hd;cases hd
theorem Inv.funs (I:Inv X pins σ H s):s.heap.FunFrames X.base X.outer:=by
 have all : ∀ (l:List Env),(∀ b ∈ frs l,b ∈ X.fs)->X.s₀.heap.FunFrames X.base l->s.heap.FunFrames X.base l:=by
  intro l
  induction l with
  | nil=>intro _ _;trivial
  | cons env r ih =>
   intro hs hl
   obtain ⟨hk,⟨L,o,hf,hn,ho,hd⟩,hr⟩:=hl
   have hL:L ∈ X.fs:=hs L (by unfold frs;rw [List.filterMap_cons,hf];exact List.mem_cons_self)
   obtain ⟨sl,e⟩:=I.base.slot L o ho (I.ok.frf L hL) hL fun z=>I.ok.exfs L z hL
   exact ⟨hk,⟨L,_,hf,hn,e,hd⟩,ih (fun b hb=>hs b (by unfold frs;rw [List.filterMap_cons,hf];exact mem_cons_of_mem _ hb)) hr⟩
 exact all X.outer (fun _ hb=>hb) I.ok.funs
theorem Inv.stack (I:Inv X pins σ H s):s.heap.FunFrames X.base X.stack:=by
 rcases I.ok.stk with e | ⟨e,hf⟩
 ·rw [e];exact I.funs
 ·rw [e]
  obtain ⟨m,hn,_⟩:=I.loc
  refine .cons (by rw [I.ok.kind];decide) hf hn ?_ I.funs
  exact Heap.get?_none_of_le (le_trans I.ok.bsz I.ok.above)
theorem Inv.stkSub (I:Inv X pins σ H s) : ∀ b ∈ frs X.stack,b ∈ X.env.locals::X.fs:=fun b hb=>by
 rcases I.ok.stk with e | ⟨e,hf⟩
 ·rw [e] at hb;exact mem_cons_of_mem _ hb
 ·rw [e] at hb
  unfold frs at hb
  rw [List.filterMap_cons,hf] at hb
  exact hb
theorem Inv.stkFree (I:Inv X pins σ H s) : ∀ b ∈ frs X.stack,H b=none:=fun b hb=>by
 rcases List.mem_cons.mp (I.stkSub b hb) with e | hb
 ·rw [e];exact I.free
 ·obtain ⟨_,o,ho,_⟩:=I.ok.funs.mem hb
  exact I.base.free b o ho (I.ok.frf b hb) fun z=>I.ok.exfs b z hb
variable {t':Nat} {ch:List Addr}
theorem Inv.step {g':Array GenState} {d':Drawn} (I:Inv X pins σ H s)
  (hch : ∀ b ∈ ch,(b ∈ X.ex\/X.s₀.heap.objs.size<=b)/\b≠X.env.locals/\(∀ x c,X.env.cells.lookup x=some c->c≠b) /\ ∀ p ∈ X.pn++pins,p.1≠b)
  (keep : ∀ b o,b≠X.env.locals->b ∉ X.fs->b ∉ ch->s.heap.get? b=some o->H b=none->h'.get? b=some o)
  (slot : ∀ b o,b≠X.env.locals->b ∈ X.fs->b ∉ ch->s.heap.get? b=some o->H b=none -> ∃ sl,h'.get? b=some { o with slots:=sl }) (free : ∀ b o,b ∉ ch->s.heap.get? b=some o->H b=none->H' b=none)
  (there : ∀ b o,b ∉ ch->s.heap.get? b=some o -> ∃ o',h'.get? b=some o')
  (tups : ∀ b xs,H b=some (.tup xs)->H' b=some (.tup xs)) (frzs : ∀ b o u,H b=some (.frz o u)->H' b=some (.frz o u)) (tbls : ∀ b ps,H b=some (.tbl ps) -> ∃ more,H' b=some (.tbl (ps++more)))
  (ns : ∀ m,s.heap.Ns X.env.locals m->h'.Ns X.env.locals m) (hok:HOk X.prog X.w H' h') (hg:AllBare g') :
  Inv X pins σ H' { s with heap:=h',gens:=g',drawn:=d',toks:=t' }:=by
 have neL : ∀ b o,X.s₀.heap.get? b=some o->b≠X.env.locals:=fun b o e=>ne_of_lt (lt_of_lt_of_le (Heap.lt_size e) I.ok.above)
 have neC : ∀ b o,X.s₀.heap.get? b=some o->b ∉ X.ex->b ∉ ch:=fun b o e hx hb=>by
  rcases (hch b hb).1 with z | z
  ·exact hx z
  ·exact absurd (lt_of_lt_of_le (Heap.lt_size e) z) (lt_irrefl _)
 have cellK : ∀ x c,X.env.cells.lookup x=some c -> ∀ v,s.heap.IsCell c v->h'.IsCell c v:=fun x c e v ⟨o,ho,hd⟩=>by
  have nch:c ∉ ch:=fun z=>(hch c z).2.2.1 x c e rfl
  by_cases hc:c ∈ X.fs
  ·obtain ⟨sl,q⟩:=slot c o (I.cne x c e) hc nch ho (I.freeC x c e)
   exact ⟨_,q,hd⟩
  ·exact ⟨o,keep c o (I.cne x c e) hc nch ho (I.freeC x c e),hd⟩
 refine ⟨I.ok,I.os,hg,⟨fun b o e n hb hx=>?_,fun b o e n hb hx=>?_,fun b o e n hx=>?_,fun b o e hx=>?_,fun b xs e=>tups b xs (I.base.tups b xs e),fun b o xs e=>frzs b o xs (I.base.frzs b o xs e),fun b ps e=>?_⟩,?_,fun x c e=>?_,?_,fun x c e=>?_,fun p hp=>?_,hok,I.len⟩
 ·exact keep b o (neL b o e) hb (neC b o e hx) (I.base.keep b o e n hb hx) (I.base.free b o e n hx)
 ·obtain ⟨sl,e1⟩:=I.base.slot b o e n hb hx
  obtain ⟨sl',e2⟩:=slot b _ (neL b o e) hb (neC b o e hx) e1 (I.base.free b o e n hx)
  exact ⟨sl',e2⟩
 ·obtain ⟨o',e1⟩:=I.base.there b o e hx
  exact free b o' (neC b o e hx) e1 (I.base.free b o e n hx)
 ·obtain ⟨o',e1⟩:=I.base.there b o e hx
  exact there b o' (neC b o e hx) e1
 ·obtain ⟨m1,e1⟩:=I.base.tbls b ps e
  obtain ⟨m2,e2⟩:=tbls b _ e1
  exact ⟨m1++m2,by rw [e2,Array.append_assoc]⟩
 ·obtain ⟨m,hn,hl⟩:=I.loc
  refine ⟨m,ns m hn,fun i x v e1 e2 e3=>?_⟩
  obtain ⟨u,r,l⟩:=hl i x v e1 e2 e3
  refine ⟨u,r,?_⟩
  rcases l with l | ⟨k,c,e,z⟩
  ·exact .inl l
  ·exact .inr ⟨k,c,e,cellK x c e _ z⟩
 ·obtain ⟨v,z⟩:=I.cell x c e
  exact ⟨v,cellK x c e v z⟩
 ·obtain ⟨m,⟨o,_,_,ho,_⟩,_⟩:=I.loc
  exact free _ o (fun z=>(hch _ z).2.1 rfl) ho I.free
 ·obtain ⟨v,o,ho,hd⟩:=I.cell x c e
  exact free c o (fun z=>(hch c z).2.2.1 x c e rfl) ho (I.freeC x c e)
 ·obtain ⟨e,n,ne,nf,d⟩:=I.pin p hp
  have nch:p.1 ∉ ch:=fun z=>(hch p.1 z).2.2.2 p hp rfl
  exact ⟨keep p.1 p.2 ne nf nch e n,free p.1 p.2 nch e n,ne,nf,d⟩
theorem Inv.un (I:Inv X pins σ H s) (u:Un X.fs [] H H' s.heap h') (hok:HOk X.prog X.w H' h'):Inv X pins σ H' { s with heap:=h',toks:=t' }:=by
 obtain ⟨m,⟨o,es,ep,ho,r⟩,_⟩:=id I.loc
 obtain ⟨sl,hL⟩:=u.any ho I.free (by simp)
 exact I.step (g':=s.gens) (d':=s.drawn) (ch:=[]) (fun _ z=>nomatch z) (fun b o _ hb _ e n=>u.keep b o e n hb (by simp)) (fun b o _ hb _ e n=>u.slot b o e n hb (by simp)) (fun b o _ e n=>u.free b o e n (by simp)) (fun b o _ e=>u.there b o e (by simp)) u.tups u.frzs u.tbls (fun m' hm=>by
  obtain ⟨o',es',ep',ho',r'⟩:=hm
  rw [ho] at ho';cases ho'
  exact ⟨_,es',ep',hL,r'⟩) hok I.bare
theorem Inv.call {g':Array GenState} {d':Drawn} (I:Inv X pins σ H s) (u:Un (frs X.stack) ch H H' s.heap h') (hok:HOk X.prog X.w H' h') (hg:AllBare g')
  (hch : ∀ b ∈ ch,(b ∈ X.ex\/X.s₀.heap.objs.size<=b)/\b≠X.env.locals/\(∀ x c,X.env.cells.lookup x=some c->c≠b) /\ ∀ p ∈ X.pn++pins,p.1≠b) :
  Inv X pins σ H' { s with heap:=h',gens:=g',drawn:=d',toks:=t' }:=by
 obtain ⟨m,⟨o,es,ep,ho,r⟩,_⟩:=id I.loc
 obtain ⟨sl,hL⟩:=u.any ho I.free fun z=>(hch _ z).2.1 rfl
 exact I.step (ch:=ch) hch (fun b o hL hb hc e n=>u.keep b o e n (fun z=>(List.mem_cons.mp (I.stkSub b z)).elim hL hb) hc) (fun b o _ _ hc e n=>u.any e n hc) (fun b o hc e n=>u.free b o e n hc) (fun b o hc e=>u.there b o e hc) u.tups u.frzs u.tbls (fun m' hm=>by
  obtain ⟨o',es',ep',ho',r'⟩:=hm
  rw [ho] at ho';cases ho'
  exact ⟨_,es',ep',hL,r'⟩) hok hg
theorem Inv.turned {it:Addr} (I:Inv X pins σ H s) (k : ∀ b o,b≠it->s.heap.get? b=some o->h'.get? b=some o) (hn:H it=none) (hL:it≠X.env.locals)
  (h1:it ∈ X.ex\/X.s₀.heap.objs.size<=it) (h2 : ∀ x c,X.env.cells.lookup x=some c->c≠it) (h3 : ∀ p ∈ X.pn++pins,p.1≠it):Inv X pins σ H { s with heap:=h',toks:=t' }:=by
 have nit : ∀ b u,H b=some u->b≠it:=fun b u e z=>by rw [z,hn] at e;cases e
 refine I.step (g':=s.gens) (d':=s.drawn) (ch:=[it]) (fun b hb=>?_) (fun b o _ _ hc e _=>k b o (fun z=>hc (by simp [z])) e) (fun b o _ _ hc e _=>⟨o.slots,k b o (fun z=>hc (by simp [z])) e⟩) (fun _ _ _ _ n=>n)
  (fun b o hc e=>⟨o,k b o (fun z=>hc (by simp [z])) e⟩) (fun _ _ e=>e) (fun _ _ _ e=>e) (fun b ps e=>⟨#[],by rw [e];simp⟩) (fun m hm=>?_) (fun b u e=>?_) I.bare
 ·have e:b=it:=by simpa using hb
  subst e
  exact ⟨h1,hL,h2,h3⟩
 ·obtain ⟨o,es,ep,ho,r⟩:=hm
  exact ⟨o,es,ep,k _ o (Ne.symm hL) ho,r⟩
 ·refine (I.hok b u e).stay (fun c v hc q=>k c v ?_ q) (fun _ q=>q) fun _ _ q=>q
  rcases hc with z | z
  ·rw [z];exact nit b u e
  ·exact nit c _ z
theorem Inv.tok (I:Inv X pins σ H s) (t:Nat):Inv X pins σ H { s with toks:=t }:=I.un (h':=s.heap) (t':=t) Un.refl I.hok
theorem Inv.kept (I:Inv X pins σ H s) (k : ∀ b u,s.heap.get? b=some u->h'.get? b=some u):Inv X pins σ H { s with heap:=h',toks:=t' }:=I.un (Un.kept k) (I.hok.kept k)
theorem Inv.laid (I:Inv X pins σ H s) (k : ∀ b u,s.heap.get? b=some u->h'.get? b=some u) (hp:s.heap.objs.size<=a) (new:jQ X.prog X.w (upd H a o) h' a o) :
  Inv X pins σ (upd H a o) { s with heap:=h',toks:=t' }:=I.un (Un.laid k hp (I.hok.fresh hp)) (I.hok.laid k hp new)
theorem Inv.write {x e:Addr} (I:Inv X pins σ H s) (mu:Mut (H x)) (he:e=x\/H e=some (.own x)) (k : ∀ b u,b≠e->s.heap.get? b=some u->h'.get? b=some u) (heo : ∃ u,h'.get? e=some u)
  (new:jQ X.prog X.w (upd H x o) h' x o):Inv X pins σ (upd H x o) { s with heap:=h',toks:=t' }:=I.un (Un.write mu he k heo) (I.hok.write mu he k heo new)
theorem Inv.weak {σ':List (Option V)} (I:Inv X pins σ H s) (hl:σ'.length=σ.length) (w : ∀ (i:Nat) v,σ'[i]? = some (some v)->σ[i]? = some (some v)):Inv X pins σ' H s:=
 ⟨I.ok,I.os,I.bare,I.base,let ⟨m,hn,hl'⟩:=I.loc;⟨m,hn,fun i x v e1 e2 e3=>hl' i x v e1 (w i v e2) e3⟩,I.cell,I.free,I.freeC,I.pin,I.hok,hl.trans I.len⟩
theorem Inv.pins_of {pins':List (Addr × Obj)} (I:Inv X pins σ H s) (h : ∀ p ∈ pins',s.heap.get? p.1=some p.2/\H p.1=none/\p.1≠X.env.locals/\p.1 ∉ X.fs /\ ∀ v,p.2.data ≠ .cell v):Inv X pins' σ H s:=
 ⟨I.ok,I.os,I.bare,I.base,I.loc,I.cell,I.free,I.freeC,fun p hp=>(List.mem_append.mp hp).elim (fun z=>I.pin p (List.mem_append_left _ z)) (h p),I.hok,I.len⟩
variable {i:Nat} {x:Str}
theorem Vw {N:List Str} (hN:N.Nodup) {j:Nat} (a:N[i]? = some x) (b:N[j]? = some x):i=j:=by
 obtain ⟨h1,e1⟩:=List.getElem?_eq_some_iff.mp a
 obtain ⟨h2,e2⟩:=List.getElem?_eq_some_iff.mp b
 exact (List.getElem_inj hN).mp (e1.trans e2.symm)
theorem JF {M:Model} {A:Around} {E:Value->Shared->Prop} {v:V} {u:Value} {Q:Unit->Shared->Prop} (I:Inv X pins σ H s) (hN:X.N.Nodup) (hi:X.N[i]? = some x) (hx:Loc X.env.scope x) (r:jX v u)
  (h : ∀ s',Inv X pins (σ.set i (some v)) H s'->(∃ a,Heap.SameBut a s.heap s'.heap/\(a=X.env.locals\/X.env.cells.lookup x=some a))->Q () s') (hf:X.fn x=true\/X.env.scope.names.lookup x=some .local:=by first | exact .inl rfl | exact .inr rfl | assumption):wpAny M A (storeName X.env x u) Q E s:=by
 obtain ⟨m,hn,hl⟩:=id I.loc
 have hcls:(X.env.scope.kind == .class || (X.env.scope.kind == .module && X.env.locals != X.env.globals))=false:=by rw [I.ok.kind];rfl
 have hiσ:i < σ.length:=by rw [I.len];exact (List.getElem?_eq_some_iff.mp hi).1
 have cne:=I.cne
 have tracked : ∀ {a:Addr} {h':Heap},(∃ o,s.heap.get? a=some o/\H a=none)->Heap.SameBut a s.heap h'->HOk X.prog X.w H h':=fun {a h'} ha hs b ob e=>by
  obtain ⟨_,_,hfree⟩:=ha
  refine (I.hok b ob e).stay (fun c w' hc q=>(hs.2 c ?_).trans q) (fun _ q=>q) fun _ _ q=>q
  rintro rfl
  rcases hc with rfl | hc
  ·rw [hfree] at e;cases e
  ·rw [hfree] at hc;cases hc
 rcases hx with hk | hk
 ·refine wpAny_storeName_local hk hn (fun h' hn' hs=>?_) hcls
  obtain ⟨oL,_,_,hoL,_⟩:=id hn
  refine h _ ⟨I.ok,I.os,I.bare,⟨fun b o e n hb hx=>?_,fun b o e n hb hx=>?_,I.base.free,fun b o e hx=>?_,I.base.tups,I.base.frzs,I.base.tbls⟩,⟨_,hn',fun j y v' e1 e2 e3=>?_⟩,fun y c e=>?_,I.free,I.freeC,fun p hp=>?_,tracked ⟨oL,hoL,I.free⟩ hs,by simpa using I.len⟩ ⟨_,hs,.inl rfl⟩
  ·exact (hs.2 b (ne_of_lt (lt_of_lt_of_le (Heap.lt_size e) I.ok.above))).trans (I.base.keep b o e n hb hx)
  ·obtain ⟨sl,e1⟩:=I.base.slot b o e n hb hx
   exact ⟨sl,(hs.2 b (ne_of_lt (lt_of_lt_of_le (Heap.lt_size e) I.ok.above))).trans e1⟩
  ·obtain ⟨o',e1⟩:=I.base.there b o e hx
   exact ⟨o',(hs.2 b (ne_of_lt (lt_of_lt_of_le (Heap.lt_size e) I.ok.above))).trans e1⟩
  ·by_cases hj:j=i
   ·subst hj
    rw [hi] at e1;cases e1
    rw [List.getElem?_set_self hiσ] at e2
    cases e2
    exact ⟨u,r,.inl ⟨hk,by simp⟩⟩
   ·rw [List.getElem?_set_ne (Ne.symm hj)] at e2
    obtain ⟨u',r',q⟩:=hl j y v' e1 e2 e3
    refine ⟨u',r',?_⟩
    rcases q with ⟨k,e⟩ | ⟨k,c,e,z⟩
    ·refine .inl ⟨k,?_⟩
     have:y≠x:=fun e=>hj (Vw hN e1 (e ▸ hi))
     simp [this,e]
    ·exact .inr ⟨k,c,e,z.sameBut hs (cne y c e)⟩
  ·obtain ⟨w',z⟩:=I.cell y c e
   exact ⟨w',z.sameBut hs (cne y c e)⟩
  ·obtain ⟨e,n,ne,nf,d⟩:=I.pin p hp
   exact ⟨(hs.2 p.1 ne).trans e,n,ne,nf,d⟩
 ·have hfn:X.fn x=true:=by
   rcases hf with z | z
   ·exact z
   ·rw [z] at hk;cases hk
  obtain ⟨c,hc⟩:=I.ok.has x (.inl hk)
  obtain ⟨w',z⟩:=I.cell x c hc
  refine wpAny_storeName_cell I.ok.kind hk hc z (fun h' hc' hs=>?_)
  obtain ⟨oc,hoc,hocd⟩:=id z
  refine h { s with heap:=h' } ⟨I.ok,I.os,I.bare,⟨fun b o e n hb hx=>?_,fun b o e n hb hx=>?_,I.base.free,fun b o e hx=>?_,I.base.tups,I.base.frzs,I.base.tbls⟩,⟨m,hn.sameBut hs (Ne.symm (cne x c hc)),fun j y v' e1 e2 e3=>?_⟩,fun y c' e=>?_,I.free,I.freeC,fun p hp=>?_,tracked ⟨oc,hoc,I.freeC x c hc⟩ hs,by simpa using I.len⟩ ⟨c,hs,.inr hc⟩
  ·exact (hs.2 b (ne_of_lt (lt_of_lt_of_le (Heap.lt_size e) (I.ok.cab x c hfn hc)))).trans (I.base.keep b o e n hb hx)
  ·obtain ⟨sl,e1⟩:=I.base.slot b o e n hb hx
   exact ⟨sl,(hs.2 b (ne_of_lt (lt_of_lt_of_le (Heap.lt_size e) (I.ok.cab x c hfn hc)))).trans e1⟩
  ·obtain ⟨o',e1⟩:=I.base.there b o e hx
   exact ⟨o',(hs.2 b (ne_of_lt (lt_of_lt_of_le (Heap.lt_size e) (I.ok.cab x c hfn hc)))).trans e1⟩
  ·by_cases hj:j=i
   ·subst hj
    rw [hi] at e1;cases e1
    rw [List.getElem?_set_self hiσ] at e2
    cases e2
    exact ⟨u,r,.inr ⟨.inl hk,c,hc,hc'⟩⟩
   ·rw [List.getElem?_set_ne (Ne.symm hj)] at e2
    obtain ⟨u',r',q⟩:=hl j y v' e1 e2 e3
    refine ⟨u',r',?_⟩
    rcases q with q | ⟨k,c',e,z'⟩
    ·exact .inl q
    ·refine .inr ⟨k,c',e,z'.sameBut hs ?_⟩
     rintro rfl
     exact hj (Vw hN e1 (I.ok.inj _ _ _ e hc ▸ hi))
  ·by_cases hcc:c'=c
   ·subst hcc;exact ⟨_,hc'⟩
   ·obtain ⟨w2,z2⟩:=I.cell y c' e
    exact ⟨w2,z2.sameBut hs hcc⟩
  ·obtain ⟨e,n,ne,nf,d⟩:=I.pin p hp
   refine ⟨(hs.2 p.1 ?_).trans e,n,ne,nf,d⟩
   intro q
   rw [q,hoc] at e
   have q':oc=p.2:=Option.some.inj e
   exact d w' (by rw [<- q'];exact hocd)
theorem yC {M:Model} {A:Around} {E:Value->Shared->Prop} {v:V} {u:Value} {Q:Unit->Shared->Prop} (I:Inv X pins σ H s) (hN:X.N.Nodup) (hi:X.N[i]? = some x) (hx:Loc X.env.scope x) (r:jX v u)
  (h : ∀ s',Inv X pins (σ.set i (some v)) H s'->Q () s') (hf:X.fn x=true\/X.env.scope.names.lookup x=some .local:=by first | exact .inl rfl | exact .inr rfl | assumption):wpAny M A (storeName X.env x u) Q E s:=
 JF I hN hi hx r (fun s' I' _=>h s' I') hf
theorem Inv.call' {s':Shared} (I:Inv X pins σ H s) (ho:s'.os=s.os) (u:Un (frs X.stack) ch H H' s.heap s'.heap) (hok:HOk X.prog X.w H' s'.heap) (hg:AllBare s'.gens)
  (hch : ∀ b ∈ ch,(b ∈ X.ex\/X.s₀.heap.objs.size<=b)/\b≠X.env.locals/\(∀ x c,X.env.cells.lookup x=some c->c≠b) /\ ∀ p ∈ X.pn++pins,p.1≠b):Inv X pins σ H' s':=by
 obtain ⟨h',g',d',t',o'⟩:=s'
 have e:o'=s.os:=ho
 subst e
 exact I.call (g':=g') (t':=t') (d':=d') u hok hg hch
end
abbrev XK:=Value->Option Addr->Hp->Prop
abbrev St:=List (Option V)
abbrev VK:=V->Hp->Prop
abbrev TE:=St->Hp->VK->Prop
abbrev TT:=St->Hp->(Bool->Hp->Prop)->Prop
abbrev TA:=St->Hp->(List V->Hp->Prop)->Prop
structure yr where
 nx:St->Hp->Prop
 rt:VK
 bk:St->Hp->Prop:=fun _ _=>False
 ct:St->Hp->Prop:=fun _ _=>False
abbrev TS:=yr->St->Hp->Prop
def EP (X:Cx) (pins:List (Addr × Obj)) (σ:St) (Q:VK) (u:Value) (s':Shared):Prop:=∃ v H',Inv X pins σ H' s'/\jX v u/\Q v H'
def TP (X:Cx) (pins:List (Addr × Obj)) (σ:St) (Q:Bool->Hp->Prop) (b:Bool) (s':Shared):Prop:=∃ H',Inv X pins σ H' s'/\Q b H'
def AP (X:Cx) (pins:List (Addr × Obj)) (σ:St) (Q:List V->Hp->Prop) (us:List Value) (s':Shared):Prop:=∃ vs H',Inv X pins σ H' s'/\qE vs us/\Q vs H'
def SP (X:Cx) (pins:List (Addr × Obj)) (D:yr) (f:Flow) (s':Shared):Prop:=
 match f with
 | .next=>∃ σ' H',Inv X pins σ' H' s'/\D.nx σ' H'
 | .brk=>∃ σ' H',Inv X pins σ' H' s'/\D.bk σ' H'
 | .cont=>∃ σ' H',Inv X pins σ' H' s'/\D.ct σ' H'
 | .ret u=>∃ v σ' H',Inv X pins σ' H' s'/\jX v u/\D.rt v H'
def PE (X:Cx) (e:Expr) (t:TE):Prop:=
 ∀ (pins:List (Addr × Obj)) (s:Shared) (σ:St) (H:Hp) (Q:VK),Inv X pins σ H s->t σ H Q->wpAny (model X.prog X.w) X.A (eval e X.env) (EP X pins σ Q) X.xe s
def PT (X:Cx) (e:Expr) (t:TT):Prop:=
 ∀ (pins:List (Addr × Obj)) (s:Shared) (σ:St) (H:Hp) (Q:Bool->Hp->Prop),Inv X pins σ H s->t σ H Q->wpAny (model X.prog X.w) X.A (isTrue e X.env (eval e X.env)) (TP X pins σ Q) X.xe s
def PW (X:Cx) (e:Expr) (t:TT):Prop:=
 ∀ (whole:Sem Value) (pins:List (Addr × Obj)) (s:Shared) (σ:St) (H:Hp) (Q:Bool->Hp->Prop),Inv X pins σ H s->t σ H Q->wpAny (model X.prog X.w) X.A (isTrue e X.env whole) (TP X pins σ Q) X.xe s
variable {X:Cx} {e:Expr}
theorem PW.pt {t:TT} (h:PW X e t):PT X e t:=h _
def PA (X:Cx) (es:List Expr) (t:TA):Prop:=
 ∀ (pos:Pos) (pins:List (Addr × Obj)) (s:Shared) (σ:St) (H:Hp) (Q:List V->Hp->Prop),Inv X pins σ H s->t σ H Q->wpAny (model X.prog X.w) X.A (spliced (backTo pos (starEach es X.env))) (AP X pins σ Q) X.xe s
def PS (X:Cx) (st:Stmt) (t:TS):Prop:=
 ∀ (pins:List (Addr × Obj)) (s:Shared) (σ:St) (H:Hp) (D:yr),Inv X pins σ H s->t D σ H->wpAny (model X.prog X.w) X.A (exec st X.env) (SP X pins D) X.xe s
def PSs (X:Cx) (st:List Stmt) (t:TS):Prop:=
 ∀ (pins:List (Addr × Obj)) (s:Shared) (σ:St) (H:Hp) (D:yr),Inv X pins σ H s->t D σ H->wpAny (model X.prog X.w) X.A (execs st X.env) (SP X pins D) X.xe s
variable {A:Around} {E:Value->Shared->Prop} {s:Shared}
theorem thn {α:Type} {t:Sem α} {Q Q':α->Shared->Prop} {M:Model} (h:wpAny M A t Q E s) (hQ : ∀ a s,Q a s->Q' a s):wpAny M A t Q' E s:=wpAny_mono h hQ fun _ _ x=>x
section
variable {X : Cx}
def zIR (i:Nat):TE:=fun σ H Q=>∃ v,σ[i]? = some (some v)/\Q v H
def tC (v:V):TE:=fun _ H Q=>Q v H
variable {x:Str} {pos:Pos}
theorem zGg {i:Nat} (hN:X.N[i]? = some x) (hv:Vis X.env.scope x) (hd:(x == ("__debug__" : Str))=false:=by decide) (hcd:(x == ("__classdict__" : Str))=false:=by decide):PE X (.Name x pos) (zIR i):=by
 intro pins s σ H Q I h
 obtain ⟨v,e,h⟩:=h
 obtain ⟨m,hn,hl⟩:=I.loc
 obtain ⟨u,r,l⟩:=hl i x v hN e hv
 have fin:EP X pins σ Q u s:=⟨v,H,I,r,h⟩
 rcases l with ⟨hk,hm⟩ | ⟨hk,c,hc,hcell⟩
 ·exact wpAny_Name (wpAny_loadName_local I.ok.kind hk hn hm fin) hd
 ·rcases hk with hk | hk
  ·exact wpAny_Name (wpAny_loadName_cell I.ok.kind hk hc hcell fin) hd
  ·exact wpAny_Name (wpAny_loadName_free I.ok.kind hk hc hcell fin hcd) hd
theorem zB {i j pos}:PE X (.Constant (.int i) j pos) (tC (.int i)):=fun _ _ _ H _ I h=>wpAny_Constant_int ⟨.int i,H,I.tok _,⟨_,rfl⟩,h⟩
theorem yJ {b j pos}:PE X (.Constant (.bool b) j pos) (tC (.bl b)):=fun _ _ _ H _ I h=>Constant_bool ⟨.bl b,H,I,rfl,h⟩
theorem wR {j pos}:PE X (.Constant .none j pos) (tC .non):=fun _ _ _ H _ I h=>Constant_none ⟨.non,H,I,rfl,h⟩
theorem zY {x j pos}:PE X (.Constant (.str x) j pos) (tC (.str x)):=fun _ _ _ H _ I h=>Calls.Constant_str ⟨.str x,H,I.tok _,⟨_,rfl⟩,h⟩
def Gl (X:Cx) (x:Str):Prop:=X.env.kindOf x=some .globalImplicit
theorem qZ {pins:List (Addr × Obj)} {σ:St} {u:Value} {Q:Value->Shared->Prop} (I:Inv X pins σ H s) (hg:Gl X x) (hm:X.mg x=some u) (h:Q u s)
  (hd:(x == ("__debug__" : Str))=false:=by decide):wpAny (model X.prog X.w) X.A (eval (.Name x pos) X.env) Q E s:=
 Calls.Name_function_global I.ok.kind hg (Calls.loadGlobal_global (by rw [I.ok.glob];exact I.mod.glob.keeps I.bk) hm h) hd
theorem J3 {pins:List (Addr × Obj)} {σ:St} {u:Value} {Q:Value->Shared->Prop} (I:Inv X pins σ H s) (hg:Gl X x) (hm:X.mg x=none) (hv:bootBuiltins x=some u) (h:Q u s)
  (hn:x ≠ "__name__" := by decide) (hd:(x == ("__debug__" : Str))=false:=by decide):wpAny (model X.prog X.w) X.A (eval (.Name x pos) X.env) Q E s:=by
 obtain ⟨mb,h1,h2⟩:=I.mod.blt
 exact Calls.Name_function_global I.ok.kind hg (Calls.loadGlobal_builtin (by rw [I.ok.glob];exact I.mod.glob.keeps I.bk) hm (by rw [I.ok.blt];exact h1.keeps I.bk) ((h2 x hn).trans hv) h) hd
theorem kh {v:V} {u:Value} (hg:Gl X x) (hm:X.mg x=some u) (r:jX v u) (hd:(x == ("__debug__" : Str))=false:=by decide):PE X (.Name x pos) (tC v):=
 fun _ _ _ H _ I h=>qZ I hg hm ⟨v,H,I,r,h⟩ hd
theorem yO {v:V} {u:Value} (hg:Gl X x) (hm:X.mg x=none) (hv:bootBuiltins x=some u) (r:jX v u) (hn:x ≠ "__name__" := by decide) (hd:(x == ("__debug__" : Str))=false:=by decide):PE X (.Name x pos) (tC v):=
 fun _ _ _ H _ I h=>J3 I hg hm hv ⟨v,H,I,r,h⟩ hn hd
variable {a b : Expr} {ta tb : TE} {pos : Pos}
def tB (t:TE):TT:=fun σ H Q=>t σ H fun x H1=>∃ c,x = .bl c/\Q c H1
theorem qc {t:TE} (h:PE X e t) (he : ∀ whole,isTrue e X.env whole=(do let v <- whole;standAt e.pos;holding [v] (truthy v)):=by intro _;rfl):PT X e (tB t):=by
 intro pins s σ H Q I hw
 refine isTrue_plain (thn (h pins s σ H _ I hw) fun v s1 zq=>?_) (he _)
 obtain ⟨x,H1,I1,r1,q1⟩:=zq
 obtain ⟨d,rfl,q⟩:=q1
 cases r1
 exact wpAny_truthy_bool ⟨H1,I1,q⟩
variable {tA tB' : TT} {Zo : List Expr}
def zI9 (t u:TT):TT:=fun σ H Q=>t σ H fun c H1=>if c=true then u σ H1 Q else Q false H1
def tOr (t u:TT):TT:=fun σ H Q=>t σ H fun c H1=>if c=true then Q true H1 else u σ H1 Q
def zJc (t:TT):TT:=fun σ H Q=>t σ H fun c H1=>Q (!c) H1
theorem xH (ha:PT X a tA):PW X (.BoolOp .And [a] pos) tA:=by
 intro wh pins s σ H Q I h
 refine isTrue_and (thn (ha pins s σ H Q I h) fun c s1 e=>?_)
 cases c with
 | true=>exact isTrue_and_nil e
 | false=>exact e
theorem yj (ha:PT X a tA):PW X (.BoolOp .Or [a] pos) tA:=by
 intro wh pins s σ H Q I h
 refine isTrue_or (thn (ha pins s σ H Q I h) fun c s1 e=>?_)
 cases c with
 | false=>exact isTrue_or_nil e
 | true=>exact e
theorem yU (ha:PT X a tA) (hb:PW X (.BoolOp .And (b::Zo) pos) tB'):PW X (.BoolOp .And (a::b::Zo) pos) (zI9 tA tB'):=by
 intro wh pins s σ H Q I h
 refine isTrue_and (thn (ha pins s σ H _ I h) fun c s1 zq=>?_)
 obtain ⟨H1,I1,q1⟩:=zq
 cases c with
 | true=>exact hb wh pins s1 σ H1 Q I1 q1
 | false=>exact ⟨H1,I1,q1⟩
theorem ZD (ha:PT X a tA) (hb:PW X (.BoolOp .Or (b::Zo) pos) tB'):PW X (.BoolOp .Or (a::b::Zo) pos) (tOr tA tB'):=by
 intro wh pins s σ H Q I h
 refine isTrue_or (thn (ha pins s σ H _ I h) fun c s1 zq=>?_)
 obtain ⟨H1,I1,q1⟩:=zq
 cases c with
 | true=>exact ⟨H1,I1,q1⟩
 | false=>exact hb wh pins s1 σ H1 Q I1 q1
theorem qw (ha:PT X a tA):PT X (.UnaryOp .Not a pos) (zJc tA):=by
 intro pins s σ H Q I h
 exact isTrue_not (ha pins s σ H (fun c H1=>Q (!c) H1) I h)
def zHi (ta tb:TE):TE:=fun σ H Q=>ta σ H fun x H1=>∃ c,x = .bl c/\if c=true then tb σ H1 Q else Q (.bl false) H1
def zJB (ta tb:TE):TE:=fun σ H Q=>ta σ H fun x H1=>∃ c,x = .bl c/\if c=true then Q (.bl true) H1 else tb σ H1 Q
def zHq (ta:TE):TE:=fun σ H Q=>ta σ H fun x H1=>∃ c,x = .bl c/\Q (.bl (!c)) H1
theorem Q9 {op} {t:TE} (h:PE X a t):PE X (.BoolOp op [a] pos) t:=fun pins s σ H Q I hw=>BoolOp_one (h pins s σ H Q I hw)
theorem Qo (ha:PE X a ta) (hb:PE X (.BoolOp .And (b::Zo) pos) tb):PE X (.BoolOp .And (a::b::Zo) pos) (zHi ta tb):=by
 intro pins s σ H Q I h
 refine BoolOp_and (thn (ha pins s σ H _ I h) fun v s1 zq=>?_)
 obtain ⟨x,H1,I1,r1,q1⟩:=zq
 obtain ⟨c,rfl,q1⟩:=q1
 cases r1
 refine wpAny_truthy_bool ?_
 cases c with
 | true=>exact hb pins s1 σ H1 Q I1 q1
 | false=>exact ⟨.bl false,H1,I1,rfl,q1⟩
theorem zIe (ha:PE X a ta) (hb:PE X (.BoolOp .Or (b::Zo) pos) tb):PE X (.BoolOp .Or (a::b::Zo) pos) (zJB ta tb):=by
 intro pins s σ H Q I h
 refine BoolOp_or (thn (ha pins s σ H _ I h) fun v s1 zq=>?_)
 obtain ⟨x,H1,I1,r1,q1⟩:=zq
 obtain ⟨c,rfl,q1⟩:=q1
 cases r1
 refine wpAny_truthy_bool ?_
 cases c with
 | false=>exact hb pins s1 σ H1 Q I1 q1
 | true=>exact ⟨.bl true,H1,I1,rfl,q1⟩
theorem zCi (ha:PE X a ta):PE X (.UnaryOp .Not a pos) (zHq ta):=by
 intro pins s σ H Q I h
 refine UnaryOp_ (thn (ha pins s σ H _ I h) fun v s1 zq=>?_)
 obtain ⟨x,H1,I1,r1,q1⟩:=zq
 obtain ⟨c,rfl,q1⟩:=q1
 cases r1
 exact not_of (wpAny_truthy_bool ⟨.bl (!c),H1,I1,rfl,q1⟩)
def tIf (t:TT) (ta tb:TE):TE:=fun σ H Q=>t σ H fun c H1=>if c=true then ta σ H1 Q else tb σ H1 Q
theorem Vh {c:Expr} (hc:PT X c tA) (ha:PE X a ta) (hb:PE X b tb):PE X (.IfExp c a b pos) (tIf tA ta tb):=by
 intro pins s σ H Q I h
 refine wpAny_IfExp (thn (hc pins s σ H _ I h) fun d s1 zq=>?_)
 obtain ⟨H1,I1,q1⟩:=zq
 cases d with
 | true=>exact ha pins s1 σ H1 Q I1 q1
 | false=>exact hb pins s1 σ H1 Q I1 q1
end
def SqL (K:W.Frag) (H:Hp) (a:Addr) (xs:List V):Prop:=
 Rd H a (.lst xs) \/
  ∃ (o:Obj) (its:Array Value) (n:Nat),K.lookup a=some o/\o.cls = .type "list" /\ o.dict=none/\o.data = .seq its n/\its.size<=sizeLine/\qE xs its.toList
def SqT (K:W.Frag) (H:Hp) (a:Addr) (xs:List V):Prop:=
 Rd H a (.tup xs) \/
  ∃ (o:Obj) (its:Array Value) (n:Nat),K.lookup a=some o/\o.cls = .type "tuple" /\ o.data = .seq its n/\its.size<=sizeLine/\qE xs its.toList
def zJ9:Value->Option V
 | .none=>some .non
 | .bool b=>some (.bl b)
 | .int i _=>some (.int i)
 | .str x _=>some (.str x)
 | .bytes b _=>some (.byt b)
 | .float b _=>some (.flt b)
 | .ref a=>some (.ref a)
 | .type n=>some (.ty n)
 | _=>none
variable {x:V}
theorem jX.abs {u:Value} (r:jX x u):zJ9 u=some x:=by
 cases x with
 | non=>cases r;rfl
 | bl _=>cases r;rfl
 | int _=>obtain ⟨t,rfl⟩:=r;rfl
 | str _=>obtain ⟨t,rfl⟩:=r;rfl
 | byt _=>obtain ⟨t,rfl⟩:=r;rfl
 | flt _=>obtain ⟨t,rfl⟩:=r;rfl
 | ref _=>cases r;rfl
 | ty _=>cases r;rfl
variable {y:V}
theorem jX.inj {u:Value} (r:jX x u) (q:jX y u):x=y:=Option.some.inj (r.abs.symm.trans q.abs)
theorem qE.inj : ∀ {xs ys:List V} {us:List Value},qE xs us->qE ys us->xs=ys
 | _,_,_,.nil,.nil=>rfl
 | _,_,_,.cons r t,.cons r' t'=>by rw [r.inj r',qE.inj t t']
section
variable {X : Cx} {pins : List (Addr × Obj)} {σ : St} {H : Hp} {s : Shared} {a : Addr} {xs ys : List V}
theorem SqL.of {K:W.Frag} (h:H a=some (.lst xs)):SqL K H a xs:=.inl (.inl h)
theorem SqT.of {K:W.Frag} (h:H a=some (.tup xs)):SqT K H a xs:=.inl (.inl h)
theorem Inv.list (I:Inv X pins σ H s) (h:SqL X.K H a xs) : ∃ its:List Value,qE xs its/\PlainL s.heap a its.toArray/\xs.length<=sizeLine:=by
 rcases h with h | ⟨o,its,n,hk,hc,hd,hs,hz,r⟩
 ·obtain ⟨z,its,n,r,e⟩:=h.ok I.hok
  exact ⟨its,r,⟨_,n,e,rfl,rfl,rfl⟩,z⟩
 ·refine ⟨its.toList,r,⟨o,n,I.kIn a o hk,hc,hd,by simpa using hs⟩,?_⟩
  have e:=r.length
  simp only [Array.length_toList] at e
  omega
theorem Inv.tuple (I:Inv X pins σ H s) (h:SqT X.K H a xs) : ∃ its:List Value,qE xs its/\IsTup s.heap a its.toArray/\xs.length<=sizeLine:=by
 rcases h with h | ⟨o,its,n,hk,hc,hs,hz,r⟩
 ·obtain ⟨z,its,r,p⟩:=h.ok I.hok
  exact ⟨its,r,p,z⟩
 ·refine ⟨its.toList,r,⟨o,I.kIn a o hk,hc,n,by simpa using hs⟩,?_⟩
  have e:=r.length
  simp only [Array.length_toList] at e
  omega
theorem Inv.list_inj (I:Inv X pins σ H s) (h:SqL X.K H a xs) (h':SqL X.K H a ys):xs=ys:=by
 obtain ⟨its,r,⟨o,n,e,_,_,d⟩,_⟩:=I.list h
 obtain ⟨its',r',⟨o',n',e',_,_,d'⟩,_⟩:=I.list h'
 rw [e] at e';cases e'
 rw [d] at d'
 injection d' with d1 _
 have:its=its':=by simpa using congrArg Array.toList d1
 subst this
 exact r.inj r'
theorem Inv.tuple_inj (I:Inv X pins σ H s) (h:SqT X.K H a xs) (h':SqT X.K H a ys):xs=ys:=by
 obtain ⟨its,r,⟨o,e,_,n,d⟩,_⟩:=I.tuple h
 obtain ⟨its',r',⟨o',e',_,n',d'⟩,_⟩:=I.tuple h'
 rw [e] at e';cases e'
 rw [d] at d'
 injection d' with d1 _
 have:its=its':=by simpa using congrArg Array.toList d1
 subst this
 exact r.inj r'
end
abbrev Cx.wish (X:Cx) (E:Value->Shared->Prop):Cx:={ X with xe:=E }
abbrev Cx.nox (X:Cx):Cx:=X.wish fun _ _=>False
theorem Cx.Ok.wish (ok:X.Ok) (E:Value->Shared->Prop):(X.wish E).Ok:=
 ⟨ok.mod,ok.kind,ok.glob,ok.blt,ok.above,ok.inj,ok.has,ok.cab,ok.hd,ok.frames,ok.stk,ok.exf,ok.bs,ok.bsz,ok.noex,ok.exfs,ok.funs,ok.frf⟩
theorem Cx.Ok.unwish (ok:(X.wish E).Ok):X.Ok:=
 ⟨ok.mod,ok.kind,ok.glob,ok.blt,ok.above,ok.inj,ok.has,ok.cab,ok.hd,ok.frames,ok.stk,ok.exf,ok.bs,ok.bsz,ok.noex,ok.exfs,ok.funs,ok.frf⟩
section
variable {X : Cx} {pins : List (Addr × Obj)} {σ : St} {H : Hp} {s : Shared} {E : Value -> Shared -> Prop}
theorem Inv.wish (I:Inv X pins σ H s) (E:Value->Shared->Prop):Inv (X.wish E) pins σ H s:=⟨I.ok.wish E,I.os,I.bare,I.base,I.loc,I.cell,I.free,I.freeC,I.pin,I.hok,I.len⟩
theorem Inv.unwish (I:Inv (X.wish E) pins σ H s):Inv X pins σ H s:=⟨I.ok.unwish,I.os,I.bare,I.base,I.loc,I.cell,I.free,I.freeC,I.pin,I.hok,I.len⟩
theorem SP.unwish {D:yr} {f:Flow} {s':Shared} (h:SP (X.wish E) pins D f s'):SP X pins D f s':=by
 cases f with
 | next=>obtain ⟨σ',H',I,q⟩:=h;exact ⟨σ',H',I.unwish,q⟩
 | brk=>obtain ⟨σ',H',I,q⟩:=h;exact ⟨σ',H',I.unwish,q⟩
 | cont=>obtain ⟨σ',H',I,q⟩:=h;exact ⟨σ',H',I.unwish,q⟩
 | ret u=>obtain ⟨v,σ',H',I,r,q⟩:=h;exact ⟨v,σ',H',I.unwish,r,q⟩
theorem PE.nox {t:TE} (h:PE X.nox e t):PE X e t:=fun pins s σ H Q I hw =>
 wpAny_mono (h pins s σ H Q (I.wish _) hw) (fun _ _ ⟨v,H',I',r,q⟩=>⟨v,H',I'.unwish,r,q⟩) fun _ _ z=>False.elim z
theorem PT.nox {t:TT} (h:PT X.nox e t):PT X e t:=fun pins s σ H Q I hw =>
 wpAny_mono (h pins s σ H Q (I.wish _) hw) (fun _ _ ⟨H',I',q⟩=>⟨H',I'.unwish,q⟩) fun _ _ z=>False.elim z
theorem PSs.nox {st:List Stmt} {t:TS} (h:PSs X.nox st t):PSs X st t:=fun pins s σ H D I hw =>
 wpAny_mono (h pins s σ H D (I.wish _) hw) (fun _ _ q=>q.unwish) fun _ _ z=>False.elim z
end
section
variable {X : Cx} {st : Stmt} {Zo : List Stmt} {t u : TS} {e : Expr} {te : TE} {pos : Pos}
def zG9:TS:=fun D σ H=>D.nx σ H
def zJb (t u:TS):TS:=fun D σ H=>t { D with nx:=u D } σ H
theorem zV:PSs X [] zG9:=fun _ _ σ H _ I h=>wpAny_execs_nil ⟨σ,H,I,h⟩
theorem zC (h1:PS X st t) (h2:PSs X Zo u):PSs X (st::Zo) (zJb t u):=by
 intro pins s σ H D I h
 refine wpAny_execs_cons (thn (h1 pins s σ H { D with nx:=u D } I h) fun f s1 q=>?_)
 cases f with
 | next =>
  obtain ⟨σ',H',I',q⟩:=q
  exact h2 pins s1 σ' H' D I' q
 | ret v=>exact q
 | brk=>exact q
 | cont=>exact q
theorem zE (h1:PS X st t):PSs X [st] t:=by
 intro pins s σ H D I h
 refine wpAny_execs_cons (thn (h1 pins s σ H D I h) fun f s1 q=>?_)
 cases f with
 | next=>exact wpAny_execs_nil q
 | ret v=>exact q
 | brk=>exact q
 | cont=>exact q
theorem Inv.quiet {pins:List (Addr × Obj)} {σ:St} (I:Inv X pins σ H s):interactive X.env=false:=by simp [interactive,I.ok.kind]
def zHH (te:TE):TS:=fun D σ H=>te σ H fun _ H1=>D.nx σ H1
theorem jo (he:PE X e te) (hs:swapsWith e none pos.line X.env=pure false:=by rfl):PS X (.Expr e pos) (zHH te):=by
 intro pins s σ H D I h
 exact wpAny_Expr_any (thn (he pins s σ H _ I h) fun v s1 ⟨x,H1,I1,r1,q1⟩=>⟨σ,H1,I1,q1⟩) I.quiet hs
def zJa (te:TE):TS:=fun D σ H=>te σ H D.rt
theorem zK (he:PE X e te):PS X (.Return (some e) pos) (zJa te):=by
 intro pins s σ H D I h
 exact wpAny_Return_some (thn (he pins s σ H _ I h) fun v s1 ⟨x,H1,I1,r1,q1⟩=>⟨x,σ,H1,I1,r1,q1⟩)
def zJT (c:TT) (t u:TS):TS:=fun D σ H=>c σ H fun b H1=>if b=true then t D σ H1 else u D σ H1
theorem zm {c:Expr} {a b:List Stmt} {tc:TT} (hc:PT X c tc) (ha:PSs X a t) (hb:PSs X b u):PS X (.If c a b pos) (zJT tc t u):=by
 intro pins s σ H D I h
 refine wpAny_If (thn (hc pins s σ H _ I h) fun d s1 zq=>?_)
 obtain ⟨H1,I1,q1⟩:=zq
 cases d with
 | true=>exact ha pins s1 σ H1 D I1 q1
 | false=>exact hb pins s1 σ H1 D I1 q1
def zGI:TS:=fun _ _ _=>False
theorem V4:PS X st zGI:=fun _ _ _ _ _ _ h=>h.elim
end
abbrev TG:=V->St->Hp->(St->Hp->Prop)->Prop
abbrev TGs:=List V->St->Hp->(St->Hp->Prop)->Prop
def PG (X:Cx) (target:Expr) (t:TG):Prop:=
 ∀ (pins:List (Addr × Obj)) (s:Shared) (σ:St) (H:Hp) (v:V) (u:Value) (Q:St->Hp->Prop),Inv X pins σ H s->jX v u->t v σ H Q ->
  wpAny (model X.prog X.w) X.A (assign target X.env u) (fun _ s'=>∃ σ' H',Inv X pins σ' H' s'/\Q σ' H') X.xe s
def PGs (X:Cx) (ts:List Expr) (t:TGs):Prop:=
 ∀ (pins:List (Addr × Obj)) (s:Shared) (σ:St) (H:Hp) (vs:List V) (us:List Value) (Q:St->Hp->Prop),Inv X pins σ H s->qE vs us->t vs σ H Q ->
  wpAny (model X.prog X.w) X.A (assignInOrder ((assignEach ts X.env).map (·.2)) us) (fun _ s'=>∃ σ' H',Inv X pins σ' H' s'/\Q σ' H') X.xe s
section
variable {X : Cx} {pos : Pos}
def zCC (i:Nat):TG:=fun v σ H Q=>Q (σ.set i (some v)) H
variable {i:Nat}
theorem zg {x:Str} (hN:X.N.Nodup) (hi:X.N[i]? = some x) (hx:Loc X.env.scope x) (hf:X.fn x=true\/X.env.scope.names.lookup x=some .local:=by first | exact .inl rfl | exact .inr rfl | assumption):PG X (.Name x pos) (zCC i):=by
 intro pins s σ H v u Q I r h
 exact wpAny_assign_Name (yC I hN hi hx r (fun s' I'=>⟨_,H,I',h⟩) hf)
def zJV:TGs:=fun vs σ H Q=>vs=[]/\Q σ H
def zHr (t:TG) (u:TGs):TGs:=fun vs σ H Q=>∃ v r,vs=v::r/\t v σ H fun σ' H'=>u r σ' H' Q
theorem ky:PGs X [] zJV:=by
 intro pins s σ H vs us Q I r h
 obtain ⟨e,h⟩:=h
 subst e
 cases r
 exact assignInOrder_nil ⟨σ,H,I,h⟩
theorem zv {es:List Expr} {t:TG} {u:TGs} (h1:PG X e t) (h2:PGs X es u)
  (hs:(assignEach (e::es) X.env).map (·.2)=assign e X.env::(assignEach es X.env).map (·.2):=by rfl):PGs X (e::es) (zHr t u):=by
 intro pins s σ H vs us Q I r h
 obtain ⟨v,vr,e1,h⟩:=h
 subst e1
 cases r with
 | cons r rr =>
  rw [hs]
  refine assignInOrder_cons (thn (h1 pins s σ H _ _ _ I r h) fun _ s1 zq=>?_)
  obtain ⟨σ1,H1,I1,q1⟩:=zq
  exact h2 pins s1 σ1 H1 _ _ Q I1 rr q1
def zJE (K:W.Frag) (n:Nat) (t:TGs):TG:=fun v σ H Q=>∃ a xs,v = .ref a/\SqT K H a xs/\xs.length=n/\t xs σ H Q
theorem JI {es:List Expr} {k:Nat} {t:TGs} {n:Nat} (hc:X.calm=true) (h:PGs X es t)
  (hn:(assignEach es X.env).length=n:=by rfl) (hst:(assignEach es X.env).findIdx? (·.1)=none:=by rfl):PG X (.Tuple es k pos) (zJE X.K n t):=by
 intro pins s σ H v u Q I r hw
 obtain ⟨a,xs,e1,hq,hl,hw⟩:=hw
 subst e1
 cases r
 obtain ⟨its,rv,ht,hz⟩:=I.tuple hq
 refine assign_Tuple_tuple (I.ok.hd hc) ht (by simp [hn,<- hl,rv.length]) hst fun h' hx=>?_
 have I1:Inv X pins σ H { s with heap:=h' }:=I.kept (t':=s.toks) fun b o e=>hx b o (ne_of_lt (Heap.lt_size e)) e
 exact h pins _ σ H xs _ Q I1 (by simpa using rv) hw
def zHx (te:TE) (g:TG):TS:=fun D σ H=>te σ H fun x H1=>g x σ H1 D.nx
theorem Jv {tg:Expr} {te:TE} {g:TG} (he:PE X e te) (hg:PG X tg g) (hs:swapsWithSole [tg] e pos.line X.env=pure false:=by rfl) (hw:swappedStores [tg] e X.env=pure none:=by rfl)
  (h1:(assignEach [tg] X.env).map (·.2)=[assign tg X.env]:=by rfl):PS X (.Assign [tg] e pos) (zHx te g):=by
 intro pins s σ H D I h
 refine wpAny_Assign_stores (thn (he pins s σ H _ I h) fun v s1 zq=>?_) hs hw
 obtain ⟨x,H1,I1,r1,q1⟩:=zq
 rw [h1]
 exact thn (hg pins s1 σ H1 x v _ I1 r1 q1) fun _ s2 q=>q
theorem zJ {x:Str} {te:TE} {pos':Pos} (hN:X.N.Nodup) (hi:X.N[i]? = some x) (hx:Loc X.env.scope x) (he:PE X e te) (hs:swapsWith e (some (.Name x pos')) pos.line X.env=pure false:=by rfl) (hf:X.fn x=true\/X.env.scope.names.lookup x=some .local:=by first | exact .inl rfl | exact .inr rfl | assumption) :
  PS X (.Assign [.Name x pos'] e pos) (zHx te (zCC i)):=by
 intro pins s σ H D I h
 refine wpAny_Assign_Name (thn (he pins s σ H _ I h) fun v s1 zq=>?_) hs
 obtain ⟨y,H1,I1,r1,q1⟩:=zq
 exact yC I1 hN hi hx r1 (fun s2 I2=>⟨_,H1,I2,q1⟩) hf
def zJI (i j:Nat) (ta:TA):TS:=fun D σ H=>ta σ H fun vs H1=>∃ v w,vs=[v,w]/\D.nx ((σ.set i (some v)).set j (some w)) H1
theorem zCt {j:Nat} {x y:Str} {a b:Expr} {ta:TA} {px py pt:Pos} {kt k2 pt2} (hc:X.calm=true) (hN:X.N.Nodup) (hi:X.N[i]? = some x) (hj:X.N[j]? = some y) (hij:i≠j)
  (hx:X.env.scope.names.lookup x=some .local) (hy:X.env.scope.names.lookup y=some .local) (ha:PA X [a,b] ta)
  (hw:swappedStores [.Tuple [.Name x px,.Name y py] kt pt] (.Tuple [a,b] k2 pt2) X.env=pure (some [x,y]))
  (hs:swapsWithSole [.Tuple [.Name x px,.Name y py] kt pt] (.Tuple [a,b] k2 pt2) pos.line X.env=pure false:=by rfl) :
  PS X (.Assign [.Tuple [.Name x px,.Name y py] kt pt] (.Tuple [a,b] k2 pt2) pos) (zJI i j ta):=by
 intro pins s σ H D I h
 rw [exec_Assign_arm]
 refine wpAny_bind (wpAny_standAt ?_)
 rw [hs]
 refine wpAny_bind (wpAny_pure ?_)
 rw [if_neg (by decide)]
 refine wpAny_bind (Tuple_ (thn (ha _ pins s σ H _ I h) fun us s1 zq=>?_))
 obtain ⟨vs,H1,I1,r1,q1⟩:=zq
 obtain ⟨v,w,e1,q1⟩:=q1
 subst e1
 obtain ⟨u1,u2,rfl,rv,rw'⟩ : ∃ u1 u2,us=[u1,u2]/\jX v u1/\jX w u2:=by
  cases r1 with
  | cons p q =>
   cases q with
   | cons p' q' =>
    cases q'
    exact ⟨_,_,rfl,p,p'⟩
 refine wpAny_newObj_type ?_ (by show 2<=sizeLine;decide)
 have I2:Inv X pins σ H1 { s1 with heap:=s1.heap.push { cls:=.type "tuple", data:=.seq [u1,u2].toArray } }:=I1.kept (t':=s1.toks) fun b o e=>Heap.get?_push_of_some _ e
 rw [hw]
 refine wpAny_bind (wpAny_pure ?_)
 show wpAny (model X.prog X.w) X.A (do rule "assign.swapped-stores"; let items <- unpackItems (.ref s1.heap.objs.size) 2 none;assignInOrder [fun v=>bindName X.env y v,fun v=>bindName X.env x v] items.reverse;pure Flow.next) _ _ _
 refine wpAny_bind (wpAny_rule (wpAny_bind (unpackItems_tuple (items:=#[u1,u2]) (I.ok.hd hc) (IsTup.new s1.heap _) fun h' hx'=>?_)))
 have I3:=I2.kept (h':=h') (t':=s1.toks) fun b o e=>hx' b o (ne_of_lt (Heap.lt_size e)) e
 show wpAny _ _ (assignInOrder [fun v=>bindName X.env y v,fun v=>bindName X.env x v] [u2,u1] >>= fun _=>pure Flow.next) _ _ _
 refine wpAny_bind (assignInOrder_cons (wpAny_bindName (yC I3 hN hj (.inl hy) rw' (fun s2 I4=>?_) (.inr hy))))
 refine assignInOrder_cons (wpAny_bindName (yC I4 hN hi (.inl hx) rv (fun s3 I5=>assignInOrder_nil (wpAny_pure ?_)) (.inr hx)))
 rw [List.set_comm _ _ (Ne.symm hij)] at I5
 exact ⟨_,H1,I5,q1⟩
end
section
variable {X : Cx} {pos : Pos}
def zDG (c:TT) (tb:TS):TS:=fun D σ H=>∃ W:Nat->St->Hp->Prop,(∃ m,W m σ H) /\ ∀ m σ H,W m σ H ->
 c σ H fun b H1=>if b=true then ∃ N:St->Hp->Prop,(∀ σ' H',N σ' H' -> ∃ m',m' < m/\W m' σ' H')/\tb { D with nx:=N,ct:=N,bk:=D.nx } σ H1 else D.nx σ H1
theorem QM {c:Expr} {body:List Stmt} {tc:TT} {tb:TS} (hp:PassesOwn (model X.prog X.w) X.A X.env X.xe) (hc:PT X c tc) (hb:PSs X body tb):PS X (.While c body [] pos) (zDG tc tb):=by
 intro pins s σ H D I h
 obtain ⟨W,⟨m0,w0⟩,turn⟩:=h
 refine wpAny_While (codeAny_whileLoop (fun n s'=>∃ σ' H',Inv X pins σ' H' s'/\W n σ' H') ?_ m0 ⟨σ,H,I,w0⟩)
 rintro n s1 ⟨σ1,H1,I1,w1⟩
 refine wpAny_passesOwn hp (thn (hc pins s1 σ1 H1 _ I1 (turn n σ1 H1 w1)) fun b s2 zq=>?_)
 obtain ⟨H2,I2,q2⟩:=zq
 cases b with
 | true =>
  obtain ⟨N,hN,q2⟩:=q2
  rw [if_pos rfl]
  refine wpAny_passesOwn hp (thn (hb pins s2 σ1 H2 _ I2 q2) fun f s3 q3=>?_)
  cases f with
  | next =>
   obtain ⟨σ3,H3,I3,n3⟩:=q3
   obtain ⟨m',hm,w3⟩:=hN σ3 H3 n3
   exact ⟨m',hm,σ3,H3,I3,w3⟩
  | cont =>
   obtain ⟨σ3,H3,I3,n3⟩:=q3
   obtain ⟨m',hm,w3⟩:=hN σ3 H3 n3
   exact ⟨m',hm,σ3,H3,I3,w3⟩
  | brk=>exact q3
  | ret v=>exact q3
 | false =>
  rw [if_neg Bool.false_ne_true]
  exact wpAny_execs_nil ⟨σ1,H2,I2,q2⟩
end
structure It where
 go:Nat->Hp->Prop
 yld:Nat->Hp->V->Hp->Prop
 stop:Nat->Hp->Prop
def Kh (X:Cx) (pins:List (Addr × Obj)) (H:Hp) (b:Addr):Prop:=
 H b=none/\b≠X.env.locals/\b ∉ X.fs/\(b ∈ X.ex\/X.s₀.heap.objs.size<=b)/\(∀ x c,X.env.cells.lookup x=some c->c≠b) /\ ∀ p ∈ X.pn++pins,p.1≠b
variable {pins:List (Addr × Obj)} {σ:St}
theorem Inv.fpOk {H':Hp} {b:Addr} (I:Inv X pins σ H s) (hb:s.heap.objs.size<=b) (hn:H' b=none):Kh X pins H' b:=by
 refine ⟨hn,Nat.ne_of_gt (lt_of_lt_of_le I.lt hb),I.nofs hb,.inr (le_trans I.sz hb),fun x c e z=>?_,fun p hp z=>?_⟩
 ·obtain ⟨v,q⟩:=I.cell x c e
  exact absurd (lt_of_lt_of_le q.lt (by rw [z];exact hb)) (lt_irrefl _)
 ·exact absurd (lt_of_lt_of_le (Heap.lt_size (I.pin p hp).1) (by rw [z];exact hb)) (lt_irrefl _)
structure zEN (P:Program) (w:World) (K:W.Frag) (tg:Expr) (J:It) (fp:List Addr) (it:Addr) (tn:Nat->Heap->Prop):Prop where
 mem:it ∈ fp
 obj : ∀ i h,tn i h -> ∀ b ∈ fp,∃ o,h.get? b=some o /\ ∀ v,o.data ≠ .cell v
 keep : ∀ i h h',tn i h->(∀ b ∈ fp,∀ o,h.get? b=some o->h'.get? b=some o)->tn i h'
 item : ∀ (X:Cx),X.prog=P->X.w=w->X.K=K->X.calm=true -> ∀ (i:Nat) (pins:List (Addr × Obj)) (s:Shared) (σ:St) (H:Hp) (E:Value->Shared->Prop),Inv X pins σ H s->(∀ b ∈ fp,Kh X pins H b)->tn i s.heap->J.go i H ->
  wpAny (model P w) X.A (pyNext (.ref it)) (fun r s1=>∃ u,r=some u /\
   wpAny (model P w) X.A (letOwnedTupleGo tg (.ref it) u) (fun _ s2=>∃ x H',Inv X pins σ H' s2/\jX x u/\J.yld i H x H'/\tn (i+1) s2.heap /\ ∀ b ∈ fp,H' b=none) E s1) E s
 done : ∀ (X:Cx),X.prog=P->X.w=w->X.K=K->X.calm=true -> ∀ (i:Nat) (pins:List (Addr × Obj)) (s:Shared) (σ:St) (H:Hp) (E:Value->Shared->Prop),Inv X pins σ H s->(∀ b ∈ fp,Kh X pins H b)->tn i s.heap->J.stop i H ->
  wpAny (model P w) X.A (pyNext (.ref it)) (fun r s1=>r=none/\Inv X pins σ H s1) E s
 self : ∀ (A:Around) (i:Nat) (s:Shared) (Q:Value->Shared->Prop) (E:Value->Shared->Prop),tn i s.heap->Q (.ref it) s->wpAny (model P w) A (pyIter (.ref it)) Q E s
abbrev TI:=St->Hp->(It->Hp->Prop)->Prop
def PIE (X:Cx) (pins:List (Addr × Obj)) (σ:St) (tg:Expr) (R:It->Hp->Prop) (itv:Value) (s2:Shared):Prop:=
 ∃ (it:Addr) (fp:List Addr) (tn:Nat->Heap->Prop) (J:It) (H':Hp),itv = .ref it/\Inv X pins σ H' s2/\zEN X.prog X.w X.K tg J fp it tn/\tn 0 s2.heap/\(∀ b ∈ fp,Kh X pins H' b)/\R J H'
def PI (X:Cx) (tg iter:Expr) (wi:TI):Prop:=
 ∀ (pins:List (Addr × Obj)) (s:Shared) (σ:St) (H:Hp) (R:It->Hp->Prop),Inv X pins σ H s->wi σ H R ->
  wpAny (model X.prog X.w) X.A (eval iter X.env) (fun v s1=>wpAny (model X.prog X.w) X.A (pyIter v) (PIE X pins σ tg R) X.xe s1) X.xe s
variable {tg:Expr} {Q:Unit -> Shared -> Prop}
theorem zCY {M : Model} {it : Addr} {u : Value} {o : Obj} {n : String} {vs : Array Value} (ho : s.heap.get? it = some o) (hc : o.cls = .type n) (hd : o.data = .fields vs)
    (hn : ["enumerate", "zip", "dict_itemiterator", "dict_reverseitemiterator", "odict_iterator", "itertools.zip_longest", "itertools.pairwise"].contains n = false) (hQ : Q () s) : wpAny M A (letOwnedTupleGo tg (.ref it) u) Q E s := by
  unfold letOwnedTupleGo
  cases tg <;> first
    | exact wpAny_pure hQ
    | (cases u <;> first
        | exact wpAny_pure hQ
        | (refine wpAny_bind (wpAny_load ho ?_)
           rw [hc, hd]
           show wpAny M A (if (["enumerate", "zip", "dict_itemiterator", "dict_reverseitemiterator", "odict_iterator", "itertools.zip_longest", "itertools.pairwise"].contains n && vs[0]? == some (rawInt _)) = true then _ else _) Q E s
           rw [if_neg (by intro h; rw [hn, Bool.false_and] at h; cases h)]
           exact wpAny_pure hQ))
def Itl (K:W.Frag) (a:Addr):It:=
 ⟨fun i H=>∃ xs x,SqL K H a xs/\xs[i]? = some x,fun i H x H'=>H'=H /\ ∀ xs,SqL K H a xs->xs[i]? = some x,fun i H=>∃ xs,SqL K H a xs/\xs.length<=i⟩
def Itt (K:W.Frag) (a:Addr):It:=
 ⟨fun i H=>∃ xs x,SqT K H a xs/\xs[i]? = some x,fun i H x H'=>H'=H /\ ∀ xs,SqT K H a xs->xs[i]? = some x,fun i H=>∃ xs,SqT K H a xs/\xs.length<=i⟩
def Itr (lo:Int) (n:Nat):It:=⟨fun i _=>i < n,fun i H x H'=>H'=H/\x = .int (lo+i),fun i _=>n<=i⟩
variable {K:W.Frag}
theorem zAP (a it:Addr):zEN P w K tg (Itl K a) [it] it (fun i h=>h.IsListIter it a i) where
 mem:=by simp
 obj:=fun i h st b hb=>by
  have e:b=it:=by simpa using hb
  subst e
  obtain ⟨o,e,c,d⟩:=st
  exact ⟨o,e,fun v z=>by rw [d] at z;cases z⟩
 keep:=fun i h h' st k=>st.at fun o e=>k it (by simp) o e
 item:=by
  intro X hP hw hK hc i pins s σ H E I hf st hg
  subst hP hw hK
  obtain ⟨xs,x,hq,hx⟩:=hg
  obtain ⟨its,rv,p,hz⟩:=I.list hq
  obtain ⟨u,hu,ru⟩:=rv.get hx
  obtain ⟨f0,f1,f2,f3,f4,f5⟩:=hf it (by simp)
  refine wpAny_pyNext_list_item st p.isList (x:=u) (by simpa using hu) fun h' st' sb=>?_
  have I1:Inv X pins σ H { s with heap:=h' }:=I.turned (t':=s.toks) (fun b o hb e=>(sb.2 b hb).trans e) f0 f1 f3 f4 f5
  obtain ⟨o,e,c,d⟩:=id st'
  exact ⟨u,rfl,zCY (s:={ s with heap:=h' }) e c d (by decide) ⟨x,H,I1,ru,⟨rfl,fun ys hy=>by rw [I.list_inj hy hq];exact hx⟩,st',fun b hb=>(hf b hb).1⟩⟩
 done:=by
  intro X hP hw hK hc i pins s σ H E I hf st hg
  subst hP hw hK
  obtain ⟨xs,hq,hx⟩:=hg
  obtain ⟨its,rv,p,hz⟩:=I.list hq
  obtain ⟨f0,f1,f2,f3,f4,f5⟩:=hf it (by simp)
  have hl:=rv.length
  exact wpAny_pyNext_list_end (I.ok.hd hc) st p.isList (by simp;omega) fun h' eb=>⟨rfl,I.turned (t':=s.toks) (fun b o hb e=>eb b o hb e) f0 f1 f3 f4 f5⟩
 self:=fun _ _ _ _ _ st h=>wpAny_pyIter_listiter st h
theorem Kl (a it:Addr):zEN P w K tg (Itt K a) [it] it (fun i h=>h.IsTupleIter it a i) where
 mem:=by simp
 obj:=fun i h st b hb=>by
  have e:b=it:=by simpa using hb
  subst e
  obtain ⟨o,e,c,d⟩:=st
  exact ⟨o,e,fun v z=>by rw [d] at z;cases z⟩
 keep:=fun i h h' st k=>st.at fun o e=>k it (by simp) o e
 item:=by
  intro X hP hw hK hc i pins s σ H E I hf st hg
  subst hP hw hK
  obtain ⟨xs,x,hq,hx⟩:=hg
  obtain ⟨its,rv,p,hz⟩:=I.tuple hq
  obtain ⟨u,hu,ru⟩:=rv.get hx
  obtain ⟨f0,f1,f2,f3,f4,f5⟩:=hf it (by simp)
  refine wpAny_pyNext_tuple_item st (show s.heap.IsTuple a its.toArray from p) (x:=u) (by simpa using hu) fun h' st' sb=>?_
  have I1:Inv X pins σ H { s with heap:=h' }:=I.turned (t':=s.toks) (fun b o hb e=>(sb.2 b hb).trans e) f0 f1 f3 f4 f5
  obtain ⟨o,e,c,d⟩:=id st'
  exact ⟨u,rfl,zCY (s:={ s with heap:=h' }) e c d (by decide) ⟨x,H,I1,ru,⟨rfl,fun ys hy=>by rw [I.tuple_inj hy hq];exact hx⟩,st',fun b hb=>(hf b hb).1⟩⟩
 done:=by
  intro X hP hw hK hc i pins s σ H E I hf st hg
  subst hP hw hK
  obtain ⟨xs,hq,hx⟩:=hg
  obtain ⟨its,rv,p,hz⟩:=I.tuple hq
  obtain ⟨f0,f1,f2,f3,f4,f5⟩:=hf it (by simp)
  have hl:=rv.length
  exact wpAny_pyNext_tuple_end (I.ok.hd hc) st (show s.heap.IsTuple a its.toArray from p) (by simp;omega) fun h' eb=>⟨rfl,I.turned (t':=s.toks) (fun b o hb e=>eb b o hb e) f0 f1 f3 f4 f5⟩
 self:=fun _ _ _ _ _ st h=>wpAny_pyIter_tupleiter st h
theorem K4 {K:PySem.W.Frag} (it:Addr) (lo:Int) (n:Nat):zEN P w K tg (Itr lo n) [it] it (fun i h=>IsRangeIter h it (lo+(i:Nat)*1) ((n:Int) - (i:Nat)) 1) where
 mem:=by simp
 obj:=fun i h st b hb=>by
  have e:b=it:=by simpa using hb
  subst e
  exact ⟨_,st,fun v z=>by
   have z':Data.fields _=Data.cell v:=z
   cases z'⟩
 keep:=fun i h h' st k=>k it (by simp) _ st
 item:=by
  intro X hP hw hK hc i pins s σ H E I hf st hg
  subst hP hw hK
  obtain ⟨f0,f1,f2,f3,f4,f5⟩:=hf it (by simp)
  have W:=Walks.range (prog:=X.prog) (w:=X.w) (I.ok.hd hc) it lo 1 n
  refine W.item i s _ _ hg st fun v h' tk hv st' kk=>?_
  obtain ⟨t,rfl⟩:=hv
  have I1:Inv X pins σ H { s with heap:=h',toks:=tk }:=I.turned (fun b o hb e=>kk b o (by simpa using hb) e) f0 f1 f3 f4 f5
  refine ⟨_,rfl,zCY (s:={ s with heap:=h',toks:=tk }) (n:="range_iterator") st' rfl rfl (by decide) ⟨.int (lo+i),H,I1,⟨t,?_⟩,⟨rfl,rfl⟩,st',fun b hb=>(hf b hb).1⟩⟩
  rw [Int.mul_one]
 done:=by
  intro X hP hw hK hc i pins s σ H E I hf st hg
  subst hP hw hK
  obtain ⟨f0,f1,f2,f3,f4,f5⟩:=hf it (by simp)
  exact wpAny_pyNext_range_end (I.ok.hd hc) st (by have:n<=i:=hg;omega) fun h' eb=>⟨rfl,I.turned (t':=s.toks) (fun b o hb e=>eb b o hb e) f0 f1 f3 f4 f5⟩
 self:=fun _ _ _ _ _ st h=>wpAny_pyIter_rangeiter st h
section
variable {X : Cx} {tg : Expr}
def zFC (K:W.Frag) (tl:TE):TI:=fun σ H R=>tl σ H fun x H1=>∃ a,x = .ref a/\(∃ xs,SqL K H1 a xs)/\R (Itl K a) H1
def zJR (K:W.Frag) (tl:TE):TI:=fun σ H R=>tl σ H fun x H1=>∃ a,x = .ref a/\(∃ xs,SqT K H1 a xs)/\R (Itt K a) H1
theorem jS {l:Expr} {tl:TE} (hl:PE X l tl):PI X tg l (zFC X.K tl):=by
 intro pins s σ H R I h
 refine thn (hl pins s σ H _ I h) fun v s1 zq=>?_
 obtain ⟨x,H1,I1,r1,q1⟩:=zq
 obtain ⟨a,e,⟨xs,hq⟩,q⟩:=q1
 subst e
 cases r1
 obtain ⟨its,rv,p,hz⟩:=I1.list hq
 refine wpAny_pyIter_list p.isList ?_
 refine ⟨s1.heap.objs.size,[s1.heap.objs.size],_,_,H1,rfl,I1.kept (t':=s1.toks) fun b o e=>Heap.get?_push_of_some _ e,zAP a _,⟨_,Heap.get?_push_size _ rfl,rfl,rfl⟩,fun b hb=>?_,q⟩
 have e:b=s1.heap.objs.size:=by simpa using hb
 subst e
 exact I1.fpOk (le_refl _) (I1.hok.fresh (le_refl _))
theorem zGj {l:Expr} {tl:TE} (hl:PE X l tl):PI X tg l (zJR X.K tl):=by
 intro pins s σ H R I h
 refine thn (hl pins s σ H _ I h) fun v s1 zq=>?_
 obtain ⟨x,H1,I1,r1,q1⟩:=zq
 obtain ⟨a,e,⟨xs,hq⟩,q⟩:=q1
 subst e
 cases r1
 obtain ⟨its,rv,p,hz⟩:=I1.tuple hq
 refine wpAny_pyIter_tuple (show s1.heap.IsTuple a its.toArray from p) ?_
 refine ⟨s1.heap.objs.size,[s1.heap.objs.size],_,_,H1,rfl,I1.kept (t':=s1.toks) fun b o e=>Heap.get?_push_of_some _ e,Kl a _,⟨_,Heap.get?_push_size _ rfl,rfl,rfl⟩,fun b hb=>?_,q⟩
 have e:b=s1.heap.objs.size:=by simpa using hb
 subst e
 exact I1.fpOk (le_refl _) (I1.hok.fresh (le_refl _))
theorem KK {R:It->Hp->Prop} {lo hi:Int} {t u v:Tok} {tk:Nat} (I:Inv X pins σ H s) (h1 : -(2 ^ 62)<=lo) (h2:lo < 2 ^ 62) (h3 : -(2 ^ 62)<=hi) (h4:hi < 2 ^ 62)
  (q:R (Itr lo (hi - lo).toNat) H):wpAny (model X.prog X.w) X.A (pyIter (.ref s.heap.objs.size)) (PIE X pins σ tg R) E { s with heap:=s.heap.push { cls:=.type "range", data:=.fields #[.int lo t,.int hi u,.int 1 v] },toks:=tk }:=by
 refine wpAny_pyIter_range (IsRange.new ..) (small_one h1 h2 h3 h4) ?_
 have I1:Inv X pins σ H { s with heap:=s.heap.push { cls:=.type "range", data:=.fields #[.int lo t,.int hi u,.int 1 v] },toks:=tk }:=I.kept fun b o e=>Heap.get?_push_of_some _ e
 refine ⟨(s.heap.push { cls:=.type "range", data:=.fields #[.int lo t,.int hi u,.int 1 v] }).objs.size,[(s.heap.push { cls:=.type "range", data:=.fields #[.int lo t,.int hi u,.int 1 v] }).objs.size],_,_,H,rfl,
  I1.kept (t':=tk) fun b o e=>Heap.get?_push_of_some _ e,K4 _ lo (hi - lo).toNat,?_,fun b hb=>?_,q⟩
 ·have e1:lo+((0:Nat):Int)*1=lo:=by simp
  have e2:(((hi - lo).toNat:Nat):Int) - ((0:Nat):Int)=Builtin.Range.rangeSize lo hi 1:=by rw [rangeSize_one];split <;> omega
  show IsRangeIter _ _ (lo+((0:Nat):Int)*1) ((((hi - lo).toNat:Nat):Int) - ((0:Nat):Int)) 1
  rw [e1,e2]
  exact Heap.get?_push_size _ rfl
 ·have e:b=(s.heap.push { cls:=.type "range", data:=.fields #[.int lo t,.int hi u,.int 1 v] }).objs.size:=by simpa using hb
  subst e
  exact I1.fpOk (le_refl _) (I1.hok.fresh (le_refl _))
def zE6 (ta:TA):TI:=fun σ H R=>ta σ H fun vs H1=>∃ j:Int,vs=[.int j] /\ -(2 ^ 62)<=j/\j < 2 ^ 62/\R (Itr 0 j.toNat) H1
def zHM (ta:TA):TI:=fun σ H R=>ta σ H fun vs H1=>∃ i j:Int,vs=[.int i,.int j]/\(-(2 ^ 62)<=i/\i < 2 ^ 62 /\ -(2 ^ 62)<=j/\j < 2 ^ 62)/\R (Itr i (j - i).toNat) H1
variable {pos:Pos}
theorem yA {a:Expr} {ta:TA} {p:Pos} (hg:Gl X "range") (hm:X.mg "range" = none) (ha:PA X [a] ta) (hs:starEach [a] X.env=[(false,eval a X.env)]:=by rfl):PI X tg (.Call (.Name "range" p) [a] [] pos) (zE6 ta):=by
 intro pins s σ H R I h
 refine Call_ (J3 I hg hm boot_range (PyProof.Rows.callWith_type1 (thn (ha pos pins s σ H _ I h) fun us s1 zq=>?_) hs rfl))
 obtain ⟨vs,H1,I1,r1,q1⟩:=zq
 obtain ⟨j,e,q1,q2,q⟩:=q1
 subst e
 cases r1 with
 | cons r rr =>
  cases rr
  obtain ⟨t,rfl⟩:=r
  exact call_range_1 (KK I1 (by omega) (by omega) q1 q2 (by simpa using q))
theorem Xz {a b:Expr} {ta:TA} {p:Pos} (hg:Gl X "range") (hm:X.mg "range" = none) (ha:PA X [a,b] ta) (hs:starEach [a,b] X.env=[(false,eval a X.env),(false,eval b X.env)]:=by rfl) (hs2:starEach [b] X.env=[(false,eval b X.env)]:=by rfl) :
  PI X tg (.Call (.Name "range" p) [a,b] [] pos) (zHM ta):=by
 intro pins s σ H R I h
 refine Call_ (J3 I hg hm boot_range (PyProof.Rows.callWith_type1 (thn (ha pos pins s σ H _ I h) fun us s1 zq=>?_) (by rw [hs,hs2]) (by rw [hs2];rfl)))
 obtain ⟨vs,H1,I1,r1,q1⟩:=zq
 obtain ⟨i,j,e,⟨q1,q2,q3,q4⟩,q⟩:=q1
 subst e
 cases r1 with
 | cons r rr =>
  cases rr with
  | cons r' rr =>
   cases rr
   obtain ⟨t,rfl⟩:=r
   obtain ⟨t',rfl⟩:=r'
   exact call_range_2 (KK I1 q1 q2 q3 q4 q)
def zEq (wi:TI) (g:TG) (tb:TS):TS:=fun D σ H=>wi σ H fun J H1=>∃ W:Nat->Nat->St->Hp->Prop,(∃ m,W 0 m σ H1) /\ ∀ i m σ H,W i m σ H ->
 (J.stop i H/\D.nx σ H)\/(J.go i H /\ ∃ N:St->Hp->Prop,(∀ σ' H',N σ' H' -> ∃ m',m' < m/\W (i+1) m' σ' H') /\ ∀ x H',J.yld i H x H'->g x σ H' fun σ2 H2=>tb { D with nx:=N,ct:=N,bk:=D.nx } σ2 H2)
def YF (fp:List Addr) (h:Heap):List (Addr × Obj):=fp.filterMap fun b=>(h.get? b).map fun o=>(b,o)
variable {fp:List Addr}
theorem y9 {b:Addr} {o:Obj} (hb:b ∈ fp) (e:h.get? b=some o):(b,o) ∈ YF fp h:=List.mem_filterMap.mpr ⟨b,hb,by rw [e];rfl⟩
theorem zAE {p:Addr × Obj} (hp:p ∈ YF fp h):p.1 ∈ fp/\h.get? p.1=some p.2:=by
 obtain ⟨b,hb,e⟩:=List.mem_filterMap.mp hp
 cases q:h.get? b with
 | none=>rw [q] at e;cases e
 | some o =>
  rw [q] at e
  have e':(b,o)=p:=Option.some.inj e
  subst e'
  exact ⟨hb,q⟩
theorem Inv.pinned (I:Inv X pins σ H s) (hf : ∀ b ∈ fp,Kh X pins H b) (ho : ∀ b ∈ fp,∃ o,s.heap.get? b=some o /\ ∀ v,o.data ≠ .cell v):Inv X (pins++YF fp s.heap) σ H s:=
 I.pins_of fun p hp=>(List.mem_append.mp hp).elim (fun z=>I.pin p (mem_append_right _ z)) fun z=>by
  obtain ⟨hb,e⟩:=zAE z
  obtain ⟨f0,f1,f2,_⟩:=hf p.1 hb
  obtain ⟨o,e',d⟩:=ho p.1 hb
  rw [e] at e';cases e'
  exact ⟨e,f0,f1,f2,d⟩
theorem Inv.unpinned {pl:List (Addr × Obj)} (I:Inv X (pins++pl) σ H s):Inv X pins σ H s:=I.pins_of fun p hp=>I.pin p (mem_append_right _ (List.mem_append_left _ hp))
theorem xx {iter:Expr} {body:List Stmt} {wi:TI} {g:TG} {tb:TS} (hp:PassesOwn (model X.prog X.w) X.A X.env X.xe) (hc:X.calm=true) (hi:PI X tg iter wi) (hg:PG X tg g) (hb:PSs X body tb)
  (hs : ∀ x,foldedSetIterable iter X.env x=pure x:=by intro _;rfl):PS X (.For tg iter body [] pos) (zEq wi g tb):=by
 intro pins s σ H D I h
 refine wpAny_For (thn (hi pins s σ H _ I h) fun v s1 h1=>thn h1 fun itv s2 h2=>?_) hs
 obtain ⟨it,fp,tn,J,H2,e,I2,T,st2,f2,W,⟨m0,w0⟩,turn⟩:=h2
 subst e
 have stat : ∀ {H':Hp},(∀ b ∈ fp,H' b=none) -> ∀ b ∈ fp,Kh X pins H' b:=fun hn b hb=>⟨hn b hb,(f2 b hb).2⟩
 refine codeAny_forLoop_any (fun n s'=>∃ i σ' H',Inv X pins σ' H' s'/\tn i s'.heap/\(∀ b ∈ fp,H' b=none)/\W i n σ' H') ?_ m0 ⟨0,σ,H2,I2,st2,fun b hb=>(f2 b hb).1,w0⟩
 rintro n s3 ⟨i,σ3,H3,I3,st3,fr3,w3⟩
 rcases turn i n σ3 H3 w3 with ⟨stop,qn⟩ | ⟨go,N,hN,step⟩
 ·refine wpAny_passesOwn hp (thn (T.done X rfl rfl rfl hc i pins s3 σ3 H3 X.xe I3 (stat fr3) st3 stop) fun r s4 zq=>?_)
  obtain ⟨hr,I4⟩:=zq
  subst hr
  exact wpAny_execs_nil ⟨σ3,H3,I4,qn⟩
 ·refine wpAny_passesOwn hp (thn (T.item X rfl rfl rfl hc i pins s3 σ3 H3 X.xe I3 (stat fr3) st3 go) fun r s4 zq=>?_)
  obtain ⟨u,hr,h4⟩:=zq
  subst hr
  refine wpAny_passesOwn hp (thn h4 fun _ s5 zq=>?_)
  obtain ⟨x,H5,I5,r5,y5,st5,fr5⟩:=zq
  have I5':=I5.pinned (stat fr5) (T.obj _ _ st5)
  refine wpAny_passesOwn hp (thn (hg _ s5 σ3 H5 x u _ I5' r5 (step x H5 y5)) fun _ s6 zq=>?_)
  obtain ⟨σ6,H6,I6,q6⟩:=zq
  refine wpAny_passesOwn hp (thn (hb _ s6 σ6 H6 _ I6 q6) fun f s7 q7=>?_)
  have again : ∀ {σ7:St} {H7:Hp},Inv X (pins++YF fp s5.heap) σ7 H7 s7->N σ7 H7 -> ∃ m,m < n /\ ∃ i σ' H',Inv X pins σ' H' s7/\tn i s7.heap/\(∀ b ∈ fp,H' b=none)/\W i m σ' H':=fun {σ7 H7} I7 n7=>by
   obtain ⟨m',hm,w7⟩:=hN σ7 H7 n7
   refine ⟨m',hm,i+1,σ7,H7,I7.unpinned,T.keep _ _ _ st5 fun b hb o e=>(I7.pin (b,o) (mem_append_right _ (mem_append_right _ (y9 hb e)))).1,fun b hb=>?_,w7⟩
   obtain ⟨o,e,d⟩:=T.obj _ _ st5 b hb
   exact (I7.pin (b,o) (mem_append_right _ (mem_append_right _ (y9 hb e)))).2.1
  cases f with
  | next=>obtain ⟨σ7,H7,I7,n7⟩:=q7;exact again I7 n7
  | cont=>obtain ⟨σ7,H7,I7,n7⟩:=q7;exact again I7 n7
  | brk=>obtain ⟨σ7,H7,I7,q7⟩:=q7;exact ⟨σ7,H7,I7.unpinned,q7⟩
  | ret v=>obtain ⟨x7,σ7,H7,I7,r7,q7⟩:=q7;exact ⟨x7,σ7,H7,I7.unpinned,r7,q7⟩
end
variable {g:TG} {tb:TS} {D:yr}
theorem zCa {K:PySem.W.Frag} (Pv:Nat->St->Hp->Prop) (h0:Pv 0 σ H) (hl : ∀ i σ H,i<=xs.length->Pv i σ H->SqL K H a xs)
  (hs : ∀ i x σ H,xs[i]? = some x->Pv i σ H->g x σ H fun σ2 H2=>tb { D with nx:=Pv (i+1),ct:=Pv (i+1),bk:=D.nx } σ2 H2) (hd : ∀ σ H,Pv xs.length σ H->D.nx σ H) :
  ∃ W:Nat->Nat->St->Hp->Prop,(∃ m,W 0 m σ H) /\ ∀ i m σ H,W i m σ H ->
   ((Itl K a).stop i H/\D.nx σ H)\/((Itl K a).go i H /\ ∃ N:St->Hp->Prop,(∀ σ' H',N σ' H' -> ∃ m',m' < m/\W (i+1) m' σ' H') /\ ∀ x H',(Itl K a).yld i H x H'->g x σ H' fun σ2 H2=>tb { D with nx:=N,ct:=N,bk:=D.nx } σ2 H2):=by
 refine ⟨fun i m σ H=>m=xs.length - i/\i<=xs.length/\Pv i σ H,⟨xs.length,by simp,zero_le _,h0⟩,?_⟩
 rintro i m σ H ⟨rfl,hi,p⟩
 have q:=hl i σ H hi p
 by_cases hlt:i < xs.length
 ·refine .inr ⟨⟨xs,xs[i],q,by simp [hlt]⟩,Pv (i+1),fun σ' H' p'=>⟨xs.length - (i+1),by omega,rfl,hlt,p'⟩,fun x H' y=>?_⟩
  obtain ⟨e,y⟩:=y
  subst e
  exact hs i x σ _ (y xs q) p
 ·have e:i=xs.length:=by omega
  subst e
  exact .inl ⟨⟨xs,q,le_refl _⟩,hd σ H p⟩
theorem zEz {K:PySem.W.Frag} (Pv:Nat->St->Hp->Prop) (h0:Pv 0 σ H) (hl : ∀ i σ H,i<=xs.length->Pv i σ H->SqT K H a xs)
  (hs : ∀ i x σ H,xs[i]? = some x->Pv i σ H->g x σ H fun σ2 H2=>tb { D with nx:=Pv (i+1),ct:=Pv (i+1),bk:=D.nx } σ2 H2) (hd : ∀ σ H,Pv xs.length σ H->D.nx σ H) :
  ∃ W:Nat->Nat->St->Hp->Prop,(∃ m,W 0 m σ H) /\ ∀ i m σ H,W i m σ H ->
   ((Itt K a).stop i H/\D.nx σ H)\/((Itt K a).go i H /\ ∃ N:St->Hp->Prop,(∀ σ' H',N σ' H' -> ∃ m',m' < m/\W (i+1) m' σ' H') /\ ∀ x H',(Itt K a).yld i H x H'->g x σ H' fun σ2 H2=>tb { D with nx:=N,ct:=N,bk:=D.nx } σ2 H2):=by
 refine ⟨fun i m σ H=>m=xs.length - i/\i<=xs.length/\Pv i σ H,⟨xs.length,by simp,zero_le _,h0⟩,?_⟩
 rintro i m σ H ⟨rfl,hi,p⟩
 have q:=hl i σ H hi p
 by_cases hlt:i < xs.length
 ·refine .inr ⟨⟨xs,xs[i],q,by simp [hlt]⟩,Pv (i+1),fun σ' H' p'=>⟨xs.length - (i+1),by omega,rfl,hlt,p'⟩,fun x H' y=>?_⟩
  obtain ⟨e,y⟩:=y
  subst e
  exact hs i x σ _ (y xs q) p
 ·have e:i=xs.length:=by omega
  subst e
  exact .inl ⟨⟨xs,q,le_refl _⟩,hd σ H p⟩
theorem Xo {lo:Int} {n:Nat} (Pv:Nat->St->Hp->Prop) (h0:Pv 0 σ H)
  (hs : ∀ i σ H,i < n->Pv i σ H->g (.int (lo+i)) σ H fun σ2 H2=>tb { D with nx:=Pv (i+1),ct:=Pv (i+1),bk:=D.nx } σ2 H2) (hd : ∀ σ H,Pv n σ H->D.nx σ H) :
  ∃ W:Nat->Nat->St->Hp->Prop,(∃ m,W 0 m σ H) /\ ∀ i m σ H,W i m σ H ->
   ((Itr lo n).stop i H/\D.nx σ H)\/((Itr lo n).go i H /\ ∃ N:St->Hp->Prop,(∀ σ' H',N σ' H' -> ∃ m',m' < m/\W (i+1) m' σ' H') /\ ∀ x H',(Itr lo n).yld i H x H'->g x σ H' fun σ2 H2=>tb { D with nx:=N,ct:=N,bk:=D.nx } σ2 H2):=by
 refine ⟨fun i m σ H=>m=n - i/\i<=n/\Pv i σ H,⟨n,by simp,zero_le _,h0⟩,?_⟩
 rintro i m σ H ⟨rfl,hi,p⟩
 by_cases hlt:i < n
 ·refine .inr ⟨hlt,Pv (i+1),fun σ' H' p'=>⟨n - (i+1),by omega,rfl,hlt,p'⟩,fun x H' y=>?_⟩
  obtain ⟨e,y⟩:=y
  subst e y
  exact hs i σ _ hlt p
 ·have e:i=n:=by omega
  subst e
  exact .inl ⟨le_refl _,hd σ H p⟩
abbrev R2:=V->V->Hp->VK->Prop
def OpR (X:Cx) (f:Value->Value->Sem Value) (r:R2):Prop:=
 ∀ (pins:List (Addr × Obj)) (s:Shared) (σ:St) (H:Hp) (x y:V) (v u:Value) (Q:VK),Inv X pins σ H s->jX x v->jX y u->r x y H Q ->
  wpAny (model X.prog X.w) X.A (f v u) (EP X pins σ Q) X.xe s
def UnR (X:Cx) (f:Value->Sem Value) (r:V->Hp->VK->Prop):Prop:=
 ∀ (pins:List (Addr × Obj)) (s:Shared) (σ:St) (H:Hp) (x:V) (v:Value) (Q:VK),Inv X pins σ H s->jX x v->r x H Q ->
  wpAny (model X.prog X.w) X.A (f v) (EP X pins σ Q) X.xe s
def yE (X:Cx) (f:Value) (r:List V->Hp->VK->Prop):Prop:=
 ∀ (pins:List (Addr × Obj)) (s:Shared) (σ:St) (H:Hp) (xs:List V) (us:List Value) (Q:VK),Inv X pins σ H s->qE xs us->r xs H Q ->
  wpAny (model X.prog X.w) X.A (call f us) (EP X pins σ Q) X.xe s
def tOp (r:R2) (ta tb:TE):TE:=fun σ H Q=>ta σ H fun x H1=>tb σ H1 fun y H2=>r x y H2 Q
def tUn (r:V->Hp->VK->Prop) (ta:TE):TE:=fun σ H Q=>ta σ H fun x H1=>r x H1 Q
def rI (C:Int->Int->Prop) (g:Int->Int->V):R2:=fun x y H Q=>∃ i j,x = .int i/\y = .int j/\C i j/\Q (g i j) H
def rI0 (g:Int->Int->V):R2:=fun x y H Q=>∃ i j,x = .int i/\y = .int j/\Q (g i j) H
def rU (g:Int->V):V->Hp->VK->Prop:=fun x H Q=>∃ i,x = .int i/\Q (g i) H
section
variable {X : Cx} {a b c : Expr} {ta tb tc : TE} {pos : Pos}
theorem zIs (ha:PE X a ta) (hb:PE X b tb) {R:V->V->Hp->Prop} (I:Inv X pins σ H s)
  (h:ta σ H fun x H1=>tb σ H1 fun y H2=>R x y H2) {Q:Value->Shared->Prop} {f:Value->Value->Sem Value}
  (hf : ∀ v u s2 x y H2,Inv X pins σ H2 s2->jX x v->jX y u->R x y H2->wpAny (model X.prog X.w) X.A (f v u) Q X.xe s2) :
  wpAny (model X.prog X.w) X.A (eval a X.env) (fun v s₁=>wpAny (model X.prog X.w) X.A (eval b X.env) (fun u s₂=>wpAny (model X.prog X.w) X.A (f v u) Q X.xe s₂) X.xe s₁) X.xe s:=by
 refine thn (ha pins s σ H _ I h) fun v s1 zq=>?_
 obtain ⟨x,H1,I1,r1,q1⟩:=zq
 refine thn (hb pins s1 σ H1 _ I1 q1) fun u s2 zq=>?_
 obtain ⟨y,H2,I2,r2,q2⟩:=zq
 exact hf v u s2 x y H2 I2 r1 r2 q2
theorem zM {op:Operator} {r:R2} (ho:OpR X (binaryOp op) r) (ha:PE X a ta) (hb:PE X b tb):PE X (.BinOp a op b pos) (tOp r ta tb):=by
 intro pins s σ H Q I h
 exact wpAny_BinOp (zIs ha hb I h fun v u s2 x y H2 I2 rx ry q=>ho pins s2 σ H2 x y v u Q I2 rx ry q)
theorem k7 {op:UnaryOp} {r:V->Hp->VK->Prop} (ho:UnR X (unaryOp op) r) (ha:PE X a ta):PE X (.UnaryOp op a pos) (tUn r ta):=by
 intro pins s σ H Q I h
 exact UnaryOp_ (thn (ha pins s σ H _ I h) fun v s1 ⟨x,H1,I1,r1,q1⟩=>ho pins s1 σ H1 x v Q I1 r1 q1)
theorem opI {f:Value->Value->Sem Value} {C:Int->Int->Prop} {g:Int->Int->Int}
  (rule : ∀ (i j:Int) (t u:Tok) (s:Shared) (Q:Value->Shared->Prop) (E:Value->Shared->Prop),C i j->Q (.int (g i j) s.toks) { s with toks:=s.toks+1 }->wpAny (model X.prog X.w) X.A (f (.int i t) (.int j u)) Q E s) :
  OpR X f (rI C fun i j=>.int (g i j)):=by
 intro pins s σ H x y v u Q I rx ry h
 obtain ⟨i,j,rfl,rfl,hc,q⟩:=h
 obtain ⟨t,rfl⟩:=rx
 obtain ⟨t',rfl⟩:=ry
 exact rule i j t t' s _ _ hc ⟨.int (g i j),H,I.tok _,⟨_,rfl⟩,q⟩
theorem zJJ {f:Value->Value->Sem Value} {g:Int->Int->Int}
  (rule : ∀ (i j:Int) (t u:Tok) (s:Shared) (Q:Value->Shared->Prop) (E:Value->Shared->Prop),Q (.int (g i j) s.toks) { s with toks:=s.toks+1 }->wpAny (model X.prog X.w) X.A (f (.int i t) (.int j u)) Q E s) :
  OpR X f (rI0 fun i j=>.int (g i j)):=by
 intro pins s σ H x y v u Q I rx ry h
 obtain ⟨i,j,rfl,rfl,q⟩:=h
 obtain ⟨t,rfl⟩:=rx
 obtain ⟨t',rfl⟩:=ry
 exact rule i j t t' s _ _ ⟨.int (g i j),H,I.tok _,⟨_,rfl⟩,q⟩
theorem zH2 {f:Value->Value->Sem Value} {g:Int->Int->Bool}
  (rule : ∀ (i j:Int) (t u:Tok) (s:Shared) (Q:Value->Shared->Prop) (E:Value->Shared->Prop),Q (.bool (g i j)) s->wpAny (model X.prog X.w) X.A (f (.int i t) (.int j u)) Q E s) :
  OpR X f (rI0 fun i j=>.bl (g i j)):=by
 intro pins s σ H x y v u Q I rx ry h
 obtain ⟨i,j,rfl,rfl,q⟩:=h
 obtain ⟨t,rfl⟩:=rx
 obtain ⟨t',rfl⟩:=ry
 exact rule i j t t' s _ _ ⟨.bl (g i j),H,I,rfl,q⟩
def zGP (i j:Int):Prop:=0<=j/\j<=1000000/\i.natAbs < 2 ^ 64
def zFN (i j:Int):Prop:=(-(2 ^ 64) < i/\i < 2 ^ 64)\/(-(2 ^ 64) < j/\j < 2 ^ 64)
theorem zFN.ok {i j:Int} (h:zFN i j):IntMulOk i j:=by
 rcases h with ⟨h1,h2⟩ | ⟨h1,h2⟩
 ·exact .of_left (intBits_le_64 h1 h2)
 ·exact .of_right (intBits_le_64 h1 h2)
theorem two_pow_nn (k:Nat):(0:Int)<=2 ^ k:=by
 rw [two_pow_cast]
 exact Int.natCast_nonneg _
theorem zp:OpR X (binaryOp .Add) (rI0 fun i j=>.int (i+j)):=zJJ fun _ _ _ _ _ _ _ q=>add_int q
theorem jJ:OpR X (binaryOp .Sub) (rI0 fun i j=>.int (i - j)):=zJJ fun _ _ _ _ _ _ _ q=>sub_int q
theorem zHK:OpR X (binaryOp .Mod) (rI (fun _ j=>0 < j) fun i j=>.int (i % j)):=opI fun i j _ _ _ _ _ hc q=>by
 have h1:(0:Int) < j:=hc
 exact mod_int' (by omega) (by rw [Int.fmod_eq_emod_of_nonneg i (by omega)];exact q)
theorem zGw:OpR X (binaryOp .Pow) (rI zGP fun i j=>.int (i ^ j.toNat)):=opI fun _ _ _ _ _ _ _ hc q=>pow_int_small hc.1 hc.2.1 hc.2.2 q
theorem zG6:OpR X (binaryOp .RShift) (rI (fun _ j=>0<=j) fun i j=>.int (i / 2 ^ j.toNat)):=opI fun i j _ _ _ _ _ hc q =>
 rshift_int hc (by rw [Int.fdiv_eq_ediv_of_nonneg i (two_pow_nn _)];exact q)
theorem unI {f:Value->Sem Value} {g:Int->Int}
  (rule : ∀ (i:Int) (t:Tok) (s:Shared) (Q:Value->Shared->Prop) (E:Value->Shared->Prop),Q (.int (g i) s.toks) { s with toks:=s.toks+1 }->wpAny (model X.prog X.w) X.A (f (.int i t)) Q E s) :
  UnR X f (rU fun i=>.int (g i)):=by
 intro pins s σ H x v Q I rx h
 obtain ⟨i,rfl,q⟩:=h
 obtain ⟨t,rfl⟩:=rx
 exact rule i t s _ _ ⟨.int (g i),H,I.tok _,⟨_,rfl⟩,q⟩
theorem xE:UnR X (unaryOp .USub) (rU fun i=>.int (-i)):=unI fun _ _ _ _ _ q=>neg_int q
end
def zJO:V->V->Bool
 | .non,.non=>true | .non,.int _=>true | .int _,.non=>true | .non,.bl _=>true | .bl _,.non=>true | .non,.str _=>true | .str _,.non=>true
 | .int _,.int _=>true | .bl _,.bl _=>true | .str _,.str _=>true | .byt _,.byt _=>true
 | .int _,.str _=>true | .str _,.int _=>true | .bl _,.str _=>true | .str _,.bl _=>true
 | _,_=>false
def rEq:R2:=fun x y H Q=>zJO x y=true/\Q (.bl (decide (x=y))) H
def rNe:R2:=fun x y H Q=>zJO x y=true/\Q (.bl (!decide (x=y))) H
theorem W5 {i j:Int}:decide (V.int i=V.int j)=(i == j):=by
 rw [Bool.eq_iff_iff]
 simp
theorem zC4 {i j:Bool}:decide (V.bl i=V.bl j)=(i == j):=by
 rw [Bool.eq_iff_iff]
 simp
theorem zAv {i j:Str}:decide (V.str i=V.str j)=(i == j):=by
 rw [Bool.eq_iff_iff]
 simp
theorem zA4 {i j:Array UInt8}:decide (V.byt i=V.byt j)=(i.toList == j.toList):=by
 rw [Bool.eq_iff_iff]
 cases i
 cases j
 simp
section
variable {X : Cx} {a b c : Expr} {ta tb tc : TE} {pos : Pos}
theorem z5 {Q:VK} {k k':Bool} (I:Inv X pins σ H s) (q:Q (.bl k) H) (e:k=k'):EP X pins σ Q (.bool k') s:=by
 subst e
 exact ⟨.bl k,H,I,rfl,q⟩
theorem qd:OpR X (compareOp .Eq) rEq:=by
 intro pins s σ H x y v u Q I rx ry h
 obtain ⟨hs,q⟩:=h
 cases x with
 | non =>
  cases rx
  cases y with
  | non=>cases ry;exact PySem.EqNone.eq_none_none (z5 I q (by simp))
  | bl j=>cases ry;exact PySem.EqNone.eq_none_bool (z5 I q (by simp))
  | int j=>obtain ⟨t',rfl⟩:=ry;exact PySem.EqNone.eq_none_int (z5 I q (by simp))
  | str j=>obtain ⟨t',rfl⟩:=ry;exact PySem.EqNone.eq_none_str (z5 I q (by simp))
  | _=>exact absurd (show false=true from hs) Bool.false_ne_true
 | bl i =>
  cases rx
  cases y with
  | non=>cases ry;exact PySem.EqNone.eq_bool_none (z5 I q (by simp))
  | bl j=>cases ry;exact eq_bool (z5 I q zC4)
  | str j=>obtain ⟨t',rfl⟩:=ry;exact PySem.EqMixed.eq_bool_str (z5 I q (by simp))
  | _=>exact absurd (show false=true from hs) Bool.false_ne_true
 | int i =>
  obtain ⟨t,rfl⟩:=rx
  cases y with
  | non=>cases ry;exact PySem.EqNone.eq_int_none (z5 I q (by simp))
  | int j=>obtain ⟨t',rfl⟩:=ry;exact eq_int (z5 I q W5)
  | str j=>obtain ⟨t',rfl⟩:=ry;exact PySem.EqMixed.eq_int_str (z5 I q (by simp))
  | _=>exact absurd (show false=true from hs) Bool.false_ne_true
 | str i =>
  obtain ⟨t,rfl⟩:=rx
  cases y with
  | non=>cases ry;exact PySem.EqNone.eq_str_none (z5 I q (by simp))
  | bl j=>cases ry;exact PySem.EqMixed.eq_str_bool (z5 I q (by simp))
  | int j=>obtain ⟨t',rfl⟩:=ry;exact PySem.EqMixed.eq_str_int (z5 I q (by simp))
  | str j=>obtain ⟨t',rfl⟩:=ry;exact eq_str (z5 I q zAv)
  | _=>exact absurd (show false=true from hs) Bool.false_ne_true
 | byt i =>
  obtain ⟨t,rfl⟩:=rx
  cases y with
  | byt j=>obtain ⟨t',rfl⟩:=ry;exact W.eq_bytes (z5 I q zA4)
  | _=>exact absurd (show false=true from hs) Bool.false_ne_true
 | _=>cases y <;> exact absurd (show false=true from hs) Bool.false_ne_true
theorem QY:OpR X (compareOp .NotEq) rNe:=by
 intro pins s σ H x y v u Q I rx ry h
 obtain ⟨hs,q⟩:=h
 cases x with
 | non =>
  cases rx
  cases y with
  | non=>cases ry;exact PySem.EqNone.ne_none_none (z5 I q (by simp))
  | bl j=>cases ry;exact PySem.EqNone.ne_none_bool (z5 I q (by simp))
  | int j=>obtain ⟨t',rfl⟩:=ry;exact PySem.EqNone.ne_none_int (z5 I q (by simp))
  | str j=>obtain ⟨t',rfl⟩:=ry;exact PySem.EqNone.ne_none_str (z5 I q (by simp))
  | _=>exact absurd (show false=true from hs) Bool.false_ne_true
 | bl i =>
  cases rx
  cases y with
  | non=>cases ry;exact PySem.EqNone.ne_bool_none (z5 I q (by simp))
  | bl j=>cases ry;exact ne_bool (z5 I q (congrArg not zC4))
  | str j=>obtain ⟨t',rfl⟩:=ry;exact PySem.EqMixed.ne_bool_str (z5 I q (by simp))
  | _=>exact absurd (show false=true from hs) Bool.false_ne_true
 | int i =>
  obtain ⟨t,rfl⟩:=rx
  cases y with
  | non=>cases ry;exact PySem.EqNone.ne_int_none (z5 I q (by simp))
  | int j=>obtain ⟨t',rfl⟩:=ry;exact ne_int (z5 I q (congrArg not W5))
  | str j=>obtain ⟨t',rfl⟩:=ry;exact PySem.EqMixed.ne_int_str (z5 I q (by simp))
  | _=>exact absurd (show false=true from hs) Bool.false_ne_true
 | str i =>
  obtain ⟨t,rfl⟩:=rx
  cases y with
  | non=>cases ry;exact PySem.EqNone.ne_str_none (z5 I q (by simp))
  | bl j=>cases ry;exact PySem.EqMixed.ne_str_bool (z5 I q (by simp))
  | int j=>obtain ⟨t',rfl⟩:=ry;exact PySem.EqMixed.ne_str_int (z5 I q (by simp))
  | str j=>obtain ⟨t',rfl⟩:=ry;exact ne_str (z5 I q (congrArg not zAv))
  | _=>exact absurd (show false=true from hs) Bool.false_ne_true
 | byt i =>
  obtain ⟨t,rfl⟩:=rx
  cases y with
  | byt j=>obtain ⟨t',rfl⟩:=ry;exact W.ne_bytes (z5 I q (congrArg not zA4))
  | _=>exact absurd (show false=true from hs) Bool.false_ne_true
 | _=>cases y <;> exact absurd (show false=true from hs) Bool.false_ne_true
theorem ZZ:OpR X (compareOp .Lt) (rI0 fun i j=>.bl (decide (i < j))):=zH2 fun _ _ _ _ _ _ _ q=>lt_int q
theorem X7:OpR X (compareOp .LtE) (rI0 fun i j=>.bl (decide (i<=j))):=zH2 fun _ _ _ _ _ _ _ q=>le_int q
theorem Zc:OpR X (compareOp .Gt) (rI0 fun i j=>.bl (decide (j < i))):=zH2 fun _ _ _ _ _ _ _ q=>gt_int q
theorem zEn:OpR X (compareOp .GtE) (rI0 fun i j=>.bl (decide (j<=i))):=zH2 fun _ _ _ _ _ _ _ q=>ge_int q
theorem zAZ:OpR X (compareOp .Lt) (fun x y H Q=>∃ i j,x = .str i/\y = .str j/\Q (.bl (decide (i.cps.toList < j.cps.toList))) H):=by
 intro pins s σ H x y v u Q I rx ry h
 obtain ⟨i,j,rfl,rfl,q⟩:=h
 obtain ⟨t,rfl⟩:=rx
 obtain ⟨t',rfl⟩:=ry
 exact lt_str (z5 I q rfl)
theorem zAA:OpR X (compareOp .In) (fun x y H Q=>∃ i j,x = .str i/\y = .str j/\Q (.bl (!(Builtin.Str.occurrences j i 0 j.length 1).isEmpty)) H):=by
 intro pins s σ H x y v u Q I rx ry h
 obtain ⟨i,j,rfl,rfl,q⟩:=h
 obtain ⟨t,rfl⟩:=rx
 obtain ⟨t',rfl⟩:=ry
 exact in_str (z5 I q rfl)
theorem zFQ:OpR X (compareOp .Is) (fun x y H Q=>y = .non/\Q (.bl (decide (x = .non))) H):=by
 intro pins s σ H x y v u Q I rx ry h
 obtain ⟨rfl,q⟩:=h
 cases ry
 refine is_none_gen (z5 I q ?_)
 cases x <;> first
  | (cases rx;rfl)
  | (obtain ⟨t,rfl⟩:=rx;rfl)
theorem zFA:OpR X (compareOp .IsNot) (fun x y H Q=>y = .non/\Q (.bl (!decide (x = .non))) H):=by
 intro pins s σ H x y v u Q I rx ry h
 obtain ⟨rfl,q⟩:=h
 cases ry
 refine isnot_none_gen (z5 I q ?_)
 cases x <;> first
  | (cases rx;rfl)
  | (obtain ⟨t,rfl⟩:=rx;rfl)
theorem YD:OpR X (compareOp .NotIn) (fun x y H Q=>∃ i j,x = .str i/\y = .str j/\Q (.bl (!(!(Builtin.Str.occurrences j i 0 j.length 1).isEmpty))) H):=by
 intro pins s σ H x y v u Q I rx ry h
 obtain ⟨i,j,rfl,rfl,q⟩:=h
 obtain ⟨t,rfl⟩:=rx
 obtain ⟨t',rfl⟩:=ry
 exact notIn_str (z5 I q rfl)
variable {op:CmpOp}
theorem zU (b:Expr) (h:op ≠ .In:=by decide) (h2:op ≠ .NotIn:=by decide):behindInMarks op b=false:=by
 have e1:(op == CmpOp.In)=false:=by cases op <;> first | rfl | exact absurd rfl h
 have e2:(op == CmpOp.NotIn)=false:=by cases op <;> first | rfl | exact absurd rfl h2
 cases b <;> simp [behindInMarks,e1,e2]
variable {r:R2}
theorem qY (ho:OpR X (compareOp op) r) (ha:PE X a ta) (hb:PE X b tb) (hm:behindInMarks op b=false):PE X (.Compare a [op] [b] pos) (tOp r ta tb):=by
 intro pins s σ H Q I h
 exact wpAny_Compare1 (zIs ha hb I h fun v u s2 x y H2 I2 rx ry q=>ho pins s2 σ H2 x y v u Q I2 rx ry q) hm
def zEG (t:TE):TT:=fun σ H Q=>t σ H fun x H'=>∃ k,x = .bl k/\Q k H'
theorem zQ (ho:OpR X (compareOp op) r) (ha:PE X a ta) (hb:PE X b tb) (hm:behindInMarks op b=false):PT X (.Compare a [op] [b] pos) (zEG (tOp r ta tb)):=by
 intro pins s σ H Q I h
 refine wpAny_isTrue_Compare1 (thn (ha pins s σ H _ I h) fun v s1 ⟨x,H1,I1,r1,q1⟩=>thn (hb pins s1 σ H1 _ I1 q1) fun u s2 ⟨y,H2,I2,r2,q2⟩ =>
  thn (ho pins s2 σ H2 x y v u _ I2 r1 r2 q2) fun c s3 ⟨z,H3,I3,r3,k,e,q3⟩=>?_) hm
 subst e
 cases r3
 exact wpAny_truthy_bool ⟨H3,I3,q3⟩
def zA3 (r r':R2) (ta tb tc:TE):TE:=fun σ H Q=>ta σ H fun x H1=>tb σ H1 fun y H2=>r x y H2 fun z H3=>∃ k,z = .bl k /\
 (if k=true then tc σ H3 fun w' H4=>r' y w' H4 Q else Q (.bl false) H3)
theorem zBs {op':CmpOp} {r':R2} (ho:OpR X (compareOp op) r) (ho':OpR X (compareOp op') r') (ha:PE X a ta) (hb:PE X b tb) (hc:PE X c tc)
  (hm:lastMarks [op,op'] [b,c]=false:=by with_unfolding_all rfl):PE X (.Compare a [op,op'] [b,c] pos) (zA3 r r' ta tb tc):=by
 intro pins s σ H Q I h
 refine Compare_chain (thn (ha pins s σ H _ I h) fun v s1 ⟨x,H1,I1,r1,q1⟩=>chain_link (thn (hb pins s1 σ H1 _ I1 q1) fun u s2 ⟨y,H2,I2,r2,q2⟩ =>
  thn (ho pins s2 σ H2 x y v u _ I2 r1 r2 q2) fun d s3 ⟨z,H3,I3,r3,k,e,q3⟩=>?_)) hm
 subst e
 cases r3
 refine wpAny_truthy_bool ?_
 cases k with
 | false=>exact ite_ff ⟨.bl false,H3,I3,rfl,q3⟩
 | true=>exact ite_tt (chain_last (thn (hc pins s3 σ H3 _ I3 q3) fun w' s4 ⟨z',H4,I4,r4,q4⟩=>ho' pins s4 σ H4 y z' u w' Q I4 r2 r4 q4))
theorem XV {op':CmpOp} {r':R2} (ho:OpR X (compareOp op) r) (ho':OpR X (compareOp op') r') (ha:PE X a ta) (hb:PE X b tb) (hc:PE X c tc)
  (hm:lastMarks [op,op'] [b,c]=false:=by with_unfolding_all rfl):PT X (.Compare a [op,op'] [b,c] pos) (zEG (zA3 r r' ta tb tc)):=by
 intro pins s σ H Q I h
 refine isTrue_chain (thn (ha pins s σ H _ I h) fun v s1 ⟨x,H1,I1,r1,q1⟩=>test_link (thn (hb pins s1 σ H1 _ I1 q1) fun u s2 ⟨y,H2,I2,r2,q2⟩ =>
  thn (ho pins s2 σ H2 x y v u _ I2 r1 r2 q2) fun d s3 ⟨z,H3,I3,r3,k,e,q3⟩=>?_)) hm
 subst e
 cases r3
 refine wpAny_truthy_bool ?_
 cases k with
 | false =>
  obtain ⟨k',e',q'⟩:=q3
  cases e'
  exact ite_ff ⟨H3,I3,q'⟩
 | true =>
  refine ite_tt (test_last (thn (hc pins s3 σ H3 _ I3 q3) fun w' s4 ⟨z',H4,I4,r4,q4⟩=>thn (ho' pins s4 σ H4 y z' u w' _ I4 r2 r4 q4) fun d' s5 zq=>?_))
  obtain ⟨z2,H5,I5,r5,k2,e2,q5⟩:=zq
  subst e2
  cases r5
  exact wpAny_truthy_bool ⟨H5,I5,q5⟩
theorem Ye:(sizeLine:Nat) < 2 ^ 63:=by rw [sizeLine_eq];decide
theorem K2:OpR X (binaryOp .Add) (fun x y H Q=>∃ i j,x = .str i/\y = .str j/\i.length+j.length<=sizeLine/\Q (.str (i++j)) H):=by
 intro pins s σ H x y v u Q I rx ry h
 obtain ⟨i,j,rfl,rfl,hz,q⟩:=h
 obtain ⟨t,rfl⟩:=rx
 obtain ⟨t',rfl⟩:=ry
 exact add_str (fun t' tk=>⟨.str (i++j),H,I.tok _,⟨_,rfl⟩,q⟩) hz
theorem KO (r:qE [x] us) : ∃ u,us=[u]/\jX x u:=by
 cases r with
 | cons r1 r2=>cases r2;exact ⟨_,rfl,r1⟩
theorem Wo (r:qE [x,y] us) : ∃ u w',us=[u,w']/\jX x u/\jX y w':=by
 cases r with
 | cons r1 r2 =>
  cases r2 with
  | cons r3 r4=>cases r4;exact ⟨_,_,rfl,r1,r3⟩
theorem zCO:yE X (.builtin "abs") (fun xs H Q=>∃ i,xs=[.int i]/\Q (.int (if i < 0 then -i else i)) H):=by
 intro pins s σ H xs us Q I r h
 obtain ⟨i,rfl,q⟩:=h
 obtain ⟨u,rfl,t,rfl⟩:=KO r
 exact call_abs_int fun u tk=>⟨.int (if i < 0 then -i else i),H,I.tok _,⟨_,rfl⟩,q⟩
theorem zAt (hc:X.calm=true):yE X (.builtin "max") (fun xs H Q=>∃ i j,xs=[.int i,.int j]/\Q (.int (if j > i then j else i)) H):=by
 intro pins s σ H xs us Q I r h
 obtain ⟨i,j,rfl,q⟩:=h
 obtain ⟨u,w',rfl,⟨t,rfl⟩,⟨t',rfl⟩⟩:=Wo r
 refine max_two_ints (I.ok.hd hc) fun h' tk k=>⟨_,H,I.kept k,?_,q⟩
 by_cases hj:j > i
 ·rw [if_pos hj,if_pos hj];exact ⟨_,rfl⟩
 ·rw [if_neg hj,if_neg hj];exact ⟨_,rfl⟩
theorem Wj (hc:X.calm=true):yE X (.builtin "min") (fun xs H Q=>∃ i j,xs=[.int i,.int j]/\Q (.int (if j < i then j else i)) H):=by
 intro pins s σ H xs us Q I r h
 obtain ⟨i,j,rfl,q⟩:=h
 obtain ⟨u,w',rfl,⟨t,rfl⟩,⟨t',rfl⟩⟩:=Wo r
 refine min_two_ints (I.ok.hd hc) fun h' tk k=>⟨_,H,I.kept k,?_,q⟩
 by_cases hj:j < i
 ·rw [if_pos hj,if_pos hj];exact ⟨_,rfl⟩
 ·rw [if_neg hj,if_neg hj];exact ⟨_,rfl⟩
end
structure zEj (h:Heap) (x dx C:Addr) (mA:Str->Option Value):Prop where
 obj:h.get? x=some (W.instObj C dx)
 ns:h.Ns1 dx mA
 ne:dx≠x
theorem Qe {dx:Addr} {mA:Str->Option Value} (n:h.Ns1 dx mA) : ∃ od,h.get? dx=some od /\ ∀ name,W.lookIn name od=some (mA name):=by
 obtain ⟨o,es,ep,ho,hd,hk,_,hm⟩:=n
 refine ⟨o,ho,fun name=>?_⟩
 have e:=hm name
 unfold nsFind findBy at e
 rw [<- Array.find?_toList] at e
 unfold W.lookIn
 rw [hd]
 dsimp only
 split
 ·rename_i y q
  rw [q] at e
  exact congrArg some e
 ·rename_i q
  rw [q] at e
  have a:es.toList.any (·.refKey)=false:=by
   rw [List.any_eq_false]
   intro y hy
   obtain ⟨z,t,hkey⟩:=hk y (Array.mem_toList_iff.mp hy)
   simp [DictEntry.refKey,hkey]
  have a' : ¬ es.toList.any (·.refKey)=true:=by rw [a];exact Bool.false_ne_true
  rw [if_neg a']
  exact congrArg some e
variable {C:Addr}
theorem zEj.look {x dx:Addr} {mA:Str->Option Value} (I:zEj h x dx C mA) : ∃ od,W.InstAt h x (W.instObj C dx) C (some od) /\ ∀ name,W.lookIn name od=some (mA name):=
 let ⟨od,ho,hl⟩:=Qe I.ns
 ⟨od,⟨I.obj,rfl,rfl,ho⟩,hl⟩
section
variable {prog : Program} {w : World} {A : Around} {E : Value -> Shared -> Prop} {s : Shared} {K : W.Frag} {x dx C f : Addr} {mA : Str -> Option Value} {name : Str} {v : Value}
theorem zD1 {expr:Bool} {Q:Value->Shared->Prop} (X:K.In s.heap) (I:zEj s.heap x dx C mA) (hg:W.plainGet K C name=true) (hh:W.hasDictIn K C=true)
  (ha:W.findIn K (.ref C) name=some none) (hv:mA name=some v) (hv':W.handedIn v=true) (h:Q v { s with toks:=s.toks+1 }) :
  wpAny (model prog w) A (getAttr (.ref x) name expr) Q E s:=by
 obtain ⟨od,J,hl⟩:=I.look
 exact W.get_value X J (W.plainGet_of hg).1 (W.findObj_own hh ha rfl (by rw [hl,hv])) hv' h
theorem zBi {pl:Sem Bool} {Q:Value × List Value->Shared->Prop} (X:K.In s.heap) (I:zEj s.heap x dx C mA) (hg:W.plainGet K C name=true)
  (hf:W.findIn K (.ref C) name=some (some (.ref f))) (ht:W.isFn K (.ref f)=true) (hv:mA name=none) (h:Q (.ref f,[.ref x]) s) :
  wpAny (model prog w) A (getMethod (.ref x) name pl) Q E s:=by
 obtain ⟨od,J,hl⟩:=I.look
 exact W.method_fn X J (W.plainGet_of hg).1 (W.plainGet_of hg).2 hf (beq_iff_eq.mp ht) (by show (W.lookIn name od).map (·.isSome)=some false;rw [hl,hv];rfl) h
theorem zE5 {ns:List Str} (X:K.In s.heap) (I:zEj s.heap x dx C mA)
  (hs:W.findIn K (.ref C) "__setattr__" = some (some (.builtin "object.__setattr__"))) (hp:W.plainOver K C=true) (ht:W.takerIn K C name=some none) (hh:W.hasDictIn K C=true)
  (hw:PySem.Within mA ns) (hsz:ns.length<=sizeLine)
  (h : ∀ h',zEj h' x dx C (fun y=>if y=name then some v else mA y)->Heap.SameBut dx s.heap h'->Q () { s with heap:=h',toks:=s.toks+2 }) :
  wpAny (model prog w) A (setAttr (.ref x) name v) Q E s:=by
 obtain ⟨od,J,hl⟩:=I.look
 refine W.set_plain X J hs (W.osa_open (s:={ s with toks:=s.toks+1 }) (r:=none) X J hp ht fun b=>?_)
 obtain ⟨cd,hc,hd'⟩:=W.any_some hh
 have hx:s.heap.get? x=some ⟨.ref C,some dx,.plain,#[]⟩:=I.obj
 refine wpAny_bind (wpAny_pure (wpAny_bind (wpAny_bind (wpAny_loadPart hx (wpAny_bind (W.Looks.here (s:={ s with toks:=s.toks+1 }) (W.looks_clsIn X hc) ?_))))))
 rw [hd']
 refine wpAny_pure (a:=some dx) (wpAny_bind (wpAny_pure (wpAny_bind ?_)))
 refine wpAny_nsSet1 (s:={ s with toks:=s.toks+1 }) I.ns fun h' hn2 hs2=>?_
 obtain ⟨oD,esD,epD,hoD,hdD,hcD⟩:=hn2.count (PySem.Within.cons name v hw)
 refine wpAny_bind (wpAny_lookBehind hoD (by rw [hdD];exact pastItsLine_dict (le_trans hcD (by rw [length_cons];omega))) ?_)
 exact wpAny_pure (h _ ⟨(hs2.2 _ (Ne.symm I.ne)).trans I.obj,hn2,I.ne⟩ hs2)
theorem zBU {R:Result->Shared->Prop} {vs:List Value} {kw:List (Str × Value)} (X:K.In s.heap) (hm:W.makesIn K C=true)
  (hi:W.findIn K (.ref C) "__init__" = some (some (.ref f))) (hf:W.typeIn K (.ref f)=some (.type "function"))
  (h:codeAny (model prog w) (A.under (.builtin "type.__call__" ⟨.ref C::vs,kw⟩)) (.call (.ref f) ⟨.ref (s.heap.objs.size+1)::vs,kw⟩) (W.InitBack (s.heap.objs.size+1) R)
   { s with heap:=(s.heap.push W.emptyDict).push (W.instObj C s.heap.objs.size) }) :
  codeAny (model prog w) A (.call (.ref C) ⟨vs,kw⟩) R s:=by
 obtain ⟨hh,g,d,t,os⟩:=s
 exact W.make_core (W.makes_of X hm) (W.looks_findIn X hi) (fun self=>W.bind_fn X self hf) (.inl rfl) h
end
def Z7 (f:Str) (v:V):List (Str × V)->List (Str × V)
 | []=>[(f,v)]
 | (g,x)::r=>if g=f then (g,v)::r else (g,x)::Z7 f v r
theorem Q8 (f g:Str) (v:V) : ∀ fs:List (Str × V),(Z7 f v fs).lookup g=if g=f then some v else fs.lookup g
 | []=>by
  show List.lookup g [(f,v)]=_
  by_cases h:g=f
  ·have hb:(g == f)=true:=beq_iff_eq.mpr h
   simp only [List.lookup,hb,if_pos h]
  ·have hb:(g == f)=false:=beq_eq_false_iff_ne.mpr h
   simp only [List.lookup,hb,if_neg h]
 | (k,x)::r=>by
  have ih:=Q8 f g v r
  rw [show Z7 f v ((k,x)::r)=(if k=f then (k,v)::r else (k,x)::Z7 f v r) from rfl]
  by_cases hk:k=f
  ·rw [if_pos hk]
   by_cases h:g=k
   ·have hb:(g == k)=true:=beq_iff_eq.mpr h
    simp only [List.lookup,hb,if_pos (h.trans hk)]
   ·have hb:(g == k)=false:=beq_eq_false_iff_ne.mpr h
    simp only [List.lookup,hb,if_neg (fun e:g=f=>h (e.trans hk.symm))]
  ·rw [if_neg hk]
   by_cases h:g=k
   ·have hb:(g == k)=true:=beq_iff_eq.mpr h
    simp only [List.lookup,hb,if_neg (fun e:g=f=>hk (h.symm.trans e))]
   ·have hb:(g == k)=false:=beq_eq_false_iff_ne.mpr h
    simp only [List.lookup,hb]
    exact ih
theorem Qu (f:Str) (v:V) : ∀ fs:List (Str × V),f ∈ (Z7 f v fs).map (·.1) /\ ∀ g,g ∈ fs.map (·.1)->g ∈ (Z7 f v fs).map (·.1)
 | []=>⟨by simp [Z7],fun g h=>by simp at h⟩
 | (k,x)::r=>by
  obtain ⟨i1,i2⟩:=Qu f v r
  rw [show Z7 f v ((k,x)::r)=(if k=f then (k,v)::r else (k,x)::Z7 f v r) from rfl]
  by_cases hk:k=f
  ·rw [if_pos hk]
   subst hk
   exact ⟨by simp,fun g h=>by simpa using h⟩
  ·rw [if_neg hk]
   refine ⟨?_,fun g h=>?_⟩
   ·rw [List.map_cons]
    exact mem_cons_of_mem _ i1
   ·rw [List.map_cons] at h ⊢
    rcases List.mem_cons.mp h with e | e
    ·exact List.mem_cons.mpr (.inl e)
    ·exact mem_cons_of_mem _ (i2 g e)
theorem QU (f:Str) (v:V) : ∀ fs:List (Str × V),(Z7 f v fs).length<=fs.length+1
 | []=>by simp [Z7]
 | (k,x)::r=>by
  have ih:=QU f v r
  rw [show Z7 f v ((k,x)::r)=(if k=f then (k,v)::r else (k,x)::Z7 f v r) from rfl]
  by_cases hk:k=f
  ·rw [if_pos hk,length_cons,length_cons];omega
  ·rw [if_neg hk,length_cons,length_cons];omega
theorem K3.some_of {v:V} {o:Option Value} (r:K3 (some v) o) : ∃ u,o=some u/\jX v u:=by
 cases o with
 | none=>exact (show False from r).elim
 | some u=>exact ⟨u,rfl,r⟩
theorem K3.none_of {o:Option Value} (r:K3 none o):o=none:=by
 cases o with
 | none=>rfl
 | some u=>exact (show False from r).elim
theorem YI {v:V} {u:Value} (r:jX v u):W.handedIn u=true:=by
 cases v with
 | non=>cases (show u=Value.none from r);rfl
 | bl b=>cases (show u=Value.bool b from r);rfl
 | int i=>obtain ⟨t,e⟩:=(show ∃ t,u=Value.int i t from r);cases e;rfl
 | str x=>obtain ⟨t,e⟩:=(show ∃ t,u=Value.str x t from r);cases e;rfl
 | byt b=>obtain ⟨t,e⟩:=(show ∃ t,u=Value.bytes b t from r);cases e;rfl
 | flt b=>obtain ⟨t,e⟩:=(show ∃ t,u=Value.float b t from r);cases e;rfl
 | ref a=>cases (show u=Value.ref a from r);rfl
 | ty n=>cases (show u=Value.type n from r);rfl
section
variable {P : Program} {w : World} {H H' : Hp} {h h' : Heap} {a C dx : Addr} {fs fs' : List (Str × V)}
theorem XW (hok:HOk P w H h) (e:H a=some (.ins C dx fs)) : ∃ mA,zEj h a dx C mA/\(∀ f,K3 (fs.lookup f) (mA f))/\PySem.Within mA (fs.map (·.1))/\fs.length<=1000/\H dx=some (.own a):=by
 obtain ⟨d,z,ne,ob,mA,n,r,q⟩:=(show jQ P w H h a (.ins C dx fs) from hok a _ e)
 exact ⟨mA,⟨ob,n,ne⟩,r,q,z,d⟩
end
structure Cls (K:W.Frag) (C:Addr):Prop where
 pg:W.plainGet K C Str.empty=true
 hd:W.hasDictIn K C=true
 po:W.plainOver K C=true
 sa:W.findIn K (.ref C) "__setattr__" = some (some (.builtin "object.__setattr__"))
theorem Cls.get (c:Cls K C) (f:Str):W.plainGet K C f=true:=c.pg
def xq (K:W.Frag) (C:Addr) (f:Str):Prop:=W.findIn K (.ref C) f=some none
theorem xq.taker {f:Str} (n:xq K C f):W.takerIn K C f=some none:=by
 unfold W.takerIn
 rw [show W.findIn K (.ref C) f=some none from n]
 rfl
structure zIy (K:W.Frag) (C:Addr) (m:Str) (f:Addr):Prop where
 at_:W.findIn K (.ref C) m=some (some (.ref f))
 fn:W.isFn K (.ref f)=true
 kp:W.keepIn K (.ref f)=true
section
variable {X : Cx} {pins : List (Addr × Obj)} {σ : St} {H : Hp} {s : Shared} {a C dx : Addr} {fs : List (Str × V)} {f : Str} {v : V} {A : Around} {E : Value -> Shared -> Prop}
theorem WN {b:Bool} {Q:Value->Shared->Prop} (I:Inv X pins σ H s) (e:H a=some (.ins C dx fs)) (c:Cls X.K C) (n:xq X.K C f) (l:fs.lookup f=some v)
  (h : ∀ u s',Inv X pins σ H s'->jX v u->Q u s'):wpAny (model X.prog X.w) A (getAttr (.ref a) f b) Q E s:=by
 obtain ⟨mA,O,r,_,_,_⟩:=XW I.hok e
 obtain ⟨u,hu,ru⟩:=K3.some_of (v:=v) (o:=mA f) (by rw [<- l];exact r f)
 exact zD1 I.kIn O (c.get f) c.hd n hu (YI ru) (h u _ (I.tok _) ru)
theorem Jc {m:Str} {g:Addr} {pl:Sem Bool} {Q:Value × List Value->Shared->Prop} (I:Inv X pins σ H s) (e:H a=some (.ins C dx fs)) (c:Cls X.K C) (k:zIy X.K C m g) (l:fs.lookup m=none)
  (h:Q (.ref g,[.ref a]) s):wpAny (model X.prog X.w) A (getMethod (.ref a) m pl) Q E s:=by
 obtain ⟨mA,O,r,_,_,_⟩:=XW I.hok e
 have hn:mA m=none:=K3.none_of (by rw [<- l];exact r m)
 exact zBi I.kIn O (c.get m) k.at_ k.fn hn h
theorem Ky {u:Value} (I:Inv X pins σ H s) (e:H a=some (.ins C dx fs)) (c:Cls X.K C) (n:xq X.K C f) (hl:fs.length < 1000) (ry:jX y u)
  (h : ∀ s',Inv X pins σ (upd H a (.ins C dx (Z7 f y fs))) s'->Q () s'):wpAny (model X.prog X.w) A (setAttr (.ref a) f u) Q E s:=by
 obtain ⟨mA,O,r,wi,_,ho⟩:=XW I.hok e
 have hz:(fs.map (·.1)).length<=sizeLine:=by rw [List.length_map,sizeLine_eq];omega
 refine zE5 I.kIn O c.sa c.po n.taker c.hd wi hz fun h' O' sb=>h _ ?_
 have hd : ∃ o,h'.get? dx=some o:=let ⟨o,_,_,e',_⟩:=O'.ns;⟨o,e'⟩
 refine I.write (x:=a) (e:=dx) (by rw [e];exact True.intro) (.inr ho) (fun b q hb z=>(sb.2 b hb).trans z) hd ?_
 refine ⟨by rw [ze O.ne];exact ho,?_,O.ne,O'.obj,_,O'.ns,fun g=>?_,fun g hg=>?_⟩
 ·have:=QU f y fs;omega
 ·show K3 ((Z7 f y fs).lookup g) (if g=f then some u else mA g)
  rw [Q8]
  by_cases q:g=f
  ·rw [if_pos q,if_pos q];exact ry
  ·rw [if_neg q,if_neg q];exact r g
 ·by_cases q:g=f
  ·rw [q];exact (Qu f y fs).1
  ·refine (Qu f y fs).2 g (wi g fun z=>hg ?_)
   show (if g=f then some u else mA g)=none
   rw [if_neg q];exact z
theorem Inv.made (I:Inv X pins σ H s):Inv X pins σ (upd (upd H s.heap.objs.size (.own (s.heap.objs.size+1))) (s.heap.objs.size+1) (.ins C s.heap.objs.size []))
  { s with heap:=(s.heap.push W.emptyDict).push (W.instObj C s.heap.objs.size) }:=by
 have e1:(s.heap.push W.emptyDict).get? s.heap.objs.size=some W.emptyDict:=Heap.get?_push_size s.heap rfl
 have e2:((s.heap.push W.emptyDict).push (W.instObj C s.heap.objs.size)).get? (s.heap.objs.size+1)=some (W.instObj C s.heap.objs.size):=by
  have:=Heap.get?_push_size (s.heap.push W.emptyDict) (o:=W.instObj C s.heap.objs.size) rfl
  rwa [Heap.size_push] at this
 have e3:(s.heap.push W.emptyDict).Ns s.heap.objs.size (fun _=>none):=⟨W.emptyDict,#[],_,e1,rfl,(fun e he=>absurd he (by simp)),fun _=>rfl⟩
 have I1:=I.laid (a:=s.heap.objs.size) (o:=.own (s.heap.objs.size+1)) (h':=s.heap.push W.emptyDict) (t':=s.toks) (fun b u q=>Heap.get?_push_of_some _ q) (le_refl _) ⟨_,e1⟩
 refine I1.laid (a:=s.heap.objs.size+1) (o:=.ins C s.heap.objs.size []) (t':=s.toks) (fun b u q=>Heap.get?_push_of_some _ q) (Nat.le_of_eq (Heap.size_push _ _)) ?_
 have ne:s.heap.objs.size≠s.heap.objs.size+1:=ne_of_lt (Nat.lt_succ_self _)
 refine ⟨by rw [ze ne,zS],zero_le _,ne,e2,fun _=>none,(Heap.Ns1.of_empty e3).at fun o q=>Heap.get?_push_of_some _ q,fun _=>True.intro,fun y hy=>absurd rfl hy⟩
theorem zBN {prog:Program} {env:Env} {f:Str} {pos:Pos} {Q:Value->Shared->Prop} (hb:attributeBase e f env (eval e env)=eval e env)
  (h:wpAny (model prog w) A (eval e env) (fun o s₁=>wpAny (model prog w) A (getAttr o f true) Q E s₁) E s):wpAny (model prog w) A (eval (.Attribute e f pos) env) Q E s:=
 Attribute_any_ h (by rw [arm_eval_Attribute,hb])
end
def zIc (K:W.Frag) (ta:TE) (f:Str):TE:=fun σ H Q=>ta σ H fun x H1=>∃ a C dx fs v,x = .ref a/\H1 a=some (.ins C dx fs)/\Cls K C/\xq K C f/\fs.lookup f=some v/\Q v H1
def zJH (K:W.Frag) (ta tv:TE) (f:Str):TS:=fun D σ H=>tv σ H fun y H1=>ta σ H1 fun x H2=>∃ a C dx fs,x = .ref a/\H2 a=some (.ins C dx fs)/\Cls K C/\xq K C f/\fs.length < 1000 /\
 D.nx σ (upd H2 a (.ins C dx (Z7 f y fs)))
section
variable {X : Cx} {o e value : Expr} {f : Str} {pos pos' tpos : Pos} {ta tv : TE}
theorem j0 (he:PE X e ta) (hb:attributeBase e f X.env (eval e X.env)=eval e X.env):PE X (.Attribute e f pos) (zIc X.K ta f):=by
 intro pins s σ H Q I h
 refine zBN hb (thn (he pins s σ H _ I h) fun u s1 zq=>?_)
 obtain ⟨x,H1,I1,rx,a,C,dx,fs,v,ex,ea,c,n,l,q⟩:=zq
 subst ex
 obtain rfl:u=Value.ref a:=rx
 exact WN I1 ea c n l fun u' s2 I2 ru=>⟨v,H1,I2,ru,q⟩
theorem jw (ha:PE X o ta) (hv:PE X value tv) (hs:swapsWith value (some (.Attribute o f pos')) pos.line X.env=pure false):PS X (.Assign [.Attribute o f pos'] value pos) (zJH X.K ta tv f):=by
 intro pins s σ H D I h
 refine plainObj_wpAny_Assign_Attribute (thn (hv pins s σ H _ I h) fun u s1 ⟨y,H1,I1,ry,q⟩=>thn (ha pins s1 σ H1 _ I1 q) fun ov s2 zq=>?_) hs
 obtain ⟨x,H2,I2,rx,a,C,dx,fs,ex,ea,c,n,l,q2⟩:=zq
 subst ex
 obtain rfl:ov=Value.ref a:=rx
 exact Ky I2 ea c n l ry fun s3 I3=>⟨σ,_,I3,q2⟩
end
section
variable {X : Cx} {pins : List (Addr × Obj)} {σ : St} {H : Hp} {s : Shared} {A : Around} {E : Value -> Shared -> Prop} {Q : Value -> Shared -> Prop} {c : Value} {b : Bool}
inductive V8 (K:W.Frag) (H:Hp):V->Value->Prop where
 | non:V8 K H .non (.type "NoneType")
 | bl (x:Bool):V8 K H (.bl x) (.type "bool")
 | int (i:Int):V8 K H (.int i) (.type "int")
 | str (x:Str):V8 K H (.str x) (.type "str")
 | flt (x:UInt64):V8 K H (.flt x) (.type "float")
 | lst {a:Addr} {xs:List V} (e:H a=some (.lst xs)):V8 K H (.ref a) (.type "list")
 | frz {a:Addr} {o:Obj} {xs:List V} (e:H a=some (.frz o (.lst xs))):V8 K H (.ref a) (.type "list")
 | tup {a:Addr} {xs:List V} (e:H a=some (.tup xs)):V8 K H (.ref a) (.type "tuple")
 | dK {a:Addr} {kvs:List (Key × V)} (e:H a=some (.dK kvs)):V8 K H (.ref a) (.type "dict")
 | dT {a:Addr} {kvs:List (List Key × V)} (e:H a=some (.dT kvs)):V8 K H (.ref a) (.type "dict")
 | ins {a C dx:Addr} {fs:List (Str × V)} (e:H a=some (.ins C dx fs)) (cl:Cls K C) (ha:W.findIn K (.ref C) "__class__" = some (some (.builtin "object.__class__")))
   (hn:W.specialIn K (.builtin "object.__class__") "__get__" = some (some (.builtin "getset_descriptor.__get__"))) (htk:W.takesIn K (.builtin "object.__class__")=some true)
   (hm:W.mroIn K C (.type "object")=some true):V8 K H (.ref a) (.ref C)
theorem zAj {u t:Value} (I:Inv X pins σ H s) (rx:jX x u) (ty:V8 X.K H x t) (e:W.kitOne X.K t c=some b) (h : ∀ tk,Q (.bool b) { s with toks:=tk }) :
  wpAny (model X.prog X.w) A (call (.builtin "isinstance") [u,c]) Q E s:=by
 cases ty with
 | non=>cases (show u=Value.none from rx);exact W.kia_one W.kitx_none I.kIn True.intro e (fun z=>nomatch z) h
 | bl y=>cases (show u=Value.bool y from rx);exact W.kia_one W.kitx_bool I.kIn True.intro e (fun z=>nomatch z) h
 | int i=>obtain ⟨t,q⟩:=(show ∃ t,u=Value.int i t from rx);cases q;exact W.kia_one W.kitx_int I.kIn True.intro e (fun z=>nomatch z) h
 | str y=>obtain ⟨t,q⟩:=(show ∃ t,u=Value.str y t from rx);cases q;exact W.kia_one W.kitx_str I.kIn True.intro e (fun z=>nomatch z) h
 | flt y=>obtain ⟨t,q⟩:=(show ∃ t,u=Value.float y t from rx);cases q;exact W.kia_one W.kitx_float I.kIn True.intro e (fun z=>nomatch z) h
 | @lst a xs ea =>
  cases (show u=Value.ref a from rx)
  obtain ⟨_,_,n,_,h1⟩:=(show jQ X.prog X.w H s.heap a (.lst xs) from I.hok a _ ea)
  exact W.kia_one W.kitx_list I.kIn ⟨_,h1,rfl⟩ e (fun z=>nomatch z) h
 | @frz a ob xs ea =>
  cases (show u=Value.ref a from rx)
  obtain ⟨_,_,_,n,_,h1⟩:=(show jQ X.prog X.w H s.heap a (.frz ob (.lst xs)) from I.hok a _ ea)
  exact W.kia_one W.kitx_list I.kIn ⟨_,h1,rfl⟩ e (fun z=>nomatch z) h
 | @tup a xs ea =>
  cases (show u=Value.ref a from rx)
  obtain ⟨_,_,_,p⟩:=(show jQ X.prog X.w H s.heap a (.tup xs) from I.hok a _ ea)
  obtain ⟨o,h1,h2,_⟩:=p
  exact W.kia_one W.kitx_tuple I.kIn ⟨o,h1,h2⟩ e (fun z=>nomatch z) h
 | @dK a kvs ea =>
  cases (show u=Value.ref a from rx)
  obtain ⟨_,_,vs,_,p⟩:=(show jQ X.prog X.w H s.heap a (.dK kvs) from I.hok a _ ea)
  obtain ⟨o,es,ep,h1,h2,_⟩:=p
  exact W.kia_one W.kitx_dict I.kIn ⟨o,h1,h2.1⟩ e (fun z=>nomatch z) h
 | @dT a kvs ea =>
  cases (show u=Value.ref a from rx)
  obtain ⟨_,_,xs,_,o,es,ep,h1,h2,_⟩:=(show jQ X.prog X.w H s.heap a (.dT kvs) from I.hok a _ ea)
  exact W.kia_one W.kitx_dict I.kIn ⟨o,h1,h2.1⟩ e (fun z=>nomatch z) h
 | @ins a C dx fs ea cl ha hn htk hm =>
  cases (show u=Value.ref a from rx)
  obtain ⟨mA,O,_⟩:=XW I.hok ea
  obtain ⟨od,J,_⟩:=O.look
  exact W.kia_one (W.kitx_own (cl.get _) cl.hd ha hn htk hm) I.kIn J e (fun z=>nomatch z) h
end
structure jq (k:Nat) (A:Around):Prop where
 hd:A.handled=none
 dp:A.depth+3*k+5 < recursionLimit
 un:A.units+16*k+200 < cLine
variable {k:Nat}
theorem jq.mono {j:Nat} (r:jq k A) (h:j<=k):jq j A:=⟨r.hd,by have:=r.dp;omega,by have:=r.un;omega⟩
theorem jq.deeper (r:jq (k+1) A) (env:Env):jq k (A.deeper env):=
 ⟨r.hd,by have:=r.dp;show A.depth+1+3*k+5 < _;omega,by have:=r.un;show A.units+3+16*k+200 < _;omega⟩
theorem jq.in1 (r:jq (k+1) A):jq k A.in1:=
 ⟨r.hd,by have:=r.dp;show A.depth+3*k+5 < _;omega,by have:=r.un;show A.units+1+16*k+200 < _;omega⟩
theorem KS {kw:List (Str × Value)}:(A.under (.builtin "type.__call__" ⟨.ref C::us,kw⟩)).depth=A.depth+1:=by
 first | rfl | simp [Around.under,Code.weight,Code.isCreation,Code.isGuard,Code.isCaller,Code.frames,Code.isFrame,guardIds]
theorem Ke {kw:List (Str × Value)}:(A.under (.builtin "type.__call__" ⟨.ref C::us,kw⟩)).units=A.units+1:=by
 first | rfl | simp [Around.under,Code.cUnits,Code.frames,Code.isFrame]
theorem jq.make (r:jq (k+1) A) (C:Addr) (us:List Value) (kw:List (Str × Value)):jq k (A.under (.builtin "type.__call__" ⟨.ref C::us,kw⟩)):=
 ⟨r.hd,by have:=r.dp;rw [KS];omega,by have:=r.un;rw [Ke];omega⟩
theorem jq.depth (r:jq k A):A.depth < recursionLimit:=by have:=r.dp;omega
theorem jq.units (r:jq k A):A.units+64 < cLine:=by have:=r.un;omega
def zH1:TA:=fun _ H Q=>Q [] H
def zFr (ta:TE) (tr:TA):TA:=fun σ H Q=>ta σ H fun x H1=>tr σ H1 fun xs H2=>Q (x::xs) H2
section
variable {X : Cx} {e : Expr} {es : List Expr} {te : TE} {t : TA} {pos : Pos}
theorem zD:PA X [] zH1:=fun _ _ _ _ H Q I h=>Calls.spliced_nil ⟨[],H,I,.nil,h⟩
theorem zA (ha:PE X e te) (hr:PA X es t) (hs:starEach (e::es) X.env=(false,eval e X.env)::starEach es X.env:=by rfl):PA X (e::es) (zFr te t):=by
 intro pos pins s σ H Q I h
 rw [hs]
 show wpAny _ _ (spliced ((false,eval e X.env)::backTo pos (starEach es X.env))) _ _ s
 refine Calls.spliced_cons (thn (ha pins s σ H _ I h) fun u s1 zq=>?_)
 obtain ⟨x,H1,I1,r1,q1⟩:=zq
 exact thn (hr pos pins s1 σ H1 _ I1 q1) fun us s2 ⟨xs,H2,I2,r2,q2⟩=>⟨x::xs,H2,I2,.cons r1 r2,q2⟩
def zJG (t:TA):TE:=fun σ H Q=>t σ H fun xs H1=>xs.length<=sizeLine /\ ∀ p,H1 p=none->Q (.ref p) (upd H1 p (.tup xs))
def zJM (t:TA):TE:=fun σ H Q=>t σ H fun xs H1=>xs.length<=sizeLine /\ ∀ p,H1 p=none->Q (.ref p) (upd H1 p (.lst xs))
theorem qh {x1} (h:PA X es t):PE X (.Tuple es x1 pos) (zJG t):=by
 intro pins s σ H Q I hq
 refine wpAny_Tuple_spliced (thn (h pos pins s σ H _ I hq) fun us s1 ⟨xs,H1,I1,r,z,q⟩=>⟨by rw [<- r.length];exact z,?_⟩)
 have hf:H1 s1.heap.objs.size=none:=I1.hok.fresh (le_refl _)
 refine ⟨.ref s1.heap.objs.size,upd H1 s1.heap.objs.size (.tup xs),I1.laid (t':=s1.toks) (fun b u e=>Heap.get?_push_of_some _ e) (le_refl _) ?_,rfl,q _ hf⟩
 exact ⟨z,us,r,⟨_,Heap.get?_push_size _ rfl,rfl,_,rfl⟩⟩
theorem zt (h:PA X es t):PE X (.List es pos) (zJM t):=by
 intro pins s σ H Q I hq
 refine wpAny_List_spliced (thn (h pos pins s σ H _ I hq) fun us s1 ⟨xs,H1,I1,r,z,q⟩=>⟨by rw [<- r.length];exact z,?_⟩)
 have hf:H1 s1.heap.objs.size=none:=I1.hok.fresh (le_refl _)
 refine ⟨.ref s1.heap.objs.size,upd H1 s1.heap.objs.size (.lst xs),I1.laid (t':=s1.toks) (fun b u e=>Heap.get?_push_of_some _ e) (le_refl _) ?_,rfl,q _ hf⟩
 exact ⟨z,us,0,r,Heap.get?_push_size _ rfl⟩
end
abbrev Sp:=List V->Hp->VK->XK->Prop
abbrev CXT:=List Env->Hp->Shared->XK->Value->Shared->Prop
structure Vy (P:Program) (w:World) (K:W.Frag) (mg:Str->Option Value) (base:Heap) (A:Around) (outer:List Env) (s:Shared) (H:Hp):Prop where
 frames:A.frames=some outer
 mod:Mod K mg base
 bs : ∀ b o,base.get? b=some o->s.heap.get? b=some o/\H b=none
 bsz:base.objs.size<=s.heap.objs.size
 funs:s.heap.FunFrames base outer
 frf : ∀ b ∈ frs outer,H b=none
 hok:HOk P w H s.heap
 bare:AllBare s.gens
def CE (outer:List Env) (P:Program) (w:World) (H:Hp) (s:Shared) (Q:VK) (u:Value) (s':Shared):Prop:=
 ∃ v H',s'.os=s.os/\AllBare s'.gens/\Un (frs outer) [] H H' s.heap s'.heap/\HOk P w H' s'.heap/\jX v u/\Q v H'
def CR (CX:CXT) (outer:List Env) (P:Program) (w:World) (H:Hp) (s:Shared) (Q:VK) (E:XK) (r:Result) (s':Shared):Prop:=
 match r with
 | .ok (.ret u)=>CE outer P w H s Q u s'
 | .ok _=>False
 | .error e=>CX outer H s E e s'
structure xG (P:Program) (w:World) (K:W.Frag) (mg:Str->Option Value) (base:Heap) (CX:CXT) (k:Nat) (f:Addr) (fd:FuncData) (ps:List Str) (sp:Sp):Prop where
 len : ∀ vs H Q E,sp vs H Q E->vs.length=ps.length
 run : ∀ (A:Around) (outer:List Env) (s:Shared) (H:Hp) (args:Args) (us:List Value) (vs:List V) (Q:VK) (E:XK),jq k A->Vy P w K mg base A outer s H->BindsTo s fd args (ps.zip us)->qE vs us->sp vs H Q E ->
  codeAny (model P w) A (.call (.ref f) args) (CR CX outer P w H s Q E) s
variable {mg:Str->Option Value} {base:Heap} {CX:CXT} {fd:FuncData} {ps:List Str} {sp:Sp}
theorem xG.mono {j:Nat} {f:Addr} (F:xG P w K mg base CX j f fd ps sp) (h:j<=k) :
  xG P w K mg base CX k f fd ps sp:=⟨F.len,fun A outer s H args us vs Q E hr=>F.run A outer s H args us vs Q E (hr.mono h)⟩
theorem xG.imp {f:Addr} {sp':Sp} (F:xG P w K mg base CX k f fd ps sp)
  (h : ∀ vs H Q E,sp' vs H Q E->sp vs H Q E):xG P w K mg base CX k f fd ps sp':=
 ⟨fun vs H Q E q=>F.len vs H Q E (h _ _ _ _ q),fun A outer s H args us vs Q E hr he hb hv hs=>F.run A outer s H args us vs Q E hr he hb hv (h _ _ _ _ hs)⟩
variable {outer:List Env}
theorem Vy.make (e:Vy P w K mg base A outer s H) (C:Addr) (us:List Value) (kw:List (Str × Value)) :
  Vy P w K mg base (A.under (.builtin "type.__call__" ⟨.ref C::us,kw⟩)) outer s H:=⟨by first | exact e.frames | (simpa [Around.under,Code.envs,Code.isFrame,pushEnvs] using e.frames),e.mod,e.bs,e.bsz,e.funs,e.frf,e.hok,e.bare⟩
theorem Vy.in1 (e:Vy P w K mg base A outer s H) :
  Vy P w K mg base A.in1 outer s H:=⟨e.frames,e.mod,e.bs,e.bsz,e.funs,e.frf,e.hok,e.bare⟩
section
variable {X : Cx} {pins : List (Addr × Obj)} {σ : St} {H : Hp} {s s' : Shared}
theorem Inv.env0 (I:Inv X pins σ H s):Vy X.prog X.w X.K X.mg X.base X.A X.stack s H:=
 ⟨I.ok.frames,I.ok.mod,I.bs,le_trans I.ok.bsz I.sz,I.stack,I.stkFree,I.hok,I.bare⟩
theorem Inv.after {Q:VK} {u:Value} (I:Inv X pins σ H s) (h:CE X.stack X.prog X.w H s Q u s'):EP X pins σ Q u s':=by
 obtain ⟨v,H',os,bare,un,hok,r,q⟩:=h
 obtain ⟨hh,g,d,t,os'⟩:=s'
 obtain rfl:os'=s.os:=os
 exact ⟨v,H',I.call (h':=hh) (g':=g) (d':=d) (t':=t) (ch:=[]) un hok bare (fun b z=>absurd z (by simp)),r,q⟩
end
def Vb (sp:Sp) (dvs:List V) (E:XK) (t:TA):TE:=fun σ H Q=>t σ H fun vs H1=>sp (vs++dvs) H1 Q E
def XX (C:Addr) (m:Str) (sp:Sp) (dvs:List V) (E:XK) (ta:TE) (t:TA):TE:=fun σ H Q=>ta σ H fun x H1=>∃ a dx fs,x = .ref a/\H1 a=some (.ins C dx fs)/\fs.lookup m=none /\
 t σ H1 fun vs H2=>sp (x::(vs++dvs)) H2 Q E
def zDb (C:Addr) (sp:Sp) (dvs:List V) (E:XK) (t:TA):TE:=fun σ H Q=>t σ H fun vs H1=>∀ x dx,H1 x=none->H1 dx=none->dx≠x ->
 sp (.ref x::(vs++dvs)) (upd (upd H1 dx (.own x)) x (.ins C dx [])) (fun v H2=>v = .non/\Q (.ref x) H2) E
def j9 (K:W.Frag) (fd:FuncData) (ps:List Str) (ds:List Value):Prop:=
 ∀ (s:Shared) (us:List Value),K.In s.heap->(us++ds).length=ps.length->BindsTo s fd ⟨us,[]⟩ (ps.zip (us++ds))
theorem j9.all (h : ∀ us:List Value,us.length=ps.length->bindArgs fd ⟨us,[]⟩=pure (ps.zip us)):j9 K fd ps []:=fun s us _ hl=>by
 rw [List.append_nil] at hl ⊢
 exact .of_eq (h us hl)
def jv (CX:CXT) (X:Cx) (E:XK):Prop:=∀ (pins:List (Addr × Obj)) (σ:St) (H:Hp) (s:Shared) (e:Value) (s':Shared),Inv X pins σ H s->CX X.stack H s E e s'->X.xe e s'
section
variable {X : Cx} {CX : CXT} {k : Nat} {f C : Addr} {fd : FuncData} {ps : List Str} {sp : Sp} {dvs : List V} {ds : List Value} {E : XK} {x m : Str} {p pos apos : Pos} {e o : Expr} {es : List Expr} {ta : TE} {t : TA}
theorem Vv {Q:VK} {vs:List V} (F:xG X.prog X.w X.K X.mg X.base CX k f fd ps sp) (hr:jq k X.A) (hb:j9 X.K fd ps ds) (hd:qE dvs ds) (hx:jv CX X E)
  (I:Inv X pins σ H s) (r:qE vs us) (h:sp (vs++dvs) H Q E):wpAny (model X.prog X.w) X.A (call (.ref f) us) (EP X pins σ Q) X.xe s:=by
 have r2:qE (vs++dvs) (us++ds):=r.append hd
 have hl:(us++ds).length=ps.length:=by rw [<- r2.length];exact F.len _ _ _ _ h
 refine wpAny_call (codeAny_mono (F.run X.A X.stack s H ⟨us,[]⟩ (us++ds) (vs++dvs) Q E hr I.env0 (hb s us I.kIn hl) r2 h) fun r s' hq=>?_)
 cases r with
 | error e=>exact hx pins σ H s e s' I hq
 | ok fl =>
  cases fl with
  | ret u=>exact I.after hq
  | next=>exact False.elim hq
  | brk=>exact False.elim hq
  | cont=>exact False.elim hq
theorem zEc (F:xG X.prog X.w X.K X.mg X.base CX k f fd ps sp) (hr:jq k X.A) (hg:Gl X x) (hm:X.mg x=some (.ref f)) (hk:W.keepIn X.K (.ref f)=true) (hb:j9 X.K fd ps ds) (hd:qE dvs ds) (hx:jv CX X E)
  (ha:PA X (e::es) t) (hdb:(x == ("__debug__" : Str))=false:=by decide) (he:starEach (e::es) X.env=(false,eval e X.env)::starEach es X.env:=by rfl) (hpl:(backTo pos (starEach es X.env)).any (·.1)=false:=by rfl) :
  PE X (.Call (.Name x p) (e::es) [] pos) (Vb sp dvs E t):=by
 intro pins s σ H Q I h
 refine wpAny_Call_Name_kw (qZ I hg hm ?_ hdb)
 refine W.callWith_K (h₀:=X.base) I.ok.mod.kin hk (thn (ha pos pins s σ H _ I h) fun us s1 ⟨vs,H1,I1,r,q⟩=>⟨I1.kIn,?_⟩) he hpl
 exact Vv F hr hb hd hx I1 r q
theorem zBW (F:xG X.prog X.w X.K X.mg X.base CX k f fd ps sp) (hr:jq k X.A) (hg:Gl X x) (hm:X.mg x=some (.ref f)) (hk:W.keepIn X.K (.ref f)=true) (hb:j9 X.K fd ps ds) (hd:qE dvs ds) (hx:jv CX X E)
  (hdb:(x == ("__debug__" : Str))=false:=by decide):PE X (.Call (.Name x p) [] [] pos) (Vb sp dvs E zH1):=by
 intro pins s σ H Q I h
 refine wpAny_Call_Name_kw (qZ I hg hm ?_ hdb)
 exact W.callWith_K0 I.kIn hk (Vv (us:=[]) F hr hb hd hx I .nil h)
theorem zEx {pl:Sem Bool} (he:PE X o ta) (c:Cls X.K C) (hm:zIy X.K C m f) (F:xG X.prog X.w X.K X.mg X.base CX k f fd ps sp) (hr:jq k X.A) (hb:j9 X.K fd ps ds) (hd:qE dvs ds) (hx:jv CX X E) (ha:PA X (e::es) t)
  (hst:starEach (e::es) X.env=(false,eval e X.env)::starEach es X.env:=by rfl) (hpl:(backTo pos (starEach es X.env)).any (·.1)=false:=by rfl)
  (ht:eval (.Call (.Attribute o m apos) (e::es) [] pos) X.env=(do
   let ov <- eval o X.env
   standAt apos.atName
   let (f,first) <- holding [ov] (getMethod ov m pl)
   callWith pos f first (backTo pos (starEach (e::es) X.env)) (backToKw pos (keywordEach [] X.env))):=by rfl) :
  PE X (.Call (.Attribute o m apos) (e::es) [] pos) (XX C m sp dvs E ta t):=by
 intro pins s σ H Q I h
 refine W.methodCall_KW (pl:=pl) (thn (he pins s σ H _ I h) fun u s1 zq=>?_) ht
 obtain ⟨x,H1,I1,rx,a,dx,fs,ex,ea,l,q⟩:=zq
 subst ex
 obtain rfl:u=Value.ref a:=rx
 refine Jc I1 ea c hm l ?_
 refine W.callWith_K (first:=[.ref a]) (h₀:=X.base) I.ok.mod.kin hm.kp (thn (ha pos pins s1 σ H1 _ I1 q) fun us s2 ⟨vs,H2,I2,r,q2⟩=>⟨I2.kIn,?_⟩) hst hpl
 exact Vv (us:=.ref a::us) (vs:=.ref a::vs) F hr hb hd hx I2 (.cons rfl r) q2
structure Mk (K:W.Frag) (C f:Addr):Prop where
 makes:W.makesIn K C=true
 init:W.findIn K (.ref C) "__init__" = some (some (.ref f))
 fn:W.isFn K (.ref f)=true
 kp:W.keepIn K (.ref C)=true
theorem zBS {Q:VK} {vs:List V} (M:Mk X.K C f) (F:xG X.prog X.w X.K X.mg X.base CX k f fd ps sp) (hr:jq (k+1) X.A) (hb:j9 X.K fd ps ds) (hd:qE dvs ds)
  (hx:jv CX X E) (I:Inv X pins σ H s) (r:qE vs us)
  (h : ∀ x dx,H x=none->H dx=none->dx≠x->sp (.ref x::(vs++dvs)) (upd (upd H dx (.own x)) x (.ins C dx [])) (fun v H2=>v = .non/\Q (.ref x) H2) E) :
  wpAny (model X.prog X.w) X.A (call (.ref C) us) (EP X pins σ Q) X.xe s:=by
 have hq:=h (s.heap.objs.size+1) s.heap.objs.size (I.hok.fresh (Nat.le_succ _)) (I.hok.fresh (le_refl _)) (ne_of_lt (Nat.lt_succ_self _))
 have I2:=Inv.made (C:=C) I
 have r2:qE (V.ref (s.heap.objs.size+1)::(vs++dvs)) (Value.ref (s.heap.objs.size+1)::(us++ds)):=.cons rfl (r.append hd)
 have hl:(Value.ref (s.heap.objs.size+1)::us++ds).length=ps.length:=by
  have e:=r2.length
  rw [F.len _ _ _ _ hq] at e
  exact e.symm
 refine wpAny_call (zBU (f:=f) I.kIn M.makes M.init (beq_iff_eq.mp M.fn) (codeAny_mono (F.run _ X.stack _ _ ⟨Value.ref (s.heap.objs.size+1)::us,[]⟩ (Value.ref (s.heap.objs.size+1)::(us++ds)) _ _ E (hr.make C us [])
  (I2.env0.make C us []) (hb _ (Value.ref (s.heap.objs.size+1)::us) I2.kIn hl) r2 hq) fun r s' hq'=>?_))
 cases r with
 | error e=>exact hx pins σ _ _ e s' I2 hq'
 | ok fl =>
  cases fl with
  | ret u =>
   obtain ⟨v,H',I3,rv,ev,q3⟩:=I2.after hq'
   subst ev
   exact ⟨rv,⟨V.ref (s.heap.objs.size+1),H',I3,rfl,q3⟩⟩
  | next=>exact False.elim hq'
  | brk=>exact False.elim hq'
  | cont=>exact False.elim hq'
theorem zFH (M:Mk X.K C f) (F:xG X.prog X.w X.K X.mg X.base CX k f fd ps sp) (hr:jq (k+1) X.A) (hg:Gl X x) (hm:X.mg x=some (.ref C)) (hb:j9 X.K fd ps ds) (hd:qE dvs ds) (hx:jv CX X E)
  (ha:PA X (e::es) t) (hdb:(x == ("__debug__" : Str))=false:=by decide) (he:starEach (e::es) X.env=(false,eval e X.env)::starEach es X.env:=by rfl) (hpl:(backTo pos (starEach es X.env)).any (·.1)=false:=by rfl) :
  PE X (.Call (.Name x p) (e::es) [] pos) (zDb C sp dvs E t):=by
 intro pins s σ H Q I h
 refine wpAny_Call_Name_kw (qZ I hg hm ?_ hdb)
 refine W.callWith_K (h₀:=X.base) I.ok.mod.kin M.kp (thn (ha pos pins s σ H _ I h) fun us s1 ⟨vs,H1,I1,r,q⟩=>⟨I1.kIn,?_⟩) he hpl
 exact zBS M F hr hb hd hx I1 r q
end
section
variable {X : Cx} {CX : CXT} {k : Nat} {f C : Addr} {fd : FuncData} {ps ks : List Str} {sp : Sp} {E : XK} {x m : Str} {p pos apos kpos : Pos} {e o : Expr} {es : List Expr} {kws : List Keyword} {te ta : TE} {t tk : TA} {nm : Option Str}
variable {g : List Value -> List Value -> List Value} {gV : List V -> List V -> List V}
end
structure zO (N P:List Str) (sc:Scope):Prop where
 kind:sc.kind = .function
 co:sc.isCoroutine=false
 gen:sc.isGenerator=false
 nd:N.Nodup
 pre:N.take P.length=P
 par : ∀ x ∈ P,sc.names.lookup x=some .local\/sc.names.lookup x=some .cell
 nofree : ∀ y ∈ sc.names,y.2 ≠ .free
theorem YZ {kindOf:Str->Option NameKind} {x:Str} : ∀ {binds:List (Str × Value)} {m:Str->Option Value},(∀ v,(x,v) ∉ binds)->bindL kindOf binds m x=m x
 | [],_,_=>rfl
 | (n,v)::r,m,h=>by
  unfold bindL
  rw [YZ fun w hw=>h w (mem_cons_of_mem _ hw)]
  split
  ·have:x≠n:=by rintro rfl;exact h v List.mem_cons_self
   simp [this]
  ·rfl
theorem X2 {kindOf:Str->Option NameKind} {x:Str} : ∀ {binds:List (Str × Value)} {m:Str->Option Value},(∀ v,(x,v) ∉ binds)->bindC kindOf binds m x=m x
 | [],_,_=>rfl
 | (n,v)::r,m,h=>by
  unfold bindC
  rw [X2 fun w hw=>h w (mem_cons_of_mem _ hw)]
  split
  ·rfl
  ·have:x≠n:=by rintro rfl;exact h v List.mem_cons_self
   simp [this]
theorem Yl {kindOf:Str->Option NameKind} {x:Str} {v:Value} : ∀ {P:List Str} {vs:List Value} {i:Nat} {m:Str->Option Value},P.Nodup->P[i]? = some x->vs[i]? = some v->kindOf x=some .local ->
  bindL kindOf (P.zip vs) m x=some v
 | [],_,_,_,_,h,_,_=>by simp at h
 | _::_,[],_,_,_,_,h,_=>by simp at h
 | p::P,w::vs,0,m,nd,h1,h2,hk=>by
  simp at h1 h2;subst h1;subst h2
  show bindL kindOf ((p,w)::P.zip vs) m p=_
  unfold bindL
  rw [YZ fun v hv=>(List.nodup_cons.mp nd).1 (List.of_mem_zip hv).1,if_pos hk]
  simp
 | p::P,w::vs,i+1,m,nd,h1,h2,hk=>by
  show bindL kindOf ((p,w)::P.zip vs) m x=_
  unfold bindL
  exact Yl (i:=i) (List.nodup_cons.mp nd).2 (by simpa using h1) (by simpa using h2) hk
theorem X8 {kindOf:Str->Option NameKind} {x:Str} {v:Value} : ∀ {P:List Str} {vs:List Value} {i:Nat} {m:Str->Option Value},P.Nodup->P[i]? = some x->vs[i]? = some v->kindOf x≠some .local ->
  bindC kindOf (P.zip vs) m x=some v
 | [],_,_,_,_,h,_,_=>by simp at h
 | _::_,[],_,_,_,_,h,_=>by simp at h
 | p::P,w::vs,0,m,nd,h1,h2,hk=>by
  simp at h1 h2;subst h1;subst h2
  show bindC kindOf ((p,w)::P.zip vs) m p=_
  unfold bindC
  rw [X2 fun v hv=>(List.nodup_cons.mp nd).1 (List.of_mem_zip hv).1,if_neg hk]
  simp
 | p::P,w::vs,i+1,m,nd,h1,h2,hk=>by
  show bindC kindOf ((p,w)::P.zip vs) m x=_
  unfold bindC
  exact X8 (i:=i) (List.nodup_cons.mp nd).2 (by simpa using h1) (by simpa using h2) hk
def start (N:List Str) (vs:List V):St:=vs.map some++List.replicate (N.length - vs.length) none
def yd (CX:CXT) (P:Program) (w:World) (K:W.Frag) (mg:Str->Option Value) (base:Heap) (N:List Str) (qual:Str) (scope:Scope) (f:Addr) (cd:Value) (A:Around) (outer:List Env) (s:Shared) (H:Hp) (E:XK):Cx where
 prog:=P
 w:=w
 K:=K
 mg:=mg
 base:=base
 A:=A.deeper (envOfC qual scope s.heap.objs.size f cd)
 N:=N
 s₀:=s
 H₀:=H
 env:=envOfC qual scope s.heap.objs.size f cd
 outer:=outer
 stack:=envOfC qual scope s.heap.objs.size f cd::outer
 ex:=[]
 calm:=true
 fn:=fun _=>true
 pn:=[]
 xe:=fun e s'=>wpAny (model P w) (A.deeper (envOfC qual scope s.heap.objs.size f cd)) (leaving (envOfC qual scope s.heap.objs.size f cd) e) (fun _ s''=>CX outer H s E e s'') (fun e' s''=>CX outer H s E e' s'') s'
theorem Vf {sc:Scope} {n:Nat} {x:Str} (h:sc.names.lookup x=some .cell) : ∃ c,(cellsFrom n sc.names []).lookup x=some c:=by
 have q:=W.cellsFrom_some sc.names n [] (.inl h)
 exact Option.isSome_iff_exists.mp q
theorem zAf {N:List Str} {qual:Str} {scope:Scope} {f:Addr} {cd:Value} {s1:Shared} {E:XK} {vs:List V}
  (S:zO N ps scope) (hd:A.handled=none) (e0:Vy P w K mg base A outer s H) (hl:vs.length=ps.length) (r:qE vs us)
  (x:InCallC s s.heap.objs.size (bindL (envOfC qual scope s.heap.objs.size f cd).kindOf (ps.zip us) fun _=>none) (cellsFrom (s.heap.objs.size+1) scope.names []) (bindC (envOfC qual scope s.heap.objs.size f cd).kindOf (ps.zip us) fun _=>none) s1) :
  Inv (yd CX P w K mg base N qual scope f cd A outer s H E) [] (start N vs) H s1:=by
 have hpl:ps.length<=N.length:=by have:=congrArg List.length S.pre;rw [List.length_take] at this;omega
 obtain ⟨h1,tk,rfl,hk⟩:=x.done
 have noA : ∀ b:Addr,b ∉ (yd CX P w K mg base N qual scope f cd A outer s H E).ex:=fun b z=>absurd (show b ∈ ([]:List Addr) from z) (by simp)
 refine ⟨⟨e0.mod,S.kind,rfl,rfl,le_refl _,fun y z c h1 h2=>?_,fun y hy=>?_,fun y c _ h=>?_,fun _=>hd,Around.frames_deeper e0.frames,.inr ⟨rfl,rfl⟩,fun b z=>absurd z (noA b),e0.bs,e0.bsz,fun b _ _=>noA b,fun b z=>absurd z (noA b),e0.funs,e0.frf⟩,
  rfl,e0.bare,Un.kept hk,⟨_,x.toInCall.ns,fun i y v h1 h2 h3=>?_⟩,fun y c h=>⟨_,x.cell y c h⟩,e0.hok.fresh (le_refl _),fun y c h=>?_,fun p hp=>absurd (show p ∈ ([]:List (Addr × Obj)) from hp) (by simp),e0.hok.kept hk,?_⟩
 ·exact name_of_addr x.apart (PySem.mem_of_lookup h1) (PySem.mem_of_lookup h2)
 ·have hy:scope.names.lookup y=some .cell\/scope.names.lookup y=some .free:=hy
  rcases hy with hy | hy
  ·exact Vf hy
  ·exact absurd rfl (S.nofree _ (PySem.mem_of_lookup hy))
 ·exact Nat.le_of_lt (x.above y c (PySem.mem_of_lookup h))
 ·have hi:i < vs.length:=by
   unfold start at h2
   by_cases hi:i < vs.length
   ·exact hi
   ·rw [List.getElem?_append_right (by simpa using hi)] at h2
    rw [List.getElem?_replicate] at h2
    split at h2 <;> cases h2
  have ha:vs[i]? = some v:=by
   unfold start at h2
   rw [List.getElem?_append_left (by simpa using hi),List.getElem?_map] at h2
   cases e:vs[i]? with
   | none=>rw [e] at h2;cases h2
   | some a=>rw [e] at h2;cases h2;rfl
  obtain ⟨u,hu,rv⟩:=r.get ha
  have hp:ps[i]? = some y:=by
   rw [<- S.pre,List.getElem?_take_of_lt (by omega)];exact h1
  have ndP:ps.Nodup:=by rw [<- S.pre];exact S.nd.sublist (List.take_sublist _ _)
  refine ⟨u,rv,?_⟩
  rcases S.par y (List.mem_of_getElem? hp) with k | k
  ·exact .inl ⟨k,Yl ndP hp hu k⟩
  ·obtain ⟨c,e⟩:=Vf (n:=s.heap.objs.size+1) k
   refine .inr ⟨.inl k,c,e,?_⟩
   have q:=x.cell y c e
   rw [X8 ndP hp hu (by show scope.names.lookup y≠_;rw [k];decide)] at q
   exact q
 ·exact e0.hok.fresh (Nat.le_of_lt (x.above y c (PySem.mem_of_lookup h)))
 ·unfold start
  show _=N.length
  rw [List.length_append,List.length_map,List.length_replicate]
  omega
theorem VJ {f:Addr} {name qual:Str} {params:Arguments} {body:List Stmt} {scope:Scope} {dV kV doc pm cdv ct oc:Value} {an od:Option Addr}
  {osl:Array (Option Value)} {N:List Str} (lk:K.lookup f=some ⟨oc,od,.func (W.fnOf name qual params body scope dV kV doc pm an cdv ct),osl⟩) (hcd:W.codeIn K cdv qual=true) (S:zO N ps scope)
  (len : ∀ vs H Q E,sp vs H Q E->vs.length=ps.length)
  (hbody : ∀ (A:Around) (outer:List Env) (s:Shared) (H:Hp) (vs:List V) (Q:VK) (E:XK),jq k (A.deeper (envOfC qual scope s.heap.objs.size f cdv))->sp vs H Q E ->
   ∃ t,PSs (yd CX P w K mg base N qual scope f cdv A outer s H E) body t/\t { nx:=fun _ H'=>Q .non H',rt:=Q } (start N vs) H) :
  xG P w K mg base CX (k+1) f (W.fnOf name qual params body scope dV kV doc pm an cdv ct) ps sp:=by
 refine ⟨len,fun A outer s H args us vs Q E hr e0 hb r hsp=>?_⟩
 have hl:=len _ _ _ _ hsp
 have KX:K.In s.heap:=e0.mod.kin.keeps fun b o e=>(e0.bs b o e).1
 have lim:s.heap.NoLimit:=e0.mod.nolimit.keeps fun b o e=>(e0.bs b o e).1
 have hkind : ∀ y ∈ ps.zip us,scope.names.lookup y.1=some .local\/(scope.names.lookup y.1=some .cell/\((cellsFrom (s.heap.objs.size+1) scope.names []).lookup y.1).isSome=true):=fun ⟨n,v⟩ hy=>by
  rcases S.par n (List.of_mem_zip hy).1 with q | q
  ·exact .inl q
  ·exact .inr ⟨q,W.cellsFrom_some _ _ _ (.inl q)⟩
 refine codeAny_call_function hr.depth (KX _ _ lk) rfl S.co S.gen rfl (W.codeRec_of KX hcd) (hb _ _ _ _ ?_)
 refine wpAny_newFunctionEnv_cells S.kind hkind fun env he s1 x=>?_
 subst he
 refine ⟨lim.keeps x.toInCall.keep,codeAny_func ?_⟩
 obtain ⟨t,ht,hq⟩:=hbody A outer s H vs Q E (hr.deeper _) hsp
 have I:Inv (yd CX P w K mg base N qual scope f cdv A outer s H E) [] (start N vs) H s1:=zAf S hr.hd e0 hl r x
 refine wpAny_mono (ht [] s1 (start N vs) H _ I hq) (fun fl s' hs=>?_) fun e s' hs=>hs
 have fin : ∀ {σ':St} {H':Hp} {v:V} {u:Value},Inv (yd CX P w K mg base N qual scope f cdv A outer s H E) [] σ' H' s'->jX v u->Q v H'->CE outer P w H s Q u s':=
  fun {σ' H' v u} J rv q=>⟨v,H',J.os,J.bare,J.base,J.hok,rv,q⟩
 cases fl with
 | ret u =>
  obtain ⟨v,σ',H',J,rv,q⟩:=hs
  exact fin J rv q
 | next =>
  obtain ⟨σ',H',J,q⟩:=hs
  exact fin (v:=V.non) (u:=Value.none) J rfl q
 | brk =>
  obtain ⟨_,_,_,q⟩:=hs
  exact False.elim q
 | cont =>
  obtain ⟨_,_,_,q⟩:=hs
  exact False.elim q
section
variable {X : Cx} {x : Str} {p pos : Pos} {e : Expr} {es : List Expr} {t : TA} {id T : String} {r : List V -> Hp -> VK -> Prop}
def tCB (r:List V->Hp->VK->Prop) (t:TA):TE:=fun σ H Q=>t σ H fun vs H1=>r vs H1 Q
theorem zB6 (hc:yE X (.builtin id) r) (hg:Gl X x) (hm:X.mg x=none) (hv:bootBuiltins x=some (.builtin id)) (ha:PA X (e::es) t) (hn:x ≠ "__name__" := by decide) (hdb:(x == ("__debug__" : Str))=false:=by decide)
  (he:starEach (e::es) X.env=(false,eval e X.env)::starEach es X.env:=by rfl) (hpl:(backTo pos (starEach es X.env)).any (·.1)=false:=by rfl):PE X (.Call (.Name x p) (e::es) [] pos) (tCB r t):=by
 intro pins s σ H Q I h
 refine wpAny_Call_Name_kw (J3 I hg hm hv ?_ hn hdb)
 exact PyProof.Rows.callWith_builtin1 (thn (ha pos pins s σ H _ I h) fun us s1 ⟨vs,H1,I1,r1,q1⟩=>hc pins s1 σ H1 vs us Q I1 r1 q1) he hpl
theorem y1 (hc:yE X (.type T) r) (hg:Gl X x) (hm:X.mg x=none) (hv:bootBuiltins x=some (.type T)) (ha:PA X (e::es) t) (hn:x ≠ "__name__" := by decide) (hdb:(x == ("__debug__" : Str))=false:=by decide)
  (he:starEach (e::es) X.env=(false,eval e X.env)::starEach es X.env:=by rfl) (hpl:(backTo pos (starEach es X.env)).any (·.1)=false:=by rfl):PE X (.Call (.Name x p) (e::es) [] pos) (tCB r t):=by
 intro pins s σ H Q I h
 refine wpAny_Call_Name_kw (J3 I hg hm hv ?_ hn hdb)
 exact PyProof.Rows.callWith_type1 (thn (ha pos pins s σ H _ I h) fun us s1 ⟨vs,H1,I1,r1,q1⟩=>hc pins s1 σ H1 vs us Q I1 r1 q1) he hpl
end
end L2
namespace HT
open PySem PyProof.Rows
section
open PySem.SeqAt
open PySem.AutoSeq1 (wpAny_loadPart')
open PySem.MeetsSeq PySem.MeetsSeq2 PySem.MeetsSeq3
end
section
variable {prog : Program} {w : World} {A : Around} {E : Value -> Shared -> Prop} {s : Shared}
def sIx (n d:Nat):Option Int->Nat
 | none=>d
 | some v=>if v < 0 then (v+(n:Int)).toNat else min v.toNat n
theorem sIx_none (n d:Nat):sIx n d none=d:=rfl
theorem zHj (n d:Nat) (hd:d<=n) (o:Option Int):sIx n d o<=n:=by
 cases o with
 | none=>exact hd
 | some v =>
  show (if v < 0 then (v+(n:Int)).toNat else min v.toNat n)<=n
  by_cases hv:v < 0
  ·rw [if_pos hv];omega
  ·rw [if_neg hv];exact Nat.min_le_right _ _
theorem zA9 (v:Int) (n d:Nat):(if v < 0 then max (v+(n:Int)) 0 else min v (n:Int))=((sIx n d (some v):Nat):Int):=by
 show (if v < 0 then max (v+(n:Int)) 0 else min v (n:Int))=(((if v < 0 then (v+(n:Int)).toNat else min v.toNat n):Nat):Int)
 by_cases hv:v < 0
 ·simp only [if_pos hv];omega
 ·simp only [if_neg hv];omega
theorem WL (lo hi:Option Int) (n:Nat):Builtin.Slice.sliceAdjust lo hi 1 (n:Int)=(((sIx n 0 lo:Nat):Int),((sIx n n hi:Nat):Int)):=by
 have h1 : ¬ ((1:Int) < 0):=by omega
 unfold Builtin.Slice.sliceAdjust
 simp only [h1,if_false]
 refine Prod.ext ?_ ?_
 ·cases lo with
  | none=>rfl
  | some v=>exact zA9 v n 0
 ·cases hi with
  | none=>rfl
  | some v=>exact zA9 v n n
theorem KW (i j:Nat):Builtin.Slice.slicePlaces (i:Int) (j:Int) 1=j - i:=by
 unfold Builtin.Slice.slicePlaces
 have h1:(1:Int) > 0:=by omega
 simp only [h1,if_true,Int.ediv_one]
 split <;> omega
theorem J7 {v:Value} {o:Option Int} {Q:Option Int->Shared->Prop} (p:IsPart v o) (h:Q o s):wpAny (model prog w) A (Builtin.Slice.slicePartIndex v) Q E s:=by
 cases p with
 | none=>exact slicePart_none h
 | int i t=>exact slicePart_int h
theorem Z9 {sl:Addr} {vl vu:Value} {lo hi:Option Int} {n:Nat} {Q:Int × Int × Nat->Shared->Prop} (hs:s.heap.IsSliceOf sl vl vu .none) (pl:IsPart vl lo) (pu:IsPart vu hi)
  (h:Q (((sIx n 0 lo:Nat):Int),1,sIx n n hi - sIx n 0 lo) s):wpAny (model prog w) A (Builtin.Slice.sliceApplied (.ref sl) (pure (n:Int))) Q E s:=by
 obtain ⟨os,hos,hcs,hds⟩:=id hs
 unfold Builtin.Slice.sliceApplied Builtin.Slice.sliceFields
 refine wpAny_bind (wpAny_bind (wpAny_field hos hds (x:=vl) rfl (wpAny_bind (wpAny_field hos hds (x:=vu) rfl (wpAny_bind (wpAny_field hos hds (x:=.none) rfl (wpAny_pure ?_)))))))
 refine wpAny_bind (slicePart_none ?_)
 show wpAny _ _ (if ((1:Int) == 0)=true then _ else _) _ _ s
 rw [if_neg (by decide)]
 refine wpAny_bind (J7 pl (wpAny_bind (J7 pu (wpAny_bind (wpAny_pure ?_)))))
 show wpAny _ _ (match Builtin.Slice.sliceAdjust lo hi 1 (n:Int) with | (lo,hi)=>pure (lo,(1:Int),Builtin.Slice.slicePlaces lo hi 1)) _ _ s
 rw [WL lo hi n]
 show wpAny _ _ (pure (((sIx n 0 lo:Nat):Int),(1:Int),Builtin.Slice.slicePlaces ((sIx n 0 lo:Nat):Int) ((sIx n n hi:Nat):Int) 1)) _ _ s
 rw [KW]
 exact wpAny_pure h
theorem zCc (xs:Array Value) (i k:Nat):((List.range k).filterMap fun (m:Nat)=>xs[((i:Int)+(m:Int)*1).toNat]?).toArray=((xs.toList.drop i).take k).toArray:=by
 have e:(fun (m:Nat)=>xs[((i:Int)+(m:Int)*1).toNat]?)=fun m=>xs[i+m]?:=by
  funext m
  have:((i:Int)+(m:Int)*1).toNat=i+m:=by omega
  rw [this]
 rw [e]
 have:=pick_run xs i k
 rw [List.filterMap_map] at this
 have e2:((fun x=>xs[x]?) ∘ fun x=>i+x)=fun m=>xs[i+m]?:=rfl
 rw [e2] at this
 rw [this]
theorem getItem_tuple_cut {t sl:Addr} {items:Array Value} {vl vu:Value} {lo hi:Option Int} {Q:Value->Shared->Prop} (ht:IsTup s.heap t items) (hs:s.heap.IsSliceOf sl vl vu .none) (pl:IsPart vl lo) (pu:IsPart vu hi)
  (hw : ¬ (sIx items.size 0 lo=0/\sIx items.size items.size hi=items.size))
  (h:Q (.ref s.heap.objs.size) { s with heap:=s.heap.push { cls:=.type "tuple", data:=.seq ((items.toList.drop (sIx items.size 0 lo)).take (sIx items.size items.size hi - sIx items.size 0 lo)).toArray } })
  (hsz:items.size<=sizeLine):wpAny (model prog w) A (getItem (.ref t) (.ref sl)) Q E s:=by
 have htake:sizeOk (.seq ((items.toList.drop (sIx items.size 0 lo)).take (sIx items.size items.size hi - sIx items.size 0 lo)).toArray):=by
  show ((items.toList.drop (sIx items.size 0 lo)).take (sIx items.size items.size hi - sIx items.size 0 lo)).toArray.size<=sizeLine
  rw [List.size_toArray,List.length_take,List.length_drop,Array.length_toList]
  omega
 have hj:sIx items.size items.size hi<=items.size:=zHj _ _ (Nat.le_refl _) hi
 obtain ⟨os,hos,hcs,hds⟩:=id hs
 have hTs:s.TypeIs (.ref sl) "slice" := ⟨os,hos,hcs⟩
 unfold getItem
 try with_reducible refine wpAny_holding ?_
 first | refine wpAny_bind (wpAny_pure ?_) | skip
 refine wpAny_bind (wpAny_sequenceKey ht.typeIs (by decide) ?_)
 refine wpAny_bind (wpAny_callSpecial?_slot (name:=Str.ofString "__getitem__") ht.typeIs PyProof.Rows.slot_tuple_getitem
  (wpAny_call_entry PyProof.Rows.slot_tuple_getitem ht.typeIs entry_tuple_getitem ?_ (args_tuple_getitem _ _)))
 show wpAny _ _ (Builtin.Tuple.tupleItemsOf (.ref t) >>= _) _ _ s
 refine wpAny_bind (tupleItemsOf_ ht ?_)
 refine wpAny_bind (wpAny_typeOf hTs ?_)
 rw [if_pos (by decide)]
 refine wpAny_bind (Z9 hs pl pu ?_)
 have hno : ¬ ((((sIx items.size 0 lo:Nat):Int) == 0 && (1:Int) == 1 && (sIx items.size items.size hi - sIx items.size 0 lo) == items.size)=true):=by
  intro q
  rw [Bool.and_eq_true,Bool.and_eq_true] at q
  have q1:((sIx items.size 0 lo:Nat):Int)=0:=eq_of_beq q.1.1
  have q2:sIx items.size items.size hi - sIx items.size 0 lo=items.size:=eq_of_beq q.2
  exact hw ⟨by omega,by omega⟩
 show wpAny _ _ (if (((sIx items.size 0 lo:Nat):Int) == 0 && (1:Int) == 1 && (sIx items.size items.size hi - sIx items.size 0 lo) == items.size)=true then _ else _) _ _ s
 rw [if_neg hno,zCc]
 first
  | exact wpAny_bind (m:=Builtin.Tuple.tupleExact _) (wpAny_newObj_type (wpAny_pure ⟨_,rfl,wpAny_pure h⟩) htake)
  | exact wpAny_bind (m:=Builtin.Tuple.tupleExact _) (wpAny_newObj_type (wpAny_bind (wpAny_pure (wpAny_pure ⟨_,rfl,wpAny_pure h⟩))) htake)
  | exact wpAny_bind (wpAny_bind (m:=Builtin.Tuple.tupleExact _) (wpAny_newObj_type (wpAny_pure (wpAny_pure ⟨_,rfl,wpAny_pure h⟩)) htake))
  | exact wpAny_bind (wpAny_bind (m:=Builtin.Tuple.tupleExact _) (wpAny_newObj_type (wpAny_pure ⟨_,rfl,wpAny_pure h⟩) htake))
end
end HT
namespace L2
open PySem PySem.Spec PyProof.Rows
open List (size_toArray)
open Nat (le_refl)
abbrev TO:=St->Hp->(Option Int->Hp->Prop)->Prop
def PO (X:Cx) (e:Option Expr) (t:TO):Prop:=
 ∀ (pins:List (Addr × Obj)) (s:Shared) (σ:St) (H:Hp) (Q:Option Int->Hp->Prop),Inv X pins σ H s->t σ H Q ->
  wpAny (model X.prog X.w) X.A (evalPart e X.env) (fun u s'=>∃ o H',Inv X pins σ H' s'/\IsPart u o/\Q o H') X.xe s
def zAh:TO:=fun _ H Q=>Q none H
def zHX (t:TE):TO:=fun σ H Q=>t σ H fun x H1=>∃ i,x = .int i/\Q (some i) H1
theorem Kj {ns:List Int} : ∀ {us:List Value},qE (ns.map V.int) us->IntsAre us ns:=by
 induction ns with
 | nil=>intro us r;rw [List.map_nil] at r;cases r;exact .nil
 | cons n ns ih =>
  intro us r
  rw [List.map_cons] at r
  cases r with
  | cons r1 r2 =>
   obtain ⟨t,e⟩:=r1
   subst e
   exact .cons n t (ih r2)
section
variable {X : Cx} {e : Expr} {te : TE} {lo hi : Option Expr} {tl th : TO} {pos p2 : Pos}
theorem qO:PO X none zAh:=by
 intro pins s σ H Q I h
 rw [evalPart_none]
 exact wpAny_pure ⟨none,H,I,.none,h⟩
theorem zh (h:PE X e te):PO X (some e) (zHX te):=by
 intro pins s σ H Q I hw
 rw [evalPart_some]
 refine thn (h pins s σ H _ I hw) fun u s1 zq=>?_
 obtain ⟨x,H1,I1,r1,q1⟩:=zq
 obtain ⟨i,rfl,q⟩:=q1
 obtain ⟨t,rfl⟩:=r1
 exact ⟨some i,H1,I1,.int i t,q⟩
def SlR (X:Cx) (r:V->Option Int->Option Int->Hp->VK->Prop):Prop:=
 ∀ (pins:List (Addr × Obj)) (s:Shared) (σ:St) (H:Hp) (x:V) (v vl vu:Value) (lo hi:Option Int) (sl:Addr) (Q:VK),Inv X pins σ H s->jX x v->s.heap.IsSliceOf sl vl vu .none->IsPart vl lo->IsPart vu hi->r x lo hi H Q ->
  ∃ T id,typeLookup (.type T) "__getitem__" = pure (some (.builtin id))/\s.TypeIs v T/\wpAny (model X.prog X.w) X.A (getItem v (.ref sl)) (EP X pins σ Q) X.xe s
def tSl (r:V->Option Int->Option Int->Hp->VK->Prop) (te:TE) (tl th:TO):TE:=fun σ H Q=>te σ H fun x H1=>tl σ H1 fun l H2=>th σ H2 fun u H3=>r x l u H3 Q
theorem zj {r:V->Option Int->Option Int->Hp->VK->Prop} (hr:SlR X r) (he:PE X e te) (hl:PO X lo tl) (hu:PO X hi th):PE X (.Subscript e (.Slice lo hi none p2) pos) (tSl r te tl th):=by
 intro pins s σ H Q I h
 refine Subscript_ (thn (he pins s σ H _ I h) fun v s1 zq=>?_)
 obtain ⟨x,H1,I1,r1,q1⟩:=zq
 refine wpAny_Slice (thn (hl pins s1 σ H1 _ I1 q1) fun vl s2 ⟨l,H2,I2,pl,q2⟩=>thn (hu pins s2 σ H2 _ I2 q2) fun vu s3 zq=>?_)
 obtain ⟨u,H3,I3,pu,q3⟩:=zq
 rw [evalPart_none]
 refine wpAny_pure ?_
 have I4:Inv X pins σ H3 { s3 with heap:=s3.heap.push { cls:=.type "slice", data:=.fields #[vl,vu,.none] } }:=I3.kept (t':=s3.toks) fun b ob q=>Heap.get?_push_of_some _ q
 obtain ⟨T,id,hT,ht,hg⟩:=hr pins { s3 with heap:=s3.heap.push { cls:=.type "slice", data:=.fields #[vl,vu,.none] } } σ H3 x v vl vu l u s3.heap.objs.size Q I4 r1 (Heap.IsSliceOf.new ..) pl pu q3
 show wpAny (model X.prog X.w) X.A (subscriptTail e (.Slice lo hi none p2) v (.ref s3.heap.objs.size)) (EP X pins σ Q) X.xe { s3 with heap:=s3.heap.push { cls:=.type "slice", data:=.fields #[vl,vu,.none] } }
 exact tail_any (ops:=[.ref s3.heap.objs.size,v]) ht hT hg (by with_unfolding_all rfl)
def zBA (xs:List V) (lo hi:Option Int):List V:=(xs.drop (HT.sIx xs.length 0 lo)).take (HT.sIx xs.length xs.length hi - HT.sIx xs.length 0 lo)
theorem Qi (xs:List V) (lo hi:Option Int):(zBA xs lo hi).length<=xs.length:=by
 unfold zBA
 rw [List.length_take,List.length_drop]
 omega
def zJK (K:W.Frag):V->Option Int->Option Int->Hp->VK->Prop:=fun x lo hi H Q=>∃ a xs,x = .ref a/\SqT K H a xs /\
 ¬ (HT.sIx xs.length 0 lo=0/\HT.sIx xs.length xs.length hi=xs.length) /\ ∀ p,H p=none->Q (.ref p) (upd H p (.tup (zBA xs lo hi)))
theorem KJ:SlR X (zJK X.K):=by
 intro pins s σ H x v vl vu lo hi sl Q I rx hs pl pu h
 obtain ⟨a,xs,rfl,hx,hw,q⟩:=h
 cases rx
 obtain ⟨its,r,ht,hz⟩:=I.tuple hx
 have hlen:its.toArray.size=xs.length:=by rw [size_toArray];exact r.length.symm
 refine ⟨"tuple", _,PyProof.Rows.slot_tuple_getitem.lookup,ht.typeIs,?_⟩
 refine HT.getItem_tuple_cut ht hs pl pu (by rw [hlen];exact hw) ?_ (by rw [hlen];exact hz)
 rw [hlen]
 refine ⟨.ref s.heap.objs.size,_,I.laid (t':=s.toks) (o:=.tup (zBA xs lo hi)) (fun b ob q=>Heap.get?_push_of_some _ q) (le_refl _) ?_,rfl,q _ (I.hok.fresh (le_refl _))⟩
 exact ⟨Nat.le_trans (Qi xs lo hi) hz,_,(r.drop (HT.sIx xs.length 0 lo)).take (HT.sIx xs.length xs.length hi - HT.sIx xs.length 0 lo),IsTup.new _ _⟩
end
def ixN (n:Nat) (i:Int):Option Nat:=if 0<=i then (if i < n then some i.toNat else none) else if -(n:Int)<=i then some (i+n).toNat else none
def atI {α:Type} (xs:List α) (i:Int):Option α:=(ixN xs.length i).bind fun j=>xs[j]?
theorem zE2 {n:Nat} {i:Int} {j:Nat} (h:ixN n i=some j):seqIndex? i n=some j/\j < n /\ -(n:Int)<=i/\i < n:=by
 unfold ixN at h
 by_cases h0:0<=i
 ·rw [if_pos h0] at h
  by_cases h1:i < n
  ·rw [if_pos h1] at h
   have e:i.toNat=j:=Option.some.inj h
   exact ⟨by rw [seqIndex_of h0 h1,e],by omega,by omega,h1⟩
  ·rw [if_neg h1] at h;cases h
 ·rw [if_neg h0] at h
  by_cases h1 : -(n:Int)<=i
  ·rw [if_pos h1] at h
   have e:(i+n).toNat=j:=Option.some.inj h
   exact ⟨by rw [seqIndex_neg (by omega) h1,e],by omega,h1,by omega⟩
  ·rw [if_neg h1] at h;cases h
theorem VI {α:Type} {xs:List α} {i:Int} {v:α} (h:atI xs i=some v) : ∃ j,seqIndex? i xs.length=some j/\xs[j]? = some v/\j < xs.length /\ -(xs.length:Int)<=i/\i < xs.length:=by
 unfold atI at h
 cases e:ixN xs.length i with
 | none=>rw [e] at h;cases h
 | some j =>
  rw [e] at h
  obtain ⟨h1,h2,h3,h4⟩:=zE2 e
  exact ⟨j,h1,h,h2,h3,h4⟩
theorem zDs {α:Type} {xs:List α} {j:Nat} {v:α} (h:xs[j]? = some v):atI xs (j:Int)=some v:=by
 have hj:j < xs.length:=(List.getElem?_eq_some_iff.mp h).1
 have e:ixN xs.length (j:Int)=some j:=by
  unfold ixN
  rw [if_pos (by omega),if_pos (by omega)];simp
 unfold atI;rw [e];exact h
def zEZ (b:Expr):Prop:=∀ o i,subscripted b false o i=operate [o,i] (getItem o i)
def IxR (X:Cx) (r:R2):Prop:=
 ∀ (value slice:Expr) (pins:List (Addr × Obj)) (s:Shared) (σ:St) (H:Hp) (x y:V) (v u:Value) (Q:VK),Inv X pins σ H s->jX x v->jX y u->r x y H Q ->
  subscripted slice false v u=operate [v,u] (getItem v u)->wpAny (model X.prog X.w) X.A (subscriptTail value slice v u) (EP X pins σ Q) X.xe s
def MtR (X:Cx) (id:String) (r:V->List V->Hp->VK->Prop):Prop:=
 ∀ (pins:List (Addr × Obj)) (s:Shared) (σ:St) (H:Hp) (x:V) (xs:List V) (v:Value) (us:List Value) (Q:VK),Inv X pins σ H s->jX x v->qE xs us->r x xs H Q ->
  wpAny (model X.prog X.w) X.A (call (.builtin id) (v::us)) (EP X pins σ Q) X.xe s
section
variable {X : Cx} {a b : Expr} {ta tb : TE} {pos : Pos}
theorem zR {r:R2} (hr:IxR X r) (ha:PE X a ta) (hb:PE X b tb) (hs:zEZ b):PE X (.Subscript a b pos) (tOp r ta tb):=by
 intro pins s σ H Q I h
 exact Subscript_ (zIs ha hb I h fun v u s2 x y H2 I2 rx ry q=>hr a b pins s2 σ H2 x y v u Q I2 rx ry q (hs _ _))
def zCM (K:W.Frag):R2:=fun x y H Q=>∃ p xs i v,x = .ref p/\y = .int i/\SqL K H p xs/\atI xs i=some v/\Q v H
def zCD (K:W.Frag):R2:=fun x y H Q=>∃ p xs i v,x = .ref p/\y = .int i/\SqT K H p xs/\atI xs i=some v/\Q v H
def zDU:R2:=fun x y H Q=>∃ z i c,x = .str z/\y = .int i/\z.length<=sizeLine/\atI z.cps.toList i=some c/\Q (.str ⟨#[c]⟩) H
theorem zi:IxR X (zCM X.K):=by
 intro value slice pins s σ H x y v u Q I rx ry h hs
 obtain ⟨p,xs,i,z,rfl,rfl,hq,he,q⟩:=h
 cases rx
 obtain ⟨t,rfl⟩:=ry
 obtain ⟨its,r,pl,hz⟩:=I.list hq
 obtain ⟨j,h1,h2,h3,h4,h5⟩:=VI he
 obtain ⟨w,ew,rw'⟩:=r.get h2
 have hl:=r.length
 have hn:=Ye
 have fin:EP X pins σ Q w s:=⟨z,H,I,rw',q⟩
 by_cases h0:0<=i
 ·have hj:i.toNat=j:=by
   rw [seqIndex_of h0 h5] at h1
   exact Option.some.inj h1
  exact item_listR pl.isList h0 (by omega) (by rw [hj];simpa using ew) fin hs
 ·have hj:(i+(its.toArray.size:Int)).toNat=j:=by
   rw [seqIndex_neg (by omega) h4] at h1
   rw [size_toArray,<- hl]
   exact Option.some.inj h1
  exact subscriptTail_builtinR (x:=w) pl.isList.typeIs slot_list_getitem.lookup
   (wpAny_getItem_list_neg (Q:=fun r s'=>r=w/\EP X pins σ Q r s') pl.isList (by omega) (by rw [size_toArray] <;> omega) (by omega) (by rw [hj];simpa using ew) ⟨rfl,fin⟩) hs
theorem zT:IxR X (zCD X.K):=by
 intro value slice pins s σ H x y v u Q I rx ry h hs
 obtain ⟨p,xs,i,z,rfl,rfl,hq,he,q⟩:=h
 cases rx
 obtain ⟨t,rfl⟩:=ry
 obtain ⟨its,r,pl,hz⟩:=I.tuple hq
 obtain ⟨j,h1,h2,h3,h4,h5⟩:=VI he
 obtain ⟨w,ew,rw'⟩:=r.get h2
 have hl:=r.length
 have hn:=Ye
 have fin:EP X pins σ Q w s:=⟨z,H,I,rw',q⟩
 exact subscriptTail_builtinR (x:=w) pl.typeIs slot_tuple_getitem.lookup
  (getItem_tuple (j:=j) (Q:=fun r s'=>r=w/\EP X pins σ Q r s') pl (by omega) (by omega) (by rw [size_toArray,<- hl];exact h1) (by simpa using ew) ⟨rfl,fin⟩) hs
theorem jz:IxR X zDU:=by
 intro value slice pins s σ H x y v u Q I rx ry h hs
 obtain ⟨z,i,c,rfl,rfl,hz,he,q⟩:=h
 obtain ⟨t,rfl⟩:=rx
 obtain ⟨t',rfl⟩:=ry
 obtain ⟨j,h1,h2,h3,h4,h5⟩:=VI he
 have hl:z.cps.toList.length=z.length:=by simp [Str.length]
 rw [hl] at h1 h4 h5
 have hn:=Ye
 exact tail_any (typeIs_str s z t) slot_str_getitem.lookup (getItem_str (c:=c) (by
  have e1:decide (i < -(2 ^ 63:Int))=false:=decide_eq_false (by omega)
  have e2:decide (i ≥ 2 ^ 63)=false:=decide_eq_false (by omega)
  rw [e1,e2,Bool.or_false]) (by rw [h1];simpa using h2) ⟨.str ⟨#[c]⟩,H,I.tok _,⟨_,rfl⟩,q⟩) hs
variable {s:Shared}
theorem Inv.lst {pins:List (Addr × Obj)} {σ:St} {H:Hp} {p:Addr} {xs:List V} (I:Inv X pins σ H s) (h:H p=some (.lst xs)) :
  ∃ (its:List Value) (n:Nat),qE xs its/\s.heap.get? p=some { cls:=.type "list", data:=.seq its.toArray n }/\xs.length<=sizeLine:=by
 obtain ⟨z,its,n,r,e⟩:=I.hok p _ h
 exact ⟨its,n,r,e,z⟩
theorem Yq (lo hi:Option Int) (n:Nat):(sliceBounds lo hi none n).1=((HT.sIx n 0 lo:Nat):Int)/\(sliceBounds lo hi none n).2.1=((HT.sIx n n hi:Nat):Int)/\(sliceBounds lo hi none n).2.2=1:=by
 refine ⟨?_,?_,rfl⟩
 ·cases lo with
  | none=>simp [sliceBounds,HT.sIx]
  | some i =>
   simp only [sliceBounds,HT.sIx,Option.getD_none,show (1:Int) > 0 by decide,if_true]
   by_cases h:i < 0
   ·simp only [h,if_true] <;> omega
   ·simp only [h,if_false] <;> omega
 ·cases hi with
  | none=>simp [sliceBounds,HT.sIx]
  | some i =>
   simp only [sliceBounds,HT.sIx,Option.getD_none,show (1:Int) > 0 by decide,if_true]
   by_cases h:i < 0
   ·simp only [h,if_true] <;> omega
   ·simp only [h,if_false] <;> omega
theorem XZ (its:List Value) (lo hi:Option Int):slicePick its.toArray lo hi none=((its.drop (HT.sIx its.length 0 lo)).take (HT.sIx its.length its.length hi - HT.sIx its.length 0 lo)).toArray:=by
 obtain ⟨h1,h2,h3⟩:=Yq lo hi its.toArray.size
 unfold slicePick
 rw [h1,h2,h3]
 simp only [sliceRange_one,pick_run,size_toArray] <;> rfl
def zHL (K:W.Frag):V->Option Int->Option Int->Hp->VK->Prop:=fun x lo hi H Q=>∃ a xs,x = .ref a/\SqL K H a xs /\ ∀ p,H p=none->Q (.ref p) (upd H p (.lst (zBA xs lo hi)))
theorem Y3:SlR X (zHL X.K):=by
 intro pins s σ H x v vl vu lo hi sl Q I rx hs pl pu h
 obtain ⟨a,xs,rfl,hx,q⟩:=h
 cases rx
 obtain ⟨its,r,ht,hz⟩:=I.list hx
 have hlen:=r.length
 refine ⟨"list", _,slot_list_getitem.lookup,ht.isList.typeIs,?_⟩
 refine wpAny_getItem_list_slice ht.isList hs pl pu .none (by simp) ?_ (by rw [size_toArray] <;> omega)
 rw [XZ,<- hlen]
 refine ⟨.ref s.heap.objs.size,_,I.laid (t':=s.toks) (o:=.lst (zBA xs lo hi)) (fun b ob q=>Heap.get?_push_of_some _ q) (le_refl _) ?_,rfl,q _ (I.hok.fresh (le_refl _))⟩
 exact ⟨Nat.le_trans (Qi xs lo hi) hz,_,0,(r.drop (HT.sIx xs.length 0 lo)).take (HT.sIx xs.length xs.length hi - HT.sIx xs.length 0 lo),Heap.get?_push_size _ rfl⟩
def JX:V->Bool
 | .non=>true
 | .bl _=>true
 | .int _=>true
 | .str _=>true
 | _=>false
def eqV:V->V->Bool
 | .non,.non=>true
 | .bl a,.bl b=>a == b
 | .bl a,.int b=>(if a then 1 else 0) == b
 | .int a,.bl b=>a == (if b then 1 else 0)
 | .int a,.int b=>a == b
 | .str a,.str b=>a == b
 | _,_=>false
variable {x:V}
theorem zHl {A:Around} {y:V} {u v:Value} (ry:jX y u) (rx:jX x v) (fy:JX y=true) (fx:JX x=true):SeqAt.EqAt A s u v (eqV y x):=by
 cases y with
 | non =>
  cases ry
  cases x with
  | non=>cases rx;exact SeqAt.EqAt.same _
  | bl b=>cases rx;exact SeqAt.EqAt.none_bool b
  | int b=>obtain ⟨t,rfl⟩:=rx;exact SeqAt.EqAt.none_int b t
  | str b=>obtain ⟨t,rfl⟩:=rx;exact SeqAt.EqAt.none_str b t
  | _=>exact absurd (show false=true from fx) Bool.false_ne_true
 | bl a =>
  cases ry
  cases x with
  | non=>cases rx;exact SeqAt.EqAt.bool_none a
  | bl b=>cases rx;exact SeqAt.EqAt.bool_bool a b
  | int b=>obtain ⟨t,rfl⟩:=rx;exact SeqAt.EqAt.bool_int a b t
  | str b=>obtain ⟨t,rfl⟩:=rx;exact SeqAt.EqAt.bool_str a b t
  | _=>exact absurd (show false=true from fx) Bool.false_ne_true
 | int a =>
  obtain ⟨t',rfl⟩:=ry
  cases x with
  | non=>cases rx;exact SeqAt.EqAt.int_none a t'
  | bl b=>cases rx;exact SeqAt.EqAt.int_bool a t' b
  | int b=>obtain ⟨t,rfl⟩:=rx;exact SeqAt.EqAt.int_int a t' b t
  | str b=>obtain ⟨t,rfl⟩:=rx;exact SeqAt.EqAt.int_str a t' b t
  | _=>exact absurd (show false=true from fx) Bool.false_ne_true
 | str a =>
  obtain ⟨t',rfl⟩:=ry
  cases x with
  | non=>cases rx;exact SeqAt.EqAt.str_none a t'
  | bl b=>cases rx;exact SeqAt.EqAt.str_bool a t' b
  | int b=>obtain ⟨t,rfl⟩:=rx;exact SeqAt.EqAt.str_int a t' b t
  | str b=>obtain ⟨t,rfl⟩:=rx;exact SeqAt.EqAt.str_str a t' b t
  | _=>exact absurd (show false=true from fx) Bool.false_ne_true
 | _=>exact absurd (show false=true from fy) Bool.false_ne_true
def eqU (x:V) (u:Value):Bool:=match u with
 | .none=>eqV .non x
 | .bool b=>eqV (.bl b) x
 | .int i _=>eqV (.int i) x
 | .str z _=>eqV (.str z) x
 | _=>false
theorem zDZ {y:V} {u:Value} (r:jX y u) (f:JX y=true):eqU x u=eqV y x:=by
 cases y with
 | non=>cases r;rfl
 | bl b=>cases r;rfl
 | int i=>obtain ⟨t,rfl⟩:=r;rfl
 | str z=>obtain ⟨t,rfl⟩:=r;rfl
 | _=>exact absurd (show false=true from f) Bool.false_ne_true
theorem VF {x:V} : ∀ {xs:List V} {us:List Value},qE xs us->xs.all JX=true->us.any (eqU x)=xs.any fun y=>eqV y x
 | _,_,.nil,_=>rfl
 | y::xs,u::us,.cons r t,f=>by
  rw [List.all_cons,Bool.and_eq_true] at f
  rw [List.any_cons,List.any_cons,zDZ r f.1,VF t f.2]
theorem QQ {A:Around} {s:Shared} {x:V} {v:Value} (rx:jX x v) (fx:JX x=true) : ∀ {xs:List V} {us:List Value},qE xs us->xs.all JX=true -> ∀ u ∈ us,SeqAt.EqAt A s u v (eqU x u)
 | _,_,.nil,_=>fun u hu=>by cases hu
 | y::xs,u::us,.cons r t,f=>fun u' hu=>by
  rw [List.all_cons,Bool.and_eq_true] at f
  rcases List.mem_cons.mp hu with rfl | hu
  ·rw [zDZ r f.1];exact zHl r rx f.1 fx
  ·exact QQ rx fx t f.2 u' hu
def inV (x:V) (xs:List V):Bool:=xs.any fun y=>eqV y x
def rIn (K:W.Frag) (neg:Bool):R2:=fun x y H Q=>∃ p xs,y = .ref p/\(SqL K H p xs\/SqT K H p xs)/\JX x=true/\xs.all JX=true/\Q (.bl (if neg then !inV x xs else inV x xs)) H
theorem Yf:OpR X (compareOp .In) (rIn X.K false):=by
 intro pins s σ H x y v u Q I rx ry h
 obtain ⟨p,xs,rfl,hq,fx,fs,q⟩:=h
 cases ry
 rcases hq with hq | hq
 ·obtain ⟨its,r,pl,hz⟩:=I.list hq
  refine SeqAt.in_listAt (eqU x) pl.isList (fun w hw=>QQ rx fx r fs w (by simpa using hw)) ⟨.bl _,H,I,rfl,?_⟩
  rw [show its.toArray.any (eqU x)=its.any (eqU x) by simp,VF r fs]
  exact q
 ·obtain ⟨its,r,pl,hz⟩:=I.tuple hq
  refine SeqAt.in_tupleAt (eqU x) pl (fun w hw=>QQ rx fx r fs w (by simpa using hw)) ⟨.bl _,H,I,rfl,?_⟩
  rw [show its.toArray.any (eqU x)=its.any (eqU x) by simp,VF r fs]
  exact q
theorem YO:yE X (.builtin "len") (fun xs H Q=>∃ p ys,xs=[.ref p]/\(SqL X.K H p ys\/SqT X.K H p ys)/\Q (.int ys.length) H):=by
 intro pins s σ H xs us Q I r h
 obtain ⟨p,ys,rfl,hq,q⟩:=h
 obtain ⟨u,rfl,rx⟩:=KO r
 cases rx
 have hn:=Ye
 rcases hq with hq | hq
 ·obtain ⟨its,r',pl,hz⟩:=I.list hq
  have hlen:=r'.length
  exact Calls.call_len_list pl.isList (by simp only [size_toArray] <;> omega) ⟨.int ys.length,H,I.tok _,⟨s.toks+1,by rw [size_toArray,hlen]⟩,q⟩
 ·obtain ⟨its,r',pl,hz⟩:=I.tuple hq
  have hlen:=r'.length
  exact len_tuple pl (by simp only [size_toArray] <;> omega) ⟨.int ys.length,H,I.tok _,⟨s.toks+1,by rw [size_toArray,hlen]⟩,q⟩
theorem YG:yE X (.builtin "len") (fun xs H Q=>∃ z,xs=[.str z]/\z.length<=sizeLine/\Q (.int z.length) H):=by
 intro pins s σ H xs us Q I r h
 obtain ⟨z,rfl,hz,q⟩:=h
 obtain ⟨u,rfl,t,rfl⟩:=KO r
 have hn:=Ye
 exact len_str (by omega) ⟨.int z.length,H,I.tok _,⟨_,rfl⟩,q⟩
theorem YN:yE X (.type "list") (fun xs H Q=>∃ p ys,xs=[.ref p]/\(SqL X.K H p ys\/SqT X.K H p ys) /\ ∀ l,H l=none->Q (.ref l) (upd H l (.lst ys))):=by
 intro pins s σ H xs us Q I r h
 obtain ⟨p,ys,rfl,hq,q⟩:=h
 obtain ⟨u,rfl,rx⟩:=KO r
 cases rx
 have fin : ∀ (its:List Value),qE ys its->ys.length<=sizeLine -> ∀ (h':Heap) (c':Nat),(∀ b o',s.heap.get? b=some o'->h'.get? b=some o') ->
   h'.get? s.heap.objs.size=some { cls:=.type "list", dict:=none,data:=.seq its.toArray c',slots:=#[] }->EP X pins σ Q (.ref s.heap.objs.size) { s with heap:=h' }:=fun its r' hz h' c' kp e =>
  ⟨.ref s.heap.objs.size,_,I.laid (t':=s.toks) kp (le_refl _) (show jQ X.prog X.w _ h' _ (.lst ys) from ⟨hz,its,c',r',e⟩),rfl,q _ (I.hok.fresh (le_refl _))⟩
 rcases hq with hq | hq
 ·obtain ⟨its,r',pl,hz⟩:=I.list hq
  have hlen:=r'.length
  obtain ⟨o,ho,hc,n,hd⟩:=pl.isList
  exact call_list_seq p (.inl rfl) ho hc hd (fun h' c' kp e=>fin its r' hz h' c' kp e) (by simp only [size_toArray] <;> omega)
 ·obtain ⟨its,r',pl,hz⟩:=I.tuple hq
  have hlen:=r'.length
  obtain ⟨o,ho,hc,n,hd⟩:=pl
  exact call_list_seq p (.inr rfl) ho hc hd (fun h' c' kp e=>fin its r' hz h' c' kp e) (by simp only [size_toArray] <;> omega)
def tyV (K:W.Frag) (T:String) (x:V) (H:Hp):Prop:=match x with
 | .str _=>T = "str"
 | .int _=>T = "int"
 | .ref p=>(T = "list" /\ ∃ xs,SqL K H p xs)\/(T = "tuple" /\ ∃ o,K.lookup p=some o/\o.cls = .type "tuple" /\ o.dict=none) \/
   (T = "dict" /\ ((∃ kvs,H p=some (.dK kvs)) \/ ∃ kvs,H p=some (.dT kvs)))\/(T = "set" /\ ∃ S n,H p=some (.set S n))
 | _=>False
theorem zC6 {pins:List (Addr × Obj)} {σ:St} {H:Hp} {T:String} {v:Value} (I:Inv X pins σ H s) (r:jX x v) (ty:tyV X.K T x H) :
  s.TypeIs v T /\ ∀ a,v = .ref a -> ∃ ob,s.heap.get? a=some ob/\ob.dict=none:=by
 cases x with
 | str z =>
  obtain ⟨t,rfl⟩:=r
  cases (show T = "str" from ty)
  exact ⟨typeIs_str s z t,fun _ e=>nomatch e⟩
 | int i =>
  obtain ⟨t,rfl⟩:=r
  cases (show T = "int" from ty)
  exact ⟨typeIs_int s i t,fun _ e=>nomatch e⟩
 | ref p =>
  cases r
  rcases ty with ⟨rfl,xs,hq⟩ | ⟨rfl,o,hk,hc,hd⟩ | ⟨rfl,hk⟩ | ⟨rfl,S,n,hk⟩
  ·obtain ⟨its,_,pl,_⟩:=I.list hq
   refine ⟨pl.isList.typeIs,fun a e=>?_⟩
   cases e
   obtain ⟨o,n,e,c,hd,_⟩:=pl
   exact ⟨o,e,hd⟩
  ·refine ⟨⟨o,I.kIn p o hk,hc⟩,fun a e=>?_⟩
   cases e
   exact ⟨o,I.kIn _ o hk,hd⟩
  ·have z : ∃ o,s.heap.get? p=some o/\o.ExactDict:=by
    rcases hk with ⟨kvs,hk⟩ | ⟨kvs,hk⟩
    ·obtain ⟨_,_,_,_,o,_,_,e,ex,_⟩:=I.hok p _ hk
     exact ⟨o,e,ex⟩
    ·obtain ⟨_,_,_,_,o,_,_,e,ex,_⟩:=I.hok p _ hk
     exact ⟨o,e,ex⟩
   obtain ⟨o,e,ex⟩:=z
   refine ⟨⟨o,e,ex.1⟩,fun a e2=>?_⟩
   cases e2
   exact ⟨o,e,ex.2.1⟩
  ·obtain ⟨o,_,_,_,e,ex,_⟩:=I.hok p _ hk
   refine ⟨⟨o,e,ex.1⟩,fun a e2=>?_⟩
   cases e2
   exact ⟨o,e,ex.2.1⟩
 | _=>exact False.elim ty
def zI7 (K:W.Frag) (T:String) (r:V->List V->Hp->VK->Prop) (to:TE):TE:=fun σ H Q=>to σ H fun x H1=>tyV K T x H1/\r x [] H1 Q
def tBM (K:W.Frag) (T:String) (r:V->List V->Hp->VK->Prop) (to:TE) (t:TA):TE:=fun σ H Q=>to σ H fun x H1=>tyV K T x H1/\t σ H1 fun xs H2=>r x xs H2 Q
variable {o e : Expr} {es : List Expr} {to : TE} {t : TA} {name : Str} {apos cpos : Pos} {T id : String} {r : V -> List V -> Hp -> VK -> Prop}
theorem We (pa:PlainAttrs T) (slot:Slot T name id) (hty:typeOf (.builtin id)=pure (.type "method_descriptor")) (hm:MtR X id r) (ho:PE X o to)
  (hbase:attributeBase o name X.env (eval o X.env)=eval o X.env:=by rfl) (hline:(apos.endLine == cpos.line)=true:=by rfl):PE X (.Call (.Attribute o name apos) [] [] cpos) (zI7 X.K T r to):=by
 intro pins s σ H Q I h
 refine wpAny_Call_method0_late hbase hline (thn (ho pins s σ H _ I h) fun v s1 zq=>?_)
 obtain ⟨x,H1,I1,r1,ty,q1⟩:=zq
 obtain ⟨h1,h2⟩:=zC6 I1 r1 ty
 exact ⟨T,id,pa,slot,hty,h1,h2,Calls.callWith_builtin rfl (PySem.evalArgs_none (hm pins s1 σ H1 x [] v [] Q I1 r1 .nil q1))⟩
theorem kv (pa:PlainAttrs T) (slot:Slot T name id) (hty:typeOf (.builtin id)=pure (.type "method_descriptor")) (hm:MtR X id r) (ho:PE X o to) (ha:PA X (e::es) t)
  (hbase:attributeBase o name X.env (eval o X.env)=eval o X.env:=by rfl)
  (hfew:((backTo cpos (starEach (e::es) X.env)).all (fun x=>!x.1) && (backToKw cpos (keywordEach [] X.env)).all (fun x=>x.1.isSome)
   && decide ((e::es).length+([]:List Keyword).length+(if ([]:List Keyword).isEmpty then 0 else 1) < 30))=true:=by rfl)
  (hline:(apos.endLine == cpos.line)=true:=by rfl) (hs:starEach (e::es) X.env=(false,eval e X.env)::starEach es X.env:=by rfl) (hplain:(backTo cpos (starEach es X.env)).any (·.1)=false:=by rfl) :
  PE X (.Call (.Attribute o name apos) (e::es) [] cpos) (tBM X.K T r to t):=by
 intro pins s σ H Q I h
 refine wpAny_Call_method_late hbase hfew hline rfl (thn (ho pins s σ H _ I h) fun v s1 zq=>?_)
 obtain ⟨x,H1,I1,r1,ty,q1⟩:=zq
 obtain ⟨h1,h2⟩:=zC6 I1 r1 ty
 refine ⟨T,id,pa,slot,hty,h1,h2,?_⟩
 have hA:=ha cpos pins s1 σ H1 _ I1 q1
 rw [hs] at hA ⊢
 refine Calls.callWith_builtin (by show (false || (backTo cpos (starEach es X.env)).any (·.1))=false;rw [hplain] <;> rfl) (Calls.evalArgs_plain ?_)
 exact thn hA fun us s2 ⟨vs,H2,I2,r2,q2⟩=>hm pins s2 σ H2 x vs v us Q I2 r1 r2 q2
end
def MtM (X:Cx) (id:String) (r:V->List V->Hp->VK->Prop):Prop:=
 ∀ (pins:List (Addr × Obj)) (s:Shared) (σ:St) (H:Hp) (x:V) (xs:List V) (v:Value) (us:List Value) (Q:VK),Inv X pins σ H s->jX x v->qE xs us->r x xs H Q ->
  wpAny (model X.prog X.w) X.A (call (.builtin id) (v::us)) (EP X pins σ Q) X.xe s
theorem qE.one : ∀ {x:V} {us:List Value},qE [x] us -> ∃ u,us=[u]/\jX x u
 | _,_,.cons r .nil=>⟨_,rfl,r⟩
theorem qE.zero : ∀ {us:List Value},qE [] us->us=[]
 | _,.nil=>rfl
theorem qE.reverse {xs:List V} {us:List Value} (h:qE xs us):qE xs.reverse us.reverse:=by
 induction h with
 | nil=>exact .nil
 | cons r t ih=>rw [List.reverse_cons,List.reverse_cons];exact qE.append ih (.cons r .nil)
theorem qE.rep {xs:List V} {us:List Value} (h:qE xs us) : ∀ k:Nat,qE (List.replicate k xs).flatten (List.replicate k us).flatten
 | 0=>.nil
 | k+1=>by
  rw [List.replicate_succ,List.replicate_succ,List.flatten_cons,List.flatten_cons]
  exact qE.append h (qE.rep h k)
section
variable {X : Cx} {pins : List (Addr × Obj)} {σ : St} {H : Hp} {s : Shared} {l b : Addr} {xs ys zs : List V}
theorem Inv.lset {its its':List Value} {n:Nat} {f:Array Value->Array Value} {t':Nat} (I:Inv X pins σ H s) (hH:H l=some (.lst xs))
  (e:s.heap.get? l=some { cls:=.type "list", data:=.seq its.toArray n }) (hf:f its.toArray=its'.toArray) (hv:qE ys its') (hz:ys.length<=sizeLine) :
  Inv X pins σ (upd H l (.lst ys)) { s with heap:=s.heap.update l (Obj.mapSeq f),toks:=t' }:=by
 have q:=PySem.IsL.update e f
 rw [hf] at q
 refine I.write (x:=l) (e:=l) (by rw [hH];exact trivial) (.inl rfl) (fun b' u hb hu=>(Heap.get?_update_other s.heap (Obj.mapSeq f) (Ne.symm hb)).trans hu) ⟨_,q⟩ ?_
 exact ⟨hz,its',_,hv,q⟩
theorem Inv.lnew {its:List Value} {t':Nat} (I:Inv X pins σ H s) (hv:qE ys its) (hz:ys.length<=sizeLine) :
  Inv X pins σ (upd H s.heap.objs.size (.lst ys)) { s with heap:=s.heap.push { cls:=.type "list", data:=.seq its.toArray },toks:=t' }:=
 I.laid (fun _ _ q=>Heap.get?_push_of_some _ q) (le_refl _) ⟨hz,its,0,hv,Heap.get?_push_size _ rfl⟩
theorem Inv.fresh (I:Inv X pins σ H s):H s.heap.objs.size=none:=I.hok.fresh (le_refl _)
theorem Inv.lstM (I:Inv X pins σ H s) (hH:H l=some (.lst xs)):xs.length<=sizeLine /\ ∃ (its:List Value) (n:Nat),qE xs its/\xs.length=its.length/\s.heap.get? l=some { cls:=.type "list", data:=.seq its.toArray n }:=by
 obtain ⟨z,its,n,r,e⟩:=I.hok l _ hH
 exact ⟨z,its,n,r,r.length,e⟩
end
section
variable {X : Cx}
def Y0:V->List V->Hp->VK->Prop:=fun x vs H Q=>∃ l xs y,x = .ref l/\vs=[y]/\H l=some (.lst xs)/\xs.length < sizeLine/\Q .non (upd H l (.lst (xs++[y])))
theorem yp:MtM X "list.append" Y0:=by
 intro pins s σ H x vs v us Q I rx rv h
 obtain ⟨l,xs,y,rfl,rfl,hH,hz,q⟩:=h
 cases rx
 obtain ⟨u,rfl,ru⟩:=rv.one
 obtain ⟨z,its,n,r,hl,e⟩:=I.lstM hH
 refine call_meets F.slot_list_append ⟨_,e,rfl⟩ F.entry_list_append (F.args_list_append_2 _ _) (PySem.list_append l its.toArray n u (by rw [size_toArray];omega)) ⟨e,?_⟩
 refine ⟨.non,_,I.lset (its':=its++[u]) hH e (by simp) (r.append (.cons ru .nil)) ?_,rfl,q⟩
 rw [List.length_append,List.length_singleton]
 omega
def Vg:V->List V->Hp->VK->Prop:=fun x vs H Q=>∃ l xs,x = .ref l/\vs=[]/\H l=some (.lst xs)/\Q .non (upd H l (.lst xs.reverse))
theorem Kg:MtM X "list.reverse" Vg:=by
 intro pins s σ H x vs v us Q I rx rv h
 obtain ⟨l,xs,rfl,rfl,hH,q⟩:=h
 cases rx
 have hus:=rv.zero
 subst hus
 obtain ⟨z,its,n,r,hl,e⟩:=I.lstM hH
 refine call_meets F.slot_list_reverse ⟨_,e,rfl⟩ F.entry_list_reverse (F.args_list_reverse_1 _) (AutoSeq1.list_reverse_list_0 l its.toArray n (by rw [size_toArray];omega)) ⟨e,?_⟩
 refine ⟨.non,_,I.lset (its':=its.reverse) hH e (by simp) r.reverse ?_,rfl,q⟩
 rw [List.length_reverse]
 omega
def zDQ:V->List V->Hp->VK->Prop:=fun x vs H Q=>∃ l xs,x = .ref l/\vs=[]/\H l=some (.lst xs)/\Q .non (upd H l (.lst []))
theorem KF:MtM X "list.clear" zDQ:=by
 intro pins s σ H x vs v us Q I rx rv h
 obtain ⟨l,xs,rfl,rfl,hH,q⟩:=h
 cases rx
 have hus:=rv.zero
 subst hus
 obtain ⟨z,its,n,r,hl,e⟩:=I.lstM hH
 refine call_meets F.slot_list_clear ⟨_,e,rfl⟩ F.entry_list_clear (F.args_list_clear_1 _) (AutoSeq1.list_clear_list_0 l its.toArray n (by rw [size_toArray];omega)) ⟨e,?_⟩
 exact ⟨.non,_,I.lset (its':=[]) (ys:=[]) hH e rfl .nil (Nat.zero_le _),rfl,q⟩
def zIi:R2:=fun x y H Q=>∃ l b xs zs,x = .ref l/\y = .ref b/\H l=some (.lst xs)/\H b=some (.lst zs)/\xs.length+zs.length<=sizeLine /\ ∀ p,H p=none->Q (.ref p) (upd H p (.lst (xs++zs)))
theorem zAH:OpR X (binaryOp .Add) zIi:=by
 intro pins s σ H x y v u Q I rx ry h
 obtain ⟨l,b,xs,zs,rfl,rfl,hH,hB,hz,q⟩:=h
 cases rx
 cases ry
 obtain ⟨z,its,n,r,hl,e⟩:=I.lstM hH
 obtain ⟨z2,its2,n2,r2,hl2,e2⟩:=I.lstM hB
 refine PySem.P.add_list e e2 ?_ (by rw [size_toArray,size_toArray];omega)
 have ea:its.toArray++its2.toArray=(its++its2).toArray:=by simp
 rw [ea]
 exact ⟨.ref _,_,I.lnew (t':=s.toks) (r.append r2) (by rw [List.length_append];omega),rfl,q _ I.fresh⟩
end
section
variable {prog : Program} {w : World} {A : Around} {E : Value -> Shared -> Prop} {s : Shared}
set_option maxRecDepth 100000 in
end
end L2
namespace Att
open PySem PySem.W PySem.Calls PyProof.Rows
theorem Qr {P:Params} {h:Heap} : ∀ (ns:List Int) (vs:List Value),WellAll P h vs (ns.map WData.int)->IntsAre vs ns:=by
 intro ns
 induction ns with
 | nil =>
  intro vs w
  rw [List.map_nil] at w
  cases w
  exact .nil
 | cons n ns ih =>
  intro vs w
  rw [List.map_cons] at w
  cases w with
  | cons a b =>
   cases a
   exact .cons _ _ (ih _ b)
theorem W9 {l:OpenLaw} {n:Nat} (hn:l.most=some n) {P:Params} {h:Heap} {args:List WData} {vals:List Value}
  (hpre:l.row.toRowW.claim.pre args=true) (hwl:WellAll P h vals args) :
  ∃ a vs ns,vals=[Value.ref a]/\args=[WData.list (ns.map WData.int)]/\h.get? a=some { cls:=.type "list", data:=.seq vs.toArray }/\IntsAre vs ns/\ns.length<=n:=by
 have hsh:WShape.hasAll [] args [.list .int]=true:=(pre_splitW hpre).1
 have hc:l.pre.holds [] { args:=args }=true:=(pre_splitW hpre).2
 obtain ⟨d,r,rfl,h1,h2⟩:=hasAllW_cons hsh
 obtain rfl:=hasAllW_nil h2
 obtain ⟨xs,rfl,h3⟩:=hasW_list h1
 obtain ⟨ns,rfl⟩:=items_int h3
 have hlen:ns.length<=n:=by
  unfold OpenLaw.pre at hc
  have h4:(WTm.not (.lt (.lit (.int (n:Int))) (.len (.arg 0)))).holds [] { args:=[.list (ns.map .int)] }=true:=by
   have h4:=(holds_andW hc).1
   rw [hn] at h4
   exact h4
  have h5:=condW_of h4 (w_not (w_lt w_lit (w_len_list (w_arg rfl))))
  rw [List.length_map] at h5
  refine Nat.le_of_not_lt fun q=>?_
  have q':(n:Int) < ((ns.length:Nat):Int):=by omega
  first
   | (rw [decide_eq_true q'] at h5;exact absurd h5 (by decide))
   | (simp at h5;omega)
 cases hwl with
 | cons w1 w2 =>
  cases w2
  cases w1 with
  | list ho hall=>exact ⟨_,_,ns,rfl,rfl,ho,Qr ns _ hall,hlen⟩
theorem zBJ (l:OpenLaw) (args:List WData):l.row.toRowW.claim.post args (.bool true) args=true:=
 postW_of (r:=l.row.toRowW) (X:=(true == true))
  (show WShape.has [] (.bool true) .bool=true by first | rfl | decide | simp [WShape.has,WShape.arms,WShape.armsAll])
  (show (WTm.eq .res (.lit (.bool true))).value [] { args:=args,res:=some (.bool true),after:=args }=some (.bool (true == true)) from w_eq_bool (w_res rfl) w_lit) rfl
theorem attach_call {l:OpenLaw} {n:Nat} {q:Program} {loose:List Str} {XP:(Str->Option Value)->Heap->Prop} {YP:World->Heap->Prop} {d:DefRec}
  (hn:l.most=some n) (hdf:d.params.defaults=[])
  (call : ∀ (w:World) (s₀ s₁:Shared) (mg mb:Str->Option Value) (fa:Addr) (o:Obj) (pm cd doc:Value) (a:Addr) (vs:List Value) (ns:List Int),
   Ground q loose [] XP w s₀ mg mb s₁.heap->YP w s₁.heap ->
   s₁.heap.get? fa=some o->o.data = .func (docDef d.name d.params d.body d.scope pm cd doc)->s₁.heap.CodeRec cd d.name->mg d.name=some (.ref fa) ->
   s₁.heap.get? a=some { cls:=.type "list", data:=.seq vs.toArray }->IntsAre vs ns->ns.length<=n->s₁.gens = #[] ->
   codeAny (model l.prog w) callerA (.call (.ref fa) ⟨[.ref a],[]⟩) (fun r s'=>r = .ok (.ret (.bool true))/\OldK s₁.heap s'.heap/\s'.os=s₁.os/\AllBare s'.gens) s₁) :
  WalkO q loose XP YP l.row.toRowW d [] (fun f vs=>PySem.call f vs):=by
 intro w s₀ s₁ mg mb G Y fa o pm cd doc dV kV ho hd hcd hD hmg hg args vals as hpre hlay hrd hwl hlo
 obtain rfl:dV = .none:=Dflts.none hD hdf
 obtain rfl:kV = .none:=Dflts.noKw hD
 obtain ⟨a,vs,ns,rfl,rfl,hobj,hints,hlen⟩:=W9 hn hpre hwl
 refine enter_call (codeAny_mono (call w s₀ s₁ mg mb fa o pm cd doc a vs ns G Y ho (fd_plain hd) hcd hmg hobj hints hlen hg) fun r s' hq=>?_)
 obtain ⟨rfl,h2,h3,h4⟩:=hq
 exact ⟨.inl ⟨.bool true,.bool true,[],rfl,fun _=>rfl,.bool true,zBJ l _,fun _=>⟨List.Pairwise.nil,fun _ hm=>(nomatch hm)⟩⟩,h2,h3,h4⟩
end Att
namespace L2
open PySem PySem.Spec PyProof.Rows
open List (append_assoc drop_of_length_le drop_zero eq_nil_of_length_eq_zero find?_cons find?_toArray foldl_cons getD_eq_getElem?_getD getElem?_eq_getElem getElem?_map getElem_mem length_append length_cons length_drop length_map length_replicate length_reverse length_singleton length_take lookup_cons map_cons mem_append_left mem_append_right mem_cons reverse_reverse take_append_of_le_length take_length take_of_length_le)
open Nat (eq_zero_or_pos le_trans lt_irrefl lt_of_lt_of_le lt_or_ge mod_eq_of_lt ne_of_lt)
open Int (max_eq_right)
theorem YM : ∀ {vs:List Value} {ns:List Int},IntsAre vs ns->qE (ns.map V.int) vs
 | _,_,.nil=>.nil
 | _,_,.cons n t h=>.cons ⟨t,rfl⟩ (YM h)
def zH5 (H:Hp):Prop:=∀ b,H b=none \/ ∃ o xs,H b=some (.frz o (.lst xs))
variable {P:Program} {w:World} {K:W.Frag} {mg:Str->Option Value} {k:Nat} {a:Addr} {fd:FuncData} {x:Str} {sp:Sp}
theorem zCV {mb:Str->Option Value} {CX:CXT} {fa:Addr} {s₁:Shared} {vs:List Value} {ns:List Int}
  (KX:K.In s₁.heap) (hns:s₁.heap.Ns mainGlobals mg) (hb:s₁.heap.Ns builtinsNs mb) (hbb : ∀ x:Str,x ≠ "__name__" -> mb x=bootBuiltins x) (hlim:s₁.heap.NoLimit) (hg:s₁.gens = #[])
  (ha:s₁.heap.get? a=some { cls:=.type "list", data:=.seq vs.toArray }) (hi:IntsAre vs ns) (hl:ns.length<=sizeLine) (hr:jq k callerA)
  (F : ∀ base:Heap,K.In base->base.Ns mainGlobals mg->xG P w K mg base CX k fa fd [x] sp) (hbind : ∀ (s:Shared) (u:Value),BindsTo s fd ⟨[u],[]⟩ [(x,u)])
  (hsp : ∀ H:Hp,zH5 H->SqL K H a (ns.map V.int)->sp [.ref a] H (fun v _=>v = .bl true) fun _ _ _=>False)
  (hCX : ∀ H e s',CX [] H s₁ (fun _ _ _=>False) e s'->False) :
  codeAny (model P w) callerA (.call (.ref fa) ⟨[.ref a],[]⟩) (fun r s'=>r = .ok (.ret (.bool true))/\OldK s₁.heap s'.heap/\s'.os=s₁.os/\AllBare s'.gens) s₁:=by
 have rv:=YM hi
 have lenV:=hi.length
 have core : ∀ H:Hp,zH5 H->SqL K H a (ns.map V.int)->HOk P w H s₁.heap->(∀ b,H b≠none->b=a)->(H a≠none->K.lookup a=none) ->
   codeAny (model P w) callerA (.call (.ref fa) ⟨[.ref a],[]⟩) (fun r s'=>r = .ok (.ret (.bool true))/\OldK s₁.heap s'.heap/\s'.os=s₁.os/\AllBare s'.gens) s₁:=by
  intro H hO hS hok hA hK
  have base_of : ∀ {b:Addr} {o:Obj},s₁.heap.get? b=some o->H b=none->(zCG s₁.heap H).get? b=some o:=fun e n=>zCP e n
  have noA : ∀ {b:Addr} {o:Obj} {es:Array DictEntry} {ep:Nat},s₁.heap.get? b=some o->o.data = .dict es ep->H b=none:=fun {b o es ep} e d=>by
   cases q:H b with
   | none=>rfl
   | some u =>
    have e':b=a:=hA b (by rw [q];simp)
    subst e'
    rw [ha] at e;cases e
    have d':Data.seq vs.toArray _=Data.dict es ep:=d
    cases d'
  have nsK : ∀ {b:Addr} {m:Str->Option Value},s₁.heap.Ns b m->(zCG s₁.heap H).Ns b m:=fun {b m} ⟨o,es,ep,e,d,r⟩=>⟨o,es,ep,base_of e (noA e d),d,r⟩
  have hKb:K.In (zCG s₁.heap H):=fun b o e=>base_of (KX b o e) (by
   cases q:H b with
   | none=>rfl
   | some u =>
    have e':b=a:=hA b (by rw [q];simp)
    subst e'
    rw [hK (by rw [q];simp)] at e;cases e)
  have hM:Mod K mg (zCG s₁.heap H):=⟨hKb,nsK hns,⟨mb,nsK hb,hbb⟩,let ⟨mc,h1,h2⟩:=hlim;⟨mc,nsK h1,h2⟩⟩
  have e0:Vy P w K mg (zCG s₁.heap H) callerA [] s₁ H:=⟨rfl,hM,fun b o e=>zDk e,Nat.le_of_eq (Wt _ _),trivial,fun b hb=>absurd (show b ∈ ([]:List Addr) from hb) (by simp),hok,.of_eq hg⟩
  refine codeAny_mono ((F _ hKb (nsK hns)).run callerA [] s₁ H ⟨[.ref a],[]⟩ [.ref a] [.ref a] _ _ hr e0 (hbind s₁ (.ref a)) (.cons rfl .nil) (hsp H hO hS)) fun r s' h=>?_
  cases r with
  | error e=>exact (hCX H e s' h).elim
  | ok fl =>
   cases fl with
   | next=>exact False.elim h
   | brk=>exact False.elim h
   | cont=>exact False.elim h
   | ret u =>
    obtain ⟨v,H',os,bare,un,hok',r',q⟩:=h
    have q':v = .bl true:=q
    subst q'
    obtain rfl:u=Value.bool true:=r'
    refine ⟨rfl,OldK.of_keep fun b o e=>?_,os,bare⟩
    cases q:H b with
    | none=>exact un.keep b o e q (by intro z;exact absurd (show b ∈ ([]:List Addr) from z) (by simp)) (by simp)
    | some u =>
     rcases hO b with z | ⟨ob,xs,z⟩
     ·rw [q] at z;cases z
     ·have z2:=un.frzs b ob _ z
      obtain ⟨e1,_⟩:=hok b _ z
      obtain ⟨e2,_⟩:=hok' b _ z2
      rw [e] at e1;cases e1
      exact e2
 cases hk:K.lookup a with
 | some o =>
  have e:=KX a o hk
  rw [ha] at e
  cases e
  refine core (fun _=>none) (fun _=>.inl rfl) (.inr ⟨_,vs.toArray,_,hk,rfl,rfl,rfl,by rw [List.size_toArray,lenV];exact hl,by simpa using rv⟩) (fun b u z=>by have z':(none:Option HO)=some u:=z;cases z') (fun b z=>absurd rfl z) fun z=>absurd rfl z
 | none =>
  refine core (fun b=>if b=a then some (.frz { cls:=.type "list", data:=.seq vs.toArray } (.lst (ns.map V.int))) else none) (fun b=>?_) (.inl (.inr ⟨{ cls:=.type "list", data:=.seq vs.toArray },if_pos rfl⟩)) (fun b u z=>?_) (fun b z=>?_) fun _=>hk
  ·by_cases hb:b=a
   ·exact .inr ⟨_,_,if_pos hb⟩
   ·exact .inl (if_neg hb)
  ·by_cases hb:b=a
   ·have z':=(if_pos hb).symm.trans z
    cases z'
    subst hb
    exact ⟨ha,by rw [length_map];exact hl,vs,_,rv,ha⟩
   ·have z':=(if_neg hb).symm.trans z
    cases z'
  ·by_cases hb:b=a
   ·exact hb
   ·exact absurd (if_neg hb) z
theorem walk_of {l:W.OpenLaw} {n:Nat} {q:Program} {loose:List Str} {XP:(Str->Option Value)->Heap->Prop} {YP:World->Heap->Prop} {d:DefRec} {K:Params->W.Frag} {CX:World->CXT} {sp:World->Sp}
  (hn:l.most=some n) (hn2:n<=sizeLine) (hdf:d.params.defaults=[]) (hr:jq k callerA)
  (hY : ∀ (w:World) (h:Heap),YP w h->(K w.params).In h)
  (F : ∀ (w:World) (mg:Str->Option Value) (fa:Addr) (h:Heap),(K w.params).In h->h.Ns mainGlobals mg->mg d.name=some (.ref fa) ->
   ∃ fd:FuncData,(∀ (s:Shared) (u:Value),BindsTo s fd ⟨[u],[]⟩ [(x,u)]) /\
    ∀ base:Heap,(K w.params).In base->base.Ns mainGlobals mg->xG l.prog w (K w.params) mg base (CX w) k fa fd [x] (sp w))
  (hsp : ∀ (w:World) (H:Hp) (a:Addr) (ns:List Int),ns.length<=n->zH5 H->SqL (K w.params) H a (ns.map V.int)->sp w [.ref a] H (fun v _=>v = .bl true) fun _ _ _=>False)
  (hCX : ∀ (w:World) (H:Hp) (s:Shared) (e:Value) (s':Shared),CX w [] H s (fun _ _ _=>False) e s'->False) :
  W.WalkO q loose XP YP l.row.toRowW d [] (fun f vs=>PySem.call f vs):=by
 refine Att.attach_call hn hdf fun w s₀ s₁ mg mb fa o pm cd doc a vs ns G Y ho hd hcd hmg hobj hints hlen hg=>?_
 have KX:=hY w _ Y
 obtain ⟨fd,hb,hF⟩:=F w mg fa _ KX G.T.g hmg
 exact zCV KX G.T.g G.T.b G.T.builtins G.T.nolimit hg hobj hints (le_trans hlen hn2) hr hF hb (fun H hO hS=>hsp w H a ns hlen hO hS) fun H e s'=>hCX w H s₁ e s'
def qo (s:Stmt) (j:Nat):Stmt:=match s with
 | .ClassDef _ _ _ body _ _ _ _ _ _ _=>body.getD j (.Pass ⟨0,0,0,0⟩)
 | _=>.Pass ⟨0,0,0,0⟩
def qG (s:Stmt):Arguments:=match s with
 | .FunctionDef _ a _ _ _ _ _ _ _ _=>a
 | _=>{ posonlyargs:=[],args:=[],vararg:=none,kwonlyargs:=[],kw_defaults:=[],kwarg:=none,defaults:=[] }
def zu (s:Stmt):List Stmt:=match s with
 | .FunctionDef _ _ b _ _ _ _ _ _ _=>b
 | _=>[]
def zG (s:Stmt):Scope:=match s with
 | .FunctionDef _ _ _ _ _ _ sc _ _ _=>sc
 | _=>{ kind:=.function,names:=[],isGenerator:=false,isCoroutine:=false }
abbrev CX0:CXT:=fun _ _ _ _ _ _=>False
abbrev E0:XK:=fun _ _ _=>False
variable {X:Cx}
theorem qj:jv CX0 X E0:=fun _ _ _ _ _ _ _ h=>h.elim
structure Fun (K:W.Frag) (x qual:Str) (st:Stmt) (f:Addr) (fd:FuncData):Prop where
 ex : ∃ (oc:Value) (od:Option Addr) (kV doc pm:Value) (an:Option Addr) (cdv ct:Value) (osl:Array (Option Value)),
  fd=W.fnOf x qual (qG st) (zu st) (zG st) .none kV doc pm an cdv ct/\K.lookup f=some ⟨oc,od,.func fd,osl⟩/\W.codeIn K cdv qual=true
 kp:W.keepIn K (.ref f)=true
section
variable {P : Program} {w : World} {K : W.Frag} {mg : Str -> Option Value} {base : Heap}
variable {qual:Str} {st:Stmt}
theorem Fun.ok {f:Addr} {N ps:List Str} (F:Fun K x qual st f fd) (S:zO N ps (zG st)) (len : ∀ vs H Q E,sp vs H Q E->vs.length=ps.length)
  (hbody : ∀ (cdv:Value) (A:Around) (outer:List Env) (s:Shared) (H:Hp) (vs:List V) (Q:VK) (E:XK),jq k (A.deeper (envOfC qual (zG st) s.heap.objs.size f cdv))->sp vs H Q E ->
   ∃ t,PSs (yd CX0 P w K mg base N qual (zG st) f cdv A outer s H E).nox (zu st) t/\t { nx:=fun _ H'=>Q .non H',rt:=Q } (start N vs) H):xG P w K mg base CX0 (k+1) f fd ps sp:=by
 obtain ⟨oc,od,kV,doc,pm,an,cdv,ct,osl,rfl,lk,hcd⟩:=F.ex
 refine VJ lk hcd S len fun A outer s H vs Q E hr hsp=>?_
 obtain ⟨t,h,q⟩:=hbody cdv A outer s H vs Q E hr hsp
 exact ⟨t,h.nox,q⟩
theorem Fun.binds {f:Addr} {ps:List Str} (F:Fun K x qual st f fd)
  (h : ∀ (kV doc pm:Value) (an:Option Addr) (cdv ct:Value) (us:List Value),us.length=ps.length->bindArgs (W.fnOf x qual (qG st) (zu st) (zG st) .none kV doc pm an cdv ct) ⟨us,[]⟩=pure (ps.zip us)):j9 K fd ps []:=by
 obtain ⟨oc,od,kV,doc,pm,an,cdv,ct,osl,rfl,lk,hcd⟩:=F.ex
 exact .all (h kV doc pm an cdv ct)
theorem zCu {f:Addr} {oc:Value} {od an:Option Addr} {osl:Array (Option Value)} {kV doc pm cdv ct:Value} (l:K.lookup f=some ⟨oc,od,.func (W.fnOf x qual (qG st) (zu st) (zG st) .none kV doc pm an cdv ct),osl⟩)
  (c:W.codeIn K cdv qual=true) (k:W.keepIn K (.ref f)=true):Fun K x qual st f (W.fnOf x qual (qG st) (zu st) (zG st) .none kV doc pm an cdv ct):=⟨⟨oc,od,kV,doc,pm,an,cdv,ct,osl,rfl,l,c⟩,k⟩
end
variable {A:Around}
theorem zIu (hr:jq k A):A.units+1 < cLine:=Nat.lt_of_le_of_lt (Nat.add_le_add_left (by decide:1<=64) _) hr.units
theorem qr {n:Nat} (h:n<=1000):n < sizeLine:=Nat.lt_of_le_of_lt h (by decide)
section
variable {X : Cx}
theorem pv (i:Nat) {pos:Pos} (hN:X.N[i]? = some x:=by rfl) (hv:Vis X.env.scope x:=by first | exact Or.inl rfl | exact Or.inr (Or.inl rfl) | exact Or.inr (Or.inr rfl)) (hd:(x == ("__debug__" : Str))=false:=by decide)
  (hcd:(x == ("__classdict__" : Str))=false:=by decide):PE X (.Name x pos) (zIR i):=zGg hN hv hd hcd
end
variable {B:Prop}
theorem zJn {A:Prop} (h:B):if false=true then A else B:=by
 rw [if_neg Bool.false_ne_true]
 exact h
theorem zJ7 {A:Prop} (h:A):if true=true then A else B:=by
 rw [if_pos rfl]
 exact h
def zW (H H':Hp):Prop:=∀ b o,H b=some o->H' b=some o
theorem zW.refl (H:Hp):zW H H:=fun _ _ h=>h
variable {H:Hp}
theorem zW.trans {H1 H2:Hp} (a:zW H H1) (b:zW H1 H2):zW H H2:=fun c o h=>b c o (a c o h)
variable {H':Hp} {l:Addr}
theorem zW.free (e:zW H H') (h:H' l=Option.none):H l=Option.none:=by
 cases q:H l with
 | none=>rfl
 | some o =>
  rw [e l o q] at h
  cases h
variable {xs:List V}
theorem zW.seq (e:zW H H') (h:SqL K H a xs):SqL K H' a xs:=by
 rcases h with (h | ⟨o,h⟩) | h
 ·exact .inl (.inl (e _ _ h))
 ·exact .inl (.inr ⟨o,e _ _ h⟩)
 ·exact .inr h
set_option maxHeartbeats 4000000
abbrev GL:Int:=100000000000000000000000000000000000000000000000000000000000000000000000000000000000000000000000000000000000000000000000000000000000000000000000000000000000000000000000000000000000000000000000000000000
theorem zAy {k:Int} (h1 : -GL < k) (h2:k < GL):Builtin.Int.intBits k<=1000:=by
 unfold Builtin.Int.intBits
 split
 ·exact Nat.zero_le _
 ·have hn:k.natAbs < 100000000000000000000000000000000000000000000000000000000000000000000000000000000000000000000000000000000000000000000000000000000000000000000000000000000000000000000000000000000000000000000000000000000:=by
   unfold GL at h1 h2;omega
  have hp:(100000000000000000000000000000000000000000000000000000000000000000000000000000000000000000000000000000000000000000000000000000000000000000000000000000000000000000000000000000000000000000000000000000000:Nat)<=2 ^ 999:=by decide +kernel
  have:k.natAbs.log2 < 999:=by
   rcases eq_zero_or_pos k.natAbs with h0 | hp'
   ·rw [h0];decide
   ·exact (Nat.log2_lt (Nat.ne_of_gt hp')).mpr (lt_of_lt_of_le hn hp)
  omega
def zAK (i j:Int):Prop:=(-GL < i/\i < GL)/\(-GL < j/\j < GL)
variable {i j:Int}
theorem zAK.ok (h:zAK i j):IntMulOk i j:=PySem.IntMulOk.of_le (zAy h.1.1 h.1.2) (zAy h.2.1 h.2.2) (by decide)
def zGk (i j:Int):Prop:=zFN i j\/zAK i j
def zHf (i j:Int):Prop:=0 < j/\j < GL
def zH6 (i j:Int):Prop:=j≠0 /\ -GL < j/\j < GL
theorem zJy (h1 : -GL < j) (h2:j < GL):Builtin.divisionGoesByPylong i j=false:=by
 refine PyProof.noPylong_of_log2 ?_
 have hn:j.natAbs < 100000000000000000000000000000000000000000000000000000000000000000000000000000000000000000000000000000000000000000000000000000000000000000000000000000000000000000000000000000000000000000000000000000000:=by
  unfold GL at h1 h2;omega
 have hp:(100000000000000000000000000000000000000000000000000000000000000000000000000000000000000000000000000000000000000000000000000000000000000000000000000000000000000000000000000000000000000000000000000000000:Nat)<=2 ^ 999:=by decide +kernel
 have:j.natAbs.log2 < 999:=by
  rcases eq_zero_or_pos j.natAbs with h0 | hp'
  ·rw [h0];decide
  ·exact (Nat.log2_lt (Nat.ne_of_gt hp')).mpr (lt_of_lt_of_le hn hp)
 omega
section
variable {X : Cx} {a b : Expr} {ta tb : TE} {pos : Pos}
theorem qH:OpR X (binaryOp .Mult) (rI zGk fun i j=>.int (i*j)):=opI fun _ _ _ _ _ _ _ hc q=>mul_int q (hc.elim zFN.ok zAK.ok)
theorem qP:OpR X (binaryOp .FloorDiv) (rI zHf fun i j=>.int (i / j)):=opI fun i j _ _ _ _ _ hc q=>by
 have h1:(0:Int) < j:=hc.1
 have h2:=hc.2
 exact floordiv_int (by omega) (by rw [Int.fdiv_eq_ediv_of_nonneg i (by omega)];exact q) (.inl (zJy (by unfold GL;omega) h2))
theorem VN {k:Int} {n1 n2:Nat} {p1 p2:Pos} (hc:zGP i j) (e:i ^ j.toNat=k):PE X (.BinOp (.Constant (.int i) n1 p1) .Pow (.Constant (.int j) n2 p2) pos) (tC (.int k)):=by
 intro pins s σ H Q I h
 refine zM zGw zB zB pins s σ H Q I ⟨i,j,rfl,rfl,hc,?_⟩
 show Q (.int (i ^ j.toNat)) H
 rw [e];exact h
def zIG:V->Value
 | .ty T=>.type T
 | .ref C=>.ref C
 | _=>.none
def zC0 (K:W.Frag):List V->Hp->VK->Prop:=fun xs H Q=>∃ x c t b,xs=[x,c]/\V8 K H x t/\(∃ T,c = .ty T \/ ∃ C,c = .ref C)/\W.kitOne K t (zIG c)=some b/\Q (.bl b) H
theorem xA:yE X (.builtin "isinstance") (zC0 X.K):=by
 intro pins s σ H xs us Q I r h
 obtain ⟨x,c,t,b,rfl,ty,hc,e,q⟩:=h
 obtain ⟨v,w,rfl,rx,rw'⟩:=Wo r
 have:w=zIG c:=by
  obtain ⟨T,rfl | ⟨C,rfl⟩⟩:=hc
  ·exact rw'
  ·exact rw'
 subst this
 exact zAj I rx ty e fun tk=>⟨.bl b,H,I.tok _,rfl,q⟩
theorem qE.getD : ∀ {xs:List V} {us:List Value} (j:Nat) (h:j < us.length),qE xs us->jX (xs.getD j .non) us[j]
 | _,_,j,h,.nil=>absurd h (Nat.not_lt_zero _)
 | _,_,0,_,.cons r _=>r
 | _,_,j+1,h,.cons _ t=>qE.getD j (Nat.lt_of_succ_lt_succ h) t
end
def Has (P:Program) (w:World) (K:W.Frag) (mg:Str->Option Value) (base:Heap) (x:Str) (k:Nat) (ps:List Str) (sp:Sp):Prop:=
 ∃ (f:Addr) (fd:FuncData),xG P w K mg base CX0 k f fd ps sp/\mg x=some (.ref f)/\W.keepIn K (.ref f)=true/\j9 K fd ps []
variable {ps:List Str} {p pos:Pos} {e:Expr} {es:List Expr} {t:TA}
theorem zF {n:Nat} (F:Has X.prog X.w X.K X.mg X.base x k ps sp) (hr:jq n X.A) (hg:Gl X x) (ha:PA X (e::es) t) (hk:k<=n:=by decide)
  (hdb:(x == ("__debug__" : Str))=false:=by decide) (he:starEach (e::es) X.env=(false,eval e X.env)::starEach es X.env:=by rfl) (hpl:(backTo pos (starEach es X.env)).any (·.1)=false:=by rfl) :
  PE X (.Call (.Name x p) (e::es) [] pos) (Vb sp [] E0 t):=by
 obtain ⟨f,fd,G,hm,kp,hb⟩:=F
 exact zEc G (hr.mono hk) hg hm kp hb .nil qj ha hdb he hpl
theorem zI {id:String} {r:List V->Hp->VK->Prop} (hc:yE X (.builtin id) r) (hm:X.mg x=none) (hg:Gl X x) (hv:bootBuiltins x=some (.builtin id)) (ha:PA X (e::es) t) (hn:x ≠ "__name__" := by decide) (hdb:(x == ("__debug__" : Str))=false:=by decide)
  (he:starEach (e::es) X.env=(false,eval e X.env)::starEach es X.env:=by rfl) (hpl:(backTo pos (starEach es X.env)).any (·.1)=false:=by rfl):PE X (.Call (.Name x p) (e::es) [] pos) (tCB r t):=
 zB6 hc hg hm hv ha hn hdb he hpl
theorem jd {p:Addr} (h:H p=none) (o:HO):zW H (upd H p o):=fun b u q=>by rw [ze (za q h)];exact q
variable {o:HO}
theorem zW.at (g:zW H H') {b:Addr} (h:H b=some o):H' b=some o:=g b o h
theorem qm {n:Nat} (h:n<=1000):n<=sizeLine:=Nat.le_of_lt (qr h)
section
variable {σ : St} {H : Hp} {Q : VK} {D : yr} {K : W.Frag}
variable {v:V}
theorem zIw {i:Nat} (e:σ[i]? = some (some v)) (h:Q v H):zIR i σ H Q:=⟨v,e,h⟩
theorem r_c (h:Q v H):tC v σ H Q:=h
variable {ta tb:TE}
theorem zJu {r:R2} (h:ta σ H fun x H1=>tb σ H1 fun y H2=>r x y H2 Q):tOp r ta tb σ H Q:=h
theorem zJz {r:V->Hp->VK->Prop} (h:ta σ H fun x H1=>r x H1 Q):tUn r ta σ H Q:=h
theorem r_I {C:Int->Int->Prop} {g:Int->Int->V} (hc:C i j) (h:Q (g i j) H):rI C g (.int i) (.int j) H Q:=⟨i,j,rfl,rfl,hc,h⟩
theorem zJx {g:Int->Int->V} (h:Q (g i j) H):rI0 g (.int i) (.int j) H Q:=⟨i,j,rfl,rfl,h⟩
theorem r_U {g:Int->V} (h:Q (g i) H):rU g (.int i) H Q:=⟨i,rfl,h⟩
theorem zIg (h:Q (.bl (decide (i=j))) H):rEq (.int i) (.int j) H Q:=⟨rfl,by rw [show decide (V.int i=V.int j)=decide (i=j) by by_cases e:i=j <;> simp [e]];exact h⟩
theorem zId (h:Q (.bl (!decide (i=j))) H):rNe (.int i) (.int j) H Q:=⟨rfl,by rw [show decide (V.int i=V.int j)=decide (i=j) by by_cases e:i=j <;> simp [e]];exact h⟩
theorem WH {y:Str} {b:Bool} (e:decide (x=y)=b) (h:Q (.bl b) H):rEq (.str x) (.str y) H Q:=⟨rfl,by rw [show decide (V.str x=V.str y)=decide (x=y) by by_cases e:x=y <;> simp [e],e];exact h⟩
variable {R:Bool->Hp->Prop}
theorem zFR {t:TE} (h:t σ H fun x H'=>∃ k,x = .bl k/\R k H'):zEG t σ H R:=h
theorem zJ0 {t:TE} (h:t σ H fun x H'=>∃ k,x = .bl k/\R k H'):tB t σ H R:=h
theorem zGa {b:Bool} {R:Bool->Prop} (h:R b) : ∃ k,V.bl b = .bl k/\R k:=⟨b,rfl,h⟩
theorem zIE {t u:TT} (h:t σ H fun c H1=>if c=true then u σ H1 R else R false H1):zI9 t u σ H R:=h
theorem zJ2 {t u:TT} (h:t σ H fun c H1=>if c=true then R true H1 else u σ H1 R):tOr t u σ H R:=h
theorem zH3 {t:TT} (h:t σ H fun c H1=>R (!c) H1):zJc t σ H R:=h
theorem zHD (h:ta σ H fun x H1=>∃ c,x = .bl c/\if c=true then tb σ H1 Q else Q (.bl false) H1):zHi ta tb σ H Q:=h
theorem zIQ (h:ta σ H fun x H1=>∃ c,x = .bl c/\if c=true then Q (.bl true) H1 else tb σ H1 Q):zJB ta tb σ H Q:=h
theorem zGQ (h:ta σ H fun x H1=>∃ c,x = .bl c/\Q (.bl (!c)) H1):zHq ta σ H Q:=h
theorem zIO {t:TT} (h:t σ H fun c H1=>if c=true then ta σ H1 Q else tb σ H1 Q):tIf t ta tb σ H Q:=h
theorem zEA {r r':R2} {tc:TE} (h:ta σ H fun x H1=>tb σ H1 fun y H2=>r x y H2 fun z H3=>∃ k,z = .bl k/\(if k=true then tc σ H3 fun w' H4=>r' y w' H4 Q else Q (.bl false) H3)):zA3 r r' ta tb tc σ H Q:=h
theorem zGq {t u:TS} (h:t { D with nx:=u D } σ H):zJb t u D σ H:=h
theorem zFw (h:D.nx σ H):zG9 D σ H:=h
variable {te:TE}
theorem zHI {g:TG} (h:te σ H fun x H1=>g x σ H1 D.nx):zHx te g D σ H:=h
theorem zHp {i:Nat} {R:St->Hp->Prop} (h:R (σ.set i (some v)) H):zCC i v σ H R:=h
theorem zH8 (h:te σ H D.rt):zJa te D σ H:=h
theorem zGJ (h:te σ H fun _ H1=>D.nx σ H1):zHH te D σ H:=h
theorem zIJ {c:TT} {t u:TS} (h:c σ H fun b H1=>if b=true then t D σ H1 else u D σ H1):zJT c t u D σ H:=h
theorem zGh {R:List V->Hp->Prop} (h:R [] H):zH1 σ H R:=h
theorem zFd {tr:TA} {R:List V->Hp->Prop} (h:ta σ H fun x H1=>tr σ H1 fun xs H2=>R (x::xs) H2):zFr ta tr σ H R:=h
theorem zGl {dvs:List V} {E:XK} (h:t σ H fun vs H1=>sp (vs++dvs) H1 Q E):Vb sp dvs E t σ H Q:=h
theorem zJh {r:List V->Hp->VK->Prop} (h:t σ H fun vs H1=>r vs H1 Q):tCB r t σ H Q:=h
def zI8 (Q:VK) (xs:List V) (H:Hp):Prop:=xs.length<=sizeLine /\ ∀ p,H p=none->Q (.ref p) (upd H p (.tup xs))
def zHy (Q:VK) (xs:List V) (H:Hp):Prop:=xs.length<=sizeLine /\ ∀ p,H p=none->Q (.ref p) (upd H p (.lst xs))
theorem zIT (h:t σ H (zI8 Q)):zJG t σ H Q:=h
theorem zGx (h:t σ H (zHy Q)):zJM t σ H Q:=h
theorem zGf (hz:xs.length<=sizeLine) (h : ∀ p H',zW H H'->H' p=some (.tup xs)->Q (.ref p) H'):zI8 Q xs H:=⟨hz,fun p hp=>h p _ (jd hp _) zS⟩
theorem kG {p:Addr} (h:H p=some (.tup xs)) (e:atI xs i=some v) (q:Q v H):zCD K (.ref p) (.int i) H Q:=⟨p,xs,i,v,rfl,rfl,SqT.of h,e,q⟩
theorem Ko {p:Addr} (h:SqL K H p xs) (e:atI xs i=some v) (q:Q v H):zCM K (.ref p) (.int i) H Q:=⟨p,xs,i,v,rfl,rfl,h,e,q⟩
theorem JZ {x c:V} {t:Value} {b:Bool} (ty:V8 K H x t) (hc : ∃ T,c = .ty T \/ ∃ C,c = .ref C) (e:W.kitOne K t (zIG c)=some b) (q:Q (.bl b) H):zC0 K [x,c] H Q:=⟨x,c,t,b,rfl,ty,hc,e,q⟩
end
def zJf (_ j:Int):Prop:=0 < j
def CNn (_ j:Int):Prop:=0<=j
def CNz (_ j:Int):Prop:=j≠0
theorem qJ:OpR X (binaryOp .Mod) (rI zJf fun i j=>.int (i % j)):=zHK
theorem XM:OpR X (binaryOp .RShift) (rI CNn fun i j=>.int (i / 2 ^ j.toNat)):=zG6
section
variable {σ : St} {H : Hp} {Q : VK} {D : yr} {K : W.Frag}
theorem zIl {i j:Nat} {ta:TA} (h:ta σ H fun vs H1=>∃ v w,vs=[v,w]/\D.nx ((σ.set i (some v)).set j (some w)) H1):zJI i j ta D σ H:=h
theorem zH7 {v w:V} {R:V->V->Prop} (h:R v w) : ∃ v' w',[v,w]=[v',w']/\R v' w':=⟨v,w,rfl,h⟩
variable {tb:TS}
theorem zIr {W:Nat->St->Hp->Prop} {m:Nat} (h:tb { D with nx:=fun σ' H'=>∃ m',m' < m/\W m' σ' H',ct:=fun σ' H'=>∃ m',m' < m/\W m' σ' H',bk:=D.nx } σ H) :
  ∃ N:St->Hp->Prop,(∀ σ' H',N σ' H' -> ∃ m',m' < m/\W m' σ' H')/\tb { D with nx:=N,ct:=N,bk:=D.nx } σ H:=⟨_,fun _ _ h=>h,h⟩
theorem XO {c:TT} (W:Nat->St->Hp->Prop) (h0 : ∃ m,W m σ H) (hs : ∀ m σ H,W m σ H->c σ H fun b H1=>if b=true then ∃ N:St->Hp->Prop,(∀ σ' H',N σ' H' -> ∃ m',m' < m/\W m' σ' H')/\tb { D with nx:=N,ct:=N,bk:=D.nx } σ H1 else D.nx σ H1):zDG c tb D σ H:=⟨W,h0,hs⟩
def zFe (K:PySem.W.Frag) (g:TG) (tb:TS) (D:yr) (σ:St) (x:V) (H:Hp):Prop:=∃ a,x = .ref a/\(∃ xs,SqL K H a xs) /\ ∃ W:Nat->Nat->St->Hp->Prop,(∃ m,W 0 m σ H) /\ ∀ i m σ H,W i m σ H ->
 ((Itl K a).stop i H/\D.nx σ H)\/((Itl K a).go i H /\ ∃ N:St->Hp->Prop,(∀ σ' H',N σ' H' -> ∃ m',m' < m/\W (i+1) m' σ' H') /\ ∀ x H',(Itl K a).yld i H x H'->g x σ H' fun σ2 H2=>tb { D with nx:=N,ct:=N,bk:=D.nx } σ2 H2)
variable {g:TG}
theorem zGY {tl:TE} (h:tl σ H (zFe K g tb D σ)):zEq (zFC K tl) g tb D σ H:=h
theorem JT (hx:SqL K H a xs) (Pv:Nat->St->Hp->Prop) (h0:Pv 0 σ H) (hl : ∀ i σ H,i<=xs.length->Pv i σ H->SqL K H a xs)
  (hs : ∀ i x σ H,xs[i]? = some x->Pv i σ H->g x σ H fun σ2 H2=>tb { D with nx:=Pv (i+1),ct:=Pv (i+1),bk:=D.nx } σ2 H2) (hd : ∀ σ H,Pv xs.length σ H->D.nx σ H):zFe K g tb D σ (.ref a) H:=⟨a,rfl,⟨xs,hx⟩,zCa Pv h0 hl hs hd⟩
def zHY (g:TG) (tb:TS) (D:yr) (σ:St) (vs:List V) (H:Hp):Prop:=∃ j:Int,vs=[.int j] /\ -(2 ^ 62)<=j/\j < 2 ^ 62 /\ ∃ W:Nat->Nat->St->Hp->Prop,(∃ m,W 0 m σ H) /\ ∀ i m σ H,W i m σ H ->
 ((Itr 0 j.toNat).stop i H/\D.nx σ H)\/((Itr 0 j.toNat).go i H /\ ∃ N:St->Hp->Prop,(∀ σ' H',N σ' H' -> ∃ m',m' < m/\W (i+1) m' σ' H') /\ ∀ x H',(Itr 0 j.toNat).yld i H x H'->g x σ H' fun σ2 H2=>tb { D with nx:=N,ct:=N,bk:=D.nx } σ2 H2)
theorem zFk {ta:TA} (h:ta σ H (zHY g tb D σ)):zEq (zE6 ta) g tb D σ H:=h
theorem Xl (h1 : -(2 ^ 62)<=j) (h2:j < 2 ^ 62) (Pv:Nat->St->Hp->Prop) (h0:Pv 0 σ H)
  (hs : ∀ i σ H,i < j.toNat->Pv i σ H->g (.int (0+i)) σ H fun σ2 H2=>tb { D with nx:=Pv (i+1),ct:=Pv (i+1),bk:=D.nx } σ2 H2) (hd : ∀ σ H,Pv j.toNat σ H->D.nx σ H):zHY g tb D σ [.int j] H:=⟨j,rfl,h1,h2,Xo Pv h0 hs hd⟩
variable {R:St->Hp->Prop}
theorem zGK {n:Nat} {t:TGs} (h:H a=some (.tup xs)) (hn:xs.length=n) (k:t xs σ H R):zJE K n t (.ref a) σ H R:=⟨a,xs,rfl,SqT.of h,hn,k⟩
theorem zEu {t:TG} {u:TGs} {v:V} {r:List V} (h:t v σ H fun σ' H'=>u r σ' H' R):zHr t u (v::r) σ H R:=⟨v,r,rfl,h⟩
theorem zFu (h:R σ H):zJV [] σ H R:=⟨rfl,h⟩
end
theorem zIL (hr:jq k A):A.units < cLine:=Nat.lt_of_succ_lt (zIu hr)
variable {Q:VK}
theorem zFx {p:Addr} {a b:V} (h:H p=some (.lst [a,b])) (hi:i=0\/i=1) (q0:i=0->Q a H) (q1:i=1->Q b H):zCM K (.ref p) (.int i) H Q:=by
 rcases hi with rfl | rfl
 ·exact Ko (SqL.of h) rfl (q0 rfl)
 ·exact Ko (SqL.of h) rfl (q1 rfl)
def zJe:List V->Hp->VK->Prop:=fun xs H Q=>∃ i,xs=[.int i]/\Q (.int (if i < 0 then -i else i)) H
def zHP:List V->Hp->VK->Prop:=fun xs H Q=>∃ i j,xs=[.int i,.int j]/\Q (.int (if j > i then j else i)) H
def zHN:List V->Hp->VK->Prop:=fun xs H Q=>∃ i j,xs=[.int i,.int j]/\Q (.int (if j < i then j else i)) H
def zCT (K:W.Frag):List V->Hp->VK->Prop:=fun xs H Q=>∃ p ys,xs=[.ref p]/\(SqL K H p ys\/SqT K H p ys)/\Q (.int ys.length) H
section
variable {X : Cx} {H : Hp} {Q : VK} {K : W.Frag}
theorem x5:yE X (.builtin "abs") zJe:=zCO
theorem x9 (hc:X.calm=true):yE X (.builtin "max") zHP:=zAt hc
theorem xm (hc:X.calm=true):yE X (.builtin "min") zHN:=Wj hc
theorem jg:yE X (.builtin "len") (zCT X.K):=YO
theorem zGu (h : ∀ k:Int,(0<=i/\k=i)\/(i < 0/\k = -i)->Q (.int k) H):zJe [.int i] H Q:=⟨i,rfl,h _ (by split <;> omega)⟩
theorem zDy (h : ∀ k:Int,(i < j/\k=j)\/(j<=i/\k=i)->Q (.int k) H):zHP [.int i,.int j] H Q:=⟨i,j,rfl,h _ (by split <;> omega)⟩
theorem zEy (h : ∀ k:Int,(j < i/\k=j)\/(i<=j/\k=i)->Q (.int k) H):zHN [.int i,.int j] H Q:=⟨i,j,rfl,h _ (by split <;> omega)⟩
theorem zFG {p:Addr} {a b:V} (h:H p=some (.tup [a,b])) (q:Q (.int 2) H):zCT K [.ref p] H Q:=⟨p,[a,b],rfl,.inr (SqT.of h),q⟩
theorem zC7 {p:Addr} {ys:List V} (h:SqL K H p ys) (q:Q (.int ys.length) H):zCT K [.ref p] H Q:=⟨p,ys,rfl,.inl h,q⟩
end
theorem zCh:bootBuiltins "int" = some (.type "int"):=by decide +kernel
theorem Wy:bootBuiltins "bool" = some (.type "bool"):=by decide +kernel
theorem zCL:bootBuiltins "tuple" = some (.type "tuple"):=by decide +kernel
theorem zA1:bootBuiltins "str" = some (.type "str"):=by decide +kernel
theorem ZP:bootBuiltins "list" = some (.type "list"):=by decide +kernel
theorem z8:bootBuiltins "isinstance" = some (.builtin "isinstance"):=by decide +kernel
theorem Jw:bootBuiltins "abs" = some (.builtin "abs"):=by decide +kernel
theorem YX:bootBuiltins "max" = some (.builtin "max"):=by decide +kernel
theorem Xw:bootBuiltins "min" = some (.builtin "min"):=by decide +kernel
theorem z4:bootBuiltins "len" = some (.builtin "len"):=by decide +kernel
def zJi (T T':String):Option Bool:=if (Value.type T == Value.type T')=true then some true else if W.kitMeta T'=true then (fastBuiltinMro T).map (·.contains (Value.type T')) else none
theorem yq (K:W.Frag) (T T':String) {b:Bool} (h:zJi T T'=some b):W.kitOne K (.type T) (.type T')=some b:=h
theorem VS (K:W.Frag):W.kitOne K (.type "int") (.type "int")=some true:=yq K _ _ (by decide +kernel)
theorem Xu (K:W.Frag):W.kitOne K (.type "int") (.type "bool")=some false:=yq K _ _ (by decide +kernel)
theorem YW (K:W.Frag):W.kitOne K (.type "bool") (.type "int")=some true:=yq K _ _ (by decide +kernel)
theorem Qv (K:W.Frag):W.kitOne K (.type "tuple") (.type "tuple")=some true:=yq K _ _ (by decide +kernel)
theorem Yy (K:W.Frag):W.kitOne K (.type "str") (.type "int")=some false:=yq K _ _ (by decide +kernel)
theorem VP (K:W.Frag):W.kitOne K (.type "str") (.type "str")=some true:=yq K _ _ (by decide +kernel)
theorem XF (K:W.Frag):W.kitOne K (.type "list") (.type "list")=some true:=yq K _ _ (by decide +kernel)
theorem Yj (K:W.Frag):W.kitOne K (.type "list") (.type "int")=some false:=yq K _ _ (by decide +kernel)
theorem XL (K:W.Frag):W.kitOne K (.type "tuple") (.type "int")=some false:=yq K _ _ (by decide +kernel)
theorem QA (K:W.Frag):W.kitOne K (.type "NoneType") (.type "int")=some false:=yq K _ _ (by decide +kernel)
theorem Yn (K:W.Frag):W.kitOne K (.type "dict") (.type "int")=some false:=yq K _ _ (by decide +kernel)
section
variable {H : Hp} {Q : VK} {K : W.Frag}
theorem zBm (q:Q (.bl true) H):zC0 K [.int i,.ty "int"] H Q:=JZ (.int i) ⟨_,.inl rfl⟩ (VS K) q
theorem zBx (q:Q (.bl false) H):zC0 K [.int i,.ty "bool"] H Q:=JZ (.int i) ⟨_,.inl rfl⟩ (Xu K) q
theorem zB7 {p:Addr} (h:H p=some (.tup xs)) (q:Q (.bl true) H):zC0 K [.ref p,.ty "tuple"] H Q:=JZ (.tup h) ⟨_,.inl rfl⟩ (Qv K) q
end
variable {c:Prop}
theorem i_d [Decidable c] {A:Prop} (h1:c->A) (h2 : ¬ c->B):if decide c=true then A else B:=by
 by_cases h:c
 ·rw [if_pos (decide_eq_true h)];exact h1 h
 ·rw [if_neg (by rw [decide_eq_false h];decide)];exact h2 h
theorem zJd [Decidable c] {A:Prop} (h1:c->B) (h2 : ¬ c->A):if (!decide c)=true then A else B:=by
 by_cases h:c
 ·rw [decide_eq_true h];exact h1 h
 ·rw [decide_eq_false h];exact h2 h
theorem zKB [Decidable c] {A:Prop} (h:c) (h1:A):if decide c=true then A else B:=i_d (fun _=>h1) (fun n=>absurd h n)
theorem zJp [Decidable c] {A:Prop} (h : ¬ c) (h1:B):if decide c=true then A else B:=i_d (fun n=>absurd n h) (fun _=>h1)
theorem zIo [Decidable c] {A:Prop} (h:c) (h1:B):if (!decide c)=true then A else B:=zJd (fun _=>h1) (fun n=>absurd h n)
theorem i_b {b:Bool} {A:Prop} (h1:b=true->A) (h2:b=false->B):if b=true then A else B:=by
 cases b with
 | true=>rw [if_pos rfl];exact h1 rfl
 | false=>rw [if_neg (by decide)];exact h2 rfl
theorem zJm {A:Prop} (h:B):if (!true)=true then A else B:=h
theorem zJ3 {A:Prop} (h:A):if (!false)=true then A else B:=h
def jY (X:Cx) (scope:Scope) (cl:List (Str × Addr)) (N':List Str) (C:Addr) (s₂:Shared) (H₂:Hp) (fp:List Addr):Cx where
 prog:=X.prog
 w:=X.w
 K:=X.K
 mg:=X.mg
 base:=X.base
 A:=X.A
 N:=N'
 s₀:=s₂
 H₀:=H₂
 env:=compEnvC scope cl C X.env
 outer:=X.stack
 stack:=X.stack
 ex:=fp
 calm:=X.calm
 fn:=fun _=>false
 pn:=[]
 xe:=fun _ _=>False
def zC8 (cells:List (Str × Addr)):List (Str × Addr)->Prop
 | []=>True
 | p::r=>cells.lookup p.1=some p.2/\zC8 cells r
theorem zC8.look {cells:List (Str × Addr)} : ∀ {cl:List (Str × Addr)} {x:Str} {c:Addr},zC8 cells cl->cl.lookup x=some c->cells.lookup x=some c
 | [],_,_,_,h=>by simp at h
 | (y,d)::r,x,c,⟨h1,h2⟩,h=>by
  rw [lookup_cons] at h
  cases e:x == y with
  | true =>
   rw [e] at h
   have e':x=y:=eq_of_beq e
   cases h
   rw [e'];exact h1
  | false =>
   rw [e] at h
   exact zC8.look h2 h
def zBQ (X:Cx) (scope:Scope):List Str->List Nat->Prop
 | [],[]=>True
 | y::r,j::js=>(X.N[j]? = some y/\scope.names.lookup y=some .free/\(X.env.kindOf y=some .cell\/X.env.kindOf y=some .free))/\zBQ X scope r js
 | _,_=>False
theorem zBQ.get {X:Cx} {scope:Scope} : ∀ {fr:List Str} {js:List Nat} {k:Nat} {y:Str},zBQ X scope fr js->fr[k]? = some y -> ∃ j,js[k]? = some j/\X.N[j]? = some y/\scope.names.lookup y=some .free/\(X.env.kindOf y=some .cell\/X.env.kindOf y=some .free)
 | [],_,_,_,_,h=>by simp at h
 | _::_,[],_,_,h,_=>h.elim
 | y::r,j::js,0,z,⟨h1,_⟩,h=>by simp at h;subst h;exact ⟨j,rfl,h1⟩
 | y::r,j::js,k+1,z,⟨_,h2⟩,h=>by
  obtain ⟨j',e,q⟩:=zBQ.get (k:=k) h2 (by simpa using h)
  exact ⟨j',by simpa using e,q⟩
theorem zBQ.len {X:Cx} {scope:Scope} : ∀ {fr:List Str} {js:List Nat},zBQ X scope fr js->fr.length=js.length
 | [],[],_=>rfl
 | [],_::_,h=>h.elim
 | _::_,[],h=>h.elim
 | _::r,_::js,h=>by rw [length_cons,length_cons,zBQ.len h.2]
theorem Zv {env : Env} : ∀ {names : List (Str × NameKind)} {x : Str}, (∀ y ∈ names, y.2 ≠ .cell) ->
    ((names.map fun (n, k) => if (k == NameKind.free && env.scope.kind == .function && env.kindOf n == some .cell) then (n, NameKind.cell) else (n, k)).lookup x = some .cell \/
     (names.map fun (n, k) => if (k == NameKind.free && env.scope.kind == .function && env.kindOf n == some .cell) then (n, NameKind.cell) else (n, k)).lookup x = some .free) -> names.lookup x = some .free
  | [], _, _, h => by simp at h
  | (n, k) :: r, x, hc, h => by
    have ih := @Zv env r x (fun y hy => hc y (List.mem_cons_of_mem _ hy))
    rw [map_cons] at h
    dsimp only at h
    by_cases hb : (k == NameKind.free && env.scope.kind == .function && env.kindOf n == some .cell) = true
    · rw [if_pos hb] at h
      rw [lookup_cons] at h
      rw [lookup_cons]
      cases e : x == n with
      | true =>
        have : k = .free := by simp at hb; exact hb.1.1
        rw [this]
      | false =>
        rw [e] at h
        exact ih h
    · rw [if_neg hb] at h
      rw [lookup_cons] at h
      rw [lookup_cons]
      cases e : x == n with
      | true =>
        rw [e] at h
        have hk : k ≠ .cell := hc (n, k) List.mem_cons_self
        rcases h with h | h
        · exact absurd (Option.some.inj h) hk
        · exact h
      | false =>
        rw [e] at h
        exact ih h
theorem yg {env : Env} (hk : env.scope.kind = .function) {x : Str} : ∀ {names : List (Str × NameKind)}, names.lookup x = some .free -> (env.kindOf x = some .cell \/ env.kindOf x = some .free) ->
    ((names.map fun (n, k) => if (k == NameKind.free && env.scope.kind == .function && env.kindOf n == some .cell) then (n, NameKind.cell) else (n, k)).lookup x = some .cell \/
     (names.map fun (n, k) => if (k == NameKind.free && env.scope.kind == .function && env.kindOf n == some .cell) then (n, NameKind.cell) else (n, k)).lookup x = some .free)
  | [], h, _ => by simp at h
  | (n, k) :: r, h, hx => by
    have ih := @yg env hk x r
    rw [lookup_cons] at h
    rw [map_cons]
    dsimp only
    cases e : x == n with
    | true =>
      rw [e] at h
      have ek : k = .free := Option.some.inj h
      have en : x = n := eq_of_beq e
      subst ek
      rcases hx with hx | hx
      · left
        have hb : ((NameKind.free == NameKind.free) && env.scope.kind == .function && env.kindOf n == some .cell) = true := by rw [<- en, hx, hk]; decide
        rw [if_pos hb, lookup_cons, e]
      · right
        have hb : ¬ ((NameKind.free == NameKind.free) && env.scope.kind == .function && env.kindOf n == some .cell) = true := by rw [<- en, hx, hk]; decide
        rw [if_neg hb, lookup_cons, e]
    | false =>
      rw [e] at h
      rcases ih h hx with q | q
      · left
        split <;> rw [lookup_cons, e] <;> exact q
      · right
        split <;> rw [lookup_cons, e] <;> exact q
section
variable {X : Cx} {pins : List (Addr × Obj)} {σ : St} {H : Hp} {s : Shared}
theorem HOk.track {h:Heap} (x:HOk P w H h) (hn:H a=none) (new:jQ P w (upd H a o) h a o):HOk P w (upd H a o) h:=fun b u e=>by
 by_cases hb:b=a
 ·subst hb;rw [zS] at e;cases e;exact new
 ·rw [ze hb] at e
  exact (x b u e).stay (fun c v _ q=>q) (fun c q=>by rw [ze (za q hn)];exact q) fun c xs q=>by rw [ze (za q hn)];exact q
theorem Inv.track (I:Inv X pins σ H s) (f:Kh X pins H a) (new:jQ X.prog X.w (upd H a o) s.heap a o):Inv X pins σ (upd H a o) s:=by
 obtain ⟨f0,f1,f2,f3,f4,f5⟩:=f
 have up : ∀ b,H b=none->b≠a->upd H a o b=none:=fun b e n=>by rw [ze n];exact e
 have st : ∀ {b u},H b=some u->upd H a o b=some u:=fun {b u} e=>by rw [ze (za e f0)];exact e
 have na : ∀ b ob,X.s₀.heap.get? b=some ob->b ∉ X.ex->b≠a:=fun b ob e hx z=>by
  rcases f3 with q | q
  ·exact hx (z ▸ q)
  ·exact absurd (lt_of_lt_of_le (Heap.lt_size e) (z ▸ q)) (lt_irrefl _)
 refine ⟨I.ok,I.os,I.bare,⟨I.base.keep,I.base.slot,fun b ob e n hx=>up b (I.base.free b ob e n hx) (na b ob e hx),I.base.there,fun b xs e=>st (I.base.tups b xs e),fun b ob u e=>st (I.base.frzs b ob u e),fun b ps e=>?_⟩,I.loc,I.cell,up _ I.free (Ne.symm f1),fun x c e=>up c (I.freeC x c e) (f4 x c e),fun p hp=>?_,I.hok.track f0 new,I.len⟩
 ·obtain ⟨m,q⟩:=I.base.tbls b ps e
  exact ⟨m,st q⟩
 ·obtain ⟨e,n,r⟩:=I.pin p hp
  exact ⟨e,up _ n (f5 p hp),r⟩
end
def zHJ (Y:Cx) (ifs:List Expr) (t:TT):Prop:=
 ∀ (pins:List (Addr × Obj)) (s:Shared) (σ:St) (H:Hp) (R:Bool->Hp->Prop),Inv Y pins σ H s->t σ H R ->
  wpAny (model Y.prog Y.w) Y.A (forIn ifs true fun c r=>if r=true then do let ok <- isTrue c Y.env (eval c Y.env);pure (ForInStep.yield ok) else pure (ForInStep.yield r)) (TP Y pins σ R) Y.xe s
def zHU:TT:=fun _ H R=>R true H
theorem xT {Y:Cx}:zHJ Y [] zHU:=fun _ _ _ H _ I h=>wpAny_tests_nil ⟨H,I,h⟩
theorem y8 {Y:Cx} {c:Expr} {t:TT} (h:PT Y c t):zHJ Y [c] t:=fun pins s σ H R I q=>wpAny_tests_one (h pins s σ H R I q)
def zAJ (is : List Nat) (tt : TT) (te : TE) (σ : St) (Q : VK) (J : It) (H1 : Hp) : Prop := ∃ W : Nat -> Nat -> List V -> Hp -> Prop, (∃ m, W 0 m [] H1) /\ ∀ i m ys H, W i m ys H -> ys.length <= sizeLine /\
  ((J.stop i H /\ ∀ p, H p = none -> Q (.ref p) (upd H p (.lst ys))) \/
   (J.go i H /\ ys.length < sizeLine /\ ∀ x H', J.yld i H x H' -> tt (some x :: is.map fun j => (σ[j]?).getD none) H' fun ok H2 =>
     if ok = true then te (some x :: is.map fun j => (σ[j]?).getD none) H2 fun y H3 => ∃ m', m' < m /\ W (i + 1) m' (ys ++ [y]) H3 else ∃ m', m' < m /\ W (i + 1) m' ys H2))
def WW (is:List Nat) (wi:TI) (tt:TT) (te:TE):TE:=fun σ H Q=>wi σ H fun J H1=>zAJ is tt te σ Q J H1
section
variable {X : Cx} {elt iter : Expr} {ifs : List Expr} {x : Str} {px pos : Pos} {scope : Scope} {cl : List (Str × Addr)} {fr : List Str} {is : List Nat} {wi : TI} {tt : TT} {te : TE}
theorem zAb {pins:List (Addr × Obj)} {σ:St} {H₂:Hp} {s₂:Shared} {C:Addr} {fp:List Addr} {N':List Str} (I:Inv X pins σ H₂ s₂) (hC:s₂.heap.objs.size<=C) (hf : ∀ b ∈ fp,Kh X pins H₂ b) (hfl : ∀ b ∈ fp,b < s₂.heap.objs.size)
  (hcell : ∀ y ∈ scope.names,y.2 ≠ .cell) (hkind:scope.kind = .function) (hcl:zC8 X.env.cells cl) (hfree:(scope.names.all fun p=>p.2 != .free || (cl.lookup p.1).isSome)=true):(jY X scope cl N' C s₂ H₂ fp).Ok where
 mod:=I.mod
 kind:=hkind
 glob:=I.ok.glob
 blt:=I.ok.blt
 above:=hC
 inj:=fun x y c h1 h2=>I.ok.inj x y c (hcl.look h1) (hcl.look h2)
 has:=fun y h=>by
  have h':=Zv (env:=X.env) hcell h
  have hm:(y,NameKind.free) ∈ scope.names:=by
   have aux : ∀ {l:List (Str × NameKind)},l.lookup y=some .free->(y,NameKind.free) ∈ l:=by
    intro l
    induction l with
    | nil=>intro z;simp at z
    | cons p r ih =>
     intro z
     obtain ⟨n,k⟩:=p
     rw [lookup_cons] at z
     cases e:y == n with
     | true=>rw [e] at z;cases z;rw [eq_of_beq e];exact List.mem_cons_self
     | false=>rw [e] at z;exact List.mem_cons_of_mem _ (ih z)
   exact aux h'
  have q:((NameKind.free != NameKind.free) || (cl.lookup y).isSome)=true:=List.all_eq_true.mp hfree _ hm
  have q':(cl.lookup y).isSome=true:=by rw [bne_self_eq_false,Bool.false_or] at q;exact q
  exact Option.isSome_iff_exists.mp q'
 cab:=fun _ _ h _=>by cases h
 hd:=I.ok.hd
 frames:=I.ok.frames
 stk:=.inl rfl
 exf:=fun b hb=>⟨ne_of_lt (lt_of_lt_of_le (hfl b hb) hC),fun y c e=>(hf b hb).2.2.2.2.1 y c (hcl.look e)⟩
 bs:=I.bs
 bsz:=le_trans I.ok.bsz I.sz
 noex:=fun b o e hb=>by
  rcases (hf b hb).2.2.2.1 with q | q
  ·exact I.ok.noex b o e q
  ·exact absurd (lt_of_lt_of_le (Heap.lt_size e) (le_trans I.ok.bsz q)) (lt_irrefl _)
 exfs:=fun b hb z=>by
  rcases List.mem_cons.mp (I.stkSub b z) with q | q
  ·exact (hf b hb).2.1 q
  ·exact (hf b hb).2.2.1 q
 funs:=I.stack
 frf:=I.stkFree
def zAW (X:Cx) (pins:List (Addr × Obj)) (σ:St) (Q:VK) (acc:Value) (C:Addr) (r:Result) (s':Shared):Prop:=match r with
 | .ok _=>∃ (D:Addr) (H':Hp) (m:Str->Option Value),acc = .ref D/\Inv X pins σ H' s'/\s'.heap.Ns C m/\Kh X pins H' C/\Q (.ref D) H'
 | .error _=>False
theorem zIv {M:Model} {E:Value->Shared->Prop} {s:Shared} {it u:Value} {Q1:Unit->Shared->Prop} {α:Type} {t:Sem α} {Q2:α->Shared->Prop} (h:wpAny M A (letOwnedTupleGo (.Name x px) it u) Q1 E s) (k : ∀ s,Q1 () s->wpAny M A t Q2 E s):wpAny M A t Q2 E s:=by
 have z:wpAny M A (letOwnedTupleGo (.Name x px) it u >>= fun _=>t) Q2 E s:=wpAny_bind (thn h fun _ s q=>k s q)
 rw [show letOwnedTupleGo (.Name x px) it u=pure () from rfl,pure_bind] at z
 exact z
theorem X5 {pins:List (Addr × Obj)} {σ:St} {E:Value->Shared->Prop} {s₂:Shared} {H₂:Hp} {it:Addr} {fp:List Addr} {tn:Nat->Heap->Prop} {J:It}
  (hc:X.calm=true) (hcell : ∀ y ∈ scope.names,y.2 ≠ .cell) (hkind:scope.kind = .function) (hx:scope.names.lookup x=some .local) (hcl:zC8 X.env.cells cl)
  (hfree:(scope.names.all fun p=>p.2 != .free || (cl.lookup p.1).isSome)=true) (hfr:zBQ X scope fr is) (hnd:(x::fr).Nodup)
  (ht : ∀ C s₂ H₂ fp,zHJ (jY X scope cl (x::fr) C s₂ H₂ fp) ifs tt) (he : ∀ C s₂ H₂ fp,PE (jY X scope cl (x::fr) C s₂ H₂ fp) elt te)
  (I:Inv X pins σ H₂ s₂) (T:zEN X.prog X.w X.K (.Name x px) J fp it tn) (st:tn 0 s₂.heap) (hf : ∀ b ∈ fp,Kh X pins H₂ b) (R:zAJ is tt te σ Q J H₂) :
  wpAny (model X.prog X.w) X.A (newList []) (fun acc s₃=>wpAny (model X.prog X.w) X.A (newFunctionEnv scope X.env.globals cl [] X.env.qual none .none (some X.env)) (fun cenv s₄ =>
   codeAny (model X.prog X.w) X.A (.compStart (.ListComp elt [⟨.Name x px,iter,ifs,0⟩] scope pos) 0 (.ref it) acc { cenv with scope:=relabel scope X.env }) (zAW X pins σ Q acc cenv.locals) s₄) E s₃) E s₂:=by
 obtain ⟨W,⟨m0,w0⟩,turn⟩:=R
 refine wpAny_newObj_type (wpAny_newFunctionEnv hcell (by intro y hy;simp at hy) (fun h₁ hns₁ hsb₁=>?_) hkind)
 dsimp only at hns₁ hsb₁ ⊢
 generalize hH2:s₂.heap.push { cls:=.type "list", dict:=none,data:=.seq ([]:List Value).toArray }=G2 at hns₁ hsb₁ ⊢
 have hC:G2.objs.size=s₂.heap.objs.size+1:=by rw [<- hH2,Heap.size_push]
 have hDC:s₂.heap.objs.size≠G2.objs.size:=by rw [hC];exact ne_of_lt (Nat.lt_succ_self _)
 have below : ∀ b,b < s₂.heap.objs.size->b≠G2.objs.size/\b≠s₂.heap.objs.size:=fun b hb=>⟨by rw [hC];exact ne_of_lt (Nat.lt_succ_of_lt hb),ne_of_lt hb⟩
 have hfl : ∀ b ∈ fp,b < s₂.heap.objs.size:=fun b hb=>by obtain ⟨o,e,_⟩:=T.obj _ _ st b hb;exact Heap.lt_size e
 have old : ∀ b o,s₂.heap.get? b=some o->h₁.get? b=some o:=fun b o e=>hsb₁.extBut b o (below b (Heap.lt_size e)).1 (Heap.get?_push_of_some _ (hH2 ▸ Heap.get?_push_of_some _ e))
 have hacc:h₁.get? s₂.heap.objs.size=some { cls:=.type "list", data:=.seq ([]:List Value).toArray 0 }:=hsb₁.extBut _ _ hDC (Heap.get?_push_of_some _ (hH2 ▸ Heap.get?_push_size _ rfl))
 have hfresh : ∀ b,s₂.heap.objs.size<=b->H₂ b=none:=fun b hb=>I.hok.fresh hb
 have hCle:s₂.heap.objs.size<=G2.objs.size:=by rw [hC];exact Nat.le_succ _
 generalize hCe:G2.objs.size=C at *
 generalize hDe:s₂.heap.objs.size=D at *
 have ok:(jY X scope cl (x::fr) C s₂ H₂ fp).Ok:=zAb I (by rw [hDe];exact hCle) hf (by rw [hDe];exact hfl) hcell hkind hcl hfree
 have hYc:(jY X scope cl (x::fr) C s₂ H₂ fp).calm=true:=hc
 have hDfp : ∀ b ∈ fp,b≠D:=fun b hb=>ne_of_lt (hfl b hb)
 have hDst:D ∉ frs X.stack:=fun z=>by
  rcases List.mem_cons.mp (I.stkSub D z) with q | q
  ·have:=I.lt;rw [hDe,<- q] at this;exact lt_irrefl _ this
  ·exact I.nofs (by rw [hDe];exact Nat.le_refl _) q
 have hfY : ∀ {H':Hp} {its:List Value} {n:Nat},(∀ b ∈ fp,H' b=none) -> ∀ b ∈ fp,Kh (jY X scope cl (x::fr) C s₂ H₂ fp) [(D,{ cls:=.type "list", data:=.seq its.toArray n })] H' b:=fun hn b hb =>
  ⟨hn b hb,(ok.exf b hb).1,ok.exfs b hb,.inl hb,(ok.exf b hb).2,fun p hp=>by
   have e:p=(D,{ cls:=.type "list", data:=.seq _ _ }):=List.mem_singleton.mp hp
   rw [e];exact Ne.symm (hDfp b hb)⟩
 have lenF:(is.map fun j=>(σ[j]?).getD none).length=fr.length:=by rw [length_map,hfr.len]
 have I0:Inv (jY X scope cl (x::fr) C s₂ H₂ fp) [(D,{ cls:=.type "list", data:=.seq ([]:List Value).toArray 0 })] (none::is.map fun j=>(σ[j]?).getD none) H₂ { s₂ with heap:=h₁,toks:=s₂.toks+([]:List (Str × Value)).length }:=by
  refine ⟨ok,rfl,I.bare,Un.kept old,⟨_,hns₁,fun i y v e1 e2 e3=>?_⟩,fun y c e=>?_,hfresh C hCle,fun y c e=>I.freeC y c (hcl.look e),fun p hp=>?_,I.hok.kept old,?_⟩
  ·cases i with
   | zero=>cases e2
   | succ k =>
    have e1':fr[k]? = some y:=e1
    have e2':(is.map fun j=>(σ[j]?).getD none)[k]? = some (some v):=e2
    obtain ⟨j,hj,hN,hfy,hkx⟩:=hfr.get e1'
    rw [getElem?_map,hj] at e2'
    have e4:(σ[j]?).getD none=some v:=Option.some.inj e2'
    have e5:σ[j]? = some (some v):=by
     cases q:σ[j]? with
     | none=>rw [q] at e4;cases e4
     | some o=>rw [q] at e4;have e4':o=some v:=e4;rw [e4']
    obtain ⟨m,hn,hl⟩:=id I.loc
    have hvis:Vis X.env.scope y:=hkx.elim (fun q=>.inr (.inl q)) fun q=>.inr (.inr q)
    obtain ⟨u,r,lk⟩:=hl j y v hN e5 hvis
    refine ⟨u,r,.inr ⟨yg I.ok.kind hfy hkx,?_⟩⟩
    rcases lk with ⟨kl,_⟩ | ⟨_,c,ec,ic⟩
    ·rcases hkx with q | q <;> rw [kl] at q <;> cases q
    ·obtain ⟨c',ec'⟩:=ok.has y (yg I.ok.kind hfy hkx)
     have:c'=c:=Option.some.inj ((hcl.look ec').symm.trans ec)
     rw [this] at ec'
     obtain ⟨o,ho,hd⟩:=ic
     exact ⟨c,ec',o,old c o ho,hd⟩
  ·obtain ⟨v,o,ho,hd⟩:=I.cell y c (hcl.look e)
   exact ⟨v,o,old c o ho,hd⟩
  ·have e:p=(D,{ cls:=.type "list", data:=.seq ([]:List Value).toArray 0 }):=List.mem_singleton.mp hp
   rw [e]
   exact ⟨hacc,hfresh D (Nat.le_refl _),hDC,hDst,fun v z=>by cases z⟩
  ·show (none::_).length=(x::fr).length
   rw [length_cons,length_cons,lenF]
 have loop : ∀ s₃:Shared,s₃={ s₂ with heap:=h₁,toks:=s₂.toks+([]:List (Str × Value)).length } ->
   codeAny (model X.prog X.w) X.A (.compLoop (.ListComp elt [⟨.Name x px,iter,ifs,0⟩] scope pos) 0 (.ref it) (.ref D) (compEnvC scope cl C X.env)) (zAW X pins σ Q (.ref D) C) s₃:=by
  rintro s₃ rfl
  refine codeAny_compLoop_tests (fun n s'=>∃ (i:Nat) (o:Option V) (ys:List V) (its:List Value) (k:Nat) (H':Hp),Inv (jY X scope cl (x::fr) C s₂ H₂ fp) [(D,{ cls:=.type "list", data:=.seq its.toArray k })] (o::is.map fun j=>(σ[j]?).getD none) H' s' /\
   tn i s'.heap/\(∀ b ∈ fp,H' b=none)/\qE ys its/\W i n ys H') ?_ m0 ⟨0,none,[],[],0,H₂,I0,T.keep _ _ _ st fun b _ o e=>old b o e,fun b hb=>(hf b hb).1,.nil,w0⟩
  rintro n s' ⟨i,o,ys,its,k,H',I',st',fr',vs,w'⟩
  obtain ⟨hlen,⟨stop,fin⟩ | ⟨go,hlt,step⟩⟩:=turn i n ys H' w'
  ·refine wpAny_mono (T.done (jY X scope cl (x::fr) C s₂ H₂ fp) rfl rfl rfl hYc i _ s' _ H' (fun _ _=>False) I' (hfY fr') st' stop) (fun r s1 zq=>?_) fun _ _ z=>z.elim
   obtain ⟨hr,I1⟩:=zq
   subst hr
   obtain ⟨pD,nD,_,_,_⟩:=I1.pin _ (mem_append_right _ (List.mem_singleton.mpr rfl))
   have IX:Inv X pins σ H' s1:=I.call' I1.os I1.base I1.hok I1.bare fun b hb=>⟨(hf b hb).2.2.2.1,(hf b hb).2.1,(hf b hb).2.2.2.2.1,(hf b hb).2.2.2.2.2⟩
   have fD:Kh X pins H' D:=I.fpOk (by rw [hDe];exact Nat.le_refl _) nD
   obtain ⟨m,hn,_⟩:=id I1.loc
   have hC':H' C=none:=I1.free
   refine ⟨D,upd H' D (.lst ys),m,rfl,IX.track fD ⟨hlen,its,k,vs,pD⟩,hn,I.fpOk (by rw [hDe];exact hCle) (by rw [ze (Ne.symm hDC)];exact hC'),fin D nD⟩
  ·refine wpAny_mono (T.item (jY X scope cl (x::fr) C s₂ H₂ fp) rfl rfl rfl hYc i _ s' _ H' (fun _ _=>False) I' (hfY fr') st' go) (fun r s1 zq=>?_) fun _ _ z=>z.elim
   obtain ⟨u,hr,h4⟩:=zq
   subst hr
   refine wpAny_mono (zIv (Q2:=fun _ s6=>_) h4 fun s2 zq=>?_) (fun _ _ q=>q) fun _ _ z=>z.elim
   obtain ⟨v,H5,I5,r5,y5,st5,fr5⟩:=zq
   have I5':=I5.pinned (hfY fr5) (T.obj _ _ st5)
   refine thn (zg (X:=jY X scope cl (x::fr) C s₂ H₂ fp) (i:=0) hnd rfl (.inl (lookup_relabel_local hx)) (.inr (lookup_relabel_local hx)) _ s2 _ H5 v u (fun σ' H'=>σ'=(some v::is.map fun j=>(σ[j]?).getD none)/\H'=H5) I5' r5 ⟨rfl,rfl⟩) fun _ s6 zq=>?_
   obtain ⟨σ6,H6,I6,e6,e7⟩:=zq
   subst e6 e7
   refine wpAny_mono (ht C s₂ H₂ fp _ s6 _ H6 _ I6 (step v H6 y5)) (fun ok7 s7 zq=>?_) fun _ _ z=>z.elim
   obtain ⟨H7,I7,q7⟩:=zq
   have keep : ∀ {σ8:St} {H8:Hp} {s8:Shared},Inv (jY X scope cl (x::fr) C s₂ H₂ fp) ([(D,{ cls:=.type "list", data:=.seq its.toArray k })]++YF fp s2.heap) σ8 H8 s8->tn (i+1) s8.heap /\ ∀ b ∈ fp,H8 b=none:=fun {σ8 H8 s8} I8 =>
    ⟨T.keep _ _ _ st5 fun b hb o e=>(I8.pin (b,o) (mem_append_right _ (mem_append_right _ (y9 hb e)))).1,fun b hb=>by
     obtain ⟨o,e,d⟩:=T.obj _ _ st5 b hb
     exact (I8.pin (b,o) (mem_append_right _ (mem_append_right _ (y9 hb e)))).2.1⟩
   cases ok7 with
   | false =>
    obtain ⟨m',hm',w7⟩:=q7
    exact ⟨m',hm',i+1,_,ys,its,k,H7,I7.unpinned,(keep I7).1,(keep I7).2,vs,w7⟩
   | true =>
    refine wpAny_mono (he C s₂ H₂ fp _ s7 _ H7 _ I7 q7) (fun yv s8 zq=>?_) fun _ _ z=>z.elim
    obtain ⟨y,H8,I8,r8,m',hm',w8⟩:=zq
    obtain ⟨pD,nD,neD,nfD,ncD⟩:=I8.pin (D,{ cls:=.type "list", data:=.seq its.toArray k }) (mem_append_right _ (mem_append_left _ (List.mem_singleton.mpr rfl)))
    have hl:=vs.length
    refine append_at (hsz:=by rw [List.size_toArray,<- hl];exact hlen) pD fun h9 sb9 hD9=>?_
    obtain ⟨st8,fr8⟩:=keep I8
    have I8':Inv (jY X scope cl (x::fr) C s₂ H₂ fp) [] (some v::is.map fun j=>(σ[j]?).getD none) H8 s8:=I8.pins_of fun p hp=>nomatch hp
    have I9:Inv (jY X scope cl (x::fr) C s₂ H₂ fp) [] (some v::is.map fun j=>(σ[j]?).getD none) H8 { s8 with heap:=h9 }:=
     I8'.turned (t':=s8.toks) (fun b o hb e=>(sb9.2 b hb).trans e) nD neD (.inr (by rw [<- hDe];exact Nat.le_refl _)) (fun y' c e z=>by
      obtain ⟨v',o',ho',hd'⟩:=I8'.cell y' c e
      rw [z,pD] at ho';cases ho';cases hd') (fun p hp=>nomatch hp)
    refine ⟨m',hm',i+1,_,ys++[y],its++[yv],k+1,H8,I9.pins_of fun p hp=>?_,T.keep _ _ _ st8 fun b hb o e=>(sb9.2 b (hDfp b hb)).trans e,fr8,vs.append (.cons r8 .nil),w8⟩
    rw [List.mem_singleton.mp hp]
    refine ⟨?_,nD,neD,nfD,fun v z=>by cases z⟩
    rw [<- List.push_toArray]
    exact hD9
 exact codeAny_compStart_list (loop _ rfl) (T.self _ 0 _ _ _ (T.keep _ _ _ st fun b _ o e=>old b o e) (loop _ rfl))
theorem ju (hc:X.calm=true) (hclos:closureFor scope X.env=pure cl) (hcl:zC8 X.env.cells cl) (hfree:(scope.names.all fun p=>p.2 != .free || (cl.lookup p.1).isSome)=true) (hfr:zBQ X scope fr is) (hnd:(x::fr).Nodup)
  (hcell : ∀ y ∈ scope.names,y.2 ≠ .cell) (hkind:scope.kind = .function) (hnames : ∀ y ∈ scope.names,y.2 = .local->scope.names.lookup y.1=some .local) (hx:scope.names.lookup x=some .local)
  (hi:PI X (.Name x px) iter wi) (ht : ∀ C s₂ H₂ fp,zHJ (jY X scope cl (x::fr) C s₂ H₂ fp) ifs tt) (he : ∀ C s₂ H₂ fp,PE (jY X scope cl (x::fr) C s₂ H₂ fp) elt te) (hs : ∀ x,foldedSetIterable iter X.env x=pure x:=by intro _;rfl) :
  PE X (.ListComp elt [⟨.Name x px,iter,ifs,0⟩] scope pos) (WW is wi tt te):=by
 intro pins s σ H Q I h
 rw [eval_ListComp]
 refine wpAny_comprehension_free (use:=none) rfl hs hclos hkind hnames (thn (hi pins s σ H _ I h) fun v s1 h1=>thn h1 fun itv s2 h2=>?_)
 obtain ⟨it,fp,tn,J,H2,e,I2,T,st2,f2,R⟩:=h2
 subst e
 refine thn (X5 hc hcell hkind hx hcl hfree hfr hnd ht he I2 T st2 f2 R) fun acc s3 h3=>thn h3 fun cenv s4 h4=>codeAny_mono h4 fun r s' q=>?_
 cases r with
 | error e=>exact q.elim
 | ok f =>
  obtain ⟨D,H',m,rfl,I',hn,fC,q⟩:=q
  obtain ⟨f0,f1,_,f3,f4,f5⟩:=fC
  exact ⟨m,hn,fun h' sb=>⟨.ref D,H',I'.turned (t':=s'.toks) (fun b o hb e=>(sb.2 b hb).trans e) f0 f1 f3 f4 f5,rfl,q⟩⟩
theorem Jj {i:Nat} {y:Str} {py spos:Pos} (hN:X.N.Nodup) (hiy:X.N[i]? = some y) (hy:Loc X.env.scope y) (hsw:swapsWith (.ListComp elt [⟨.Name x px,iter,ifs,0⟩] scope pos) (some (.Name y py)) spos.line X.env=pure true)
  (hc:X.calm=true) (hclos:closureFor scope X.env=pure cl) (hcl:zC8 X.env.cells cl) (hfree:(scope.names.all fun p=>p.2 != .free || (cl.lookup p.1).isSome)=true) (hfr:zBQ X scope fr is) (hnd:(x::fr).Nodup)
  (hcell : ∀ y ∈ scope.names,y.2 ≠ .cell) (hkind:scope.kind = .function) (hnames : ∀ y ∈ scope.names,y.2 = .local->scope.names.lookup y.1=some .local) (hx:scope.names.lookup x=some .local)
  (hi:PI X (.Name x px) iter wi) (ht : ∀ C s₂ H₂ fp,zHJ (jY X scope cl (x::fr) C s₂ H₂ fp) ifs tt) (he : ∀ C s₂ H₂ fp,PE (jY X scope cl (x::fr) C s₂ H₂ fp) elt te) (hs : ∀ x,foldedSetIterable iter X.env x=pure x:=by intro _;rfl)
  (hf:X.fn y=true\/X.env.scope.names.lookup y=some .local:=by first | exact .inl rfl | exact .inr rfl | assumption) :
  PS X (.Assign [.Name y py] (.ListComp elt [⟨.Name x px,iter,ifs,0⟩] scope pos) spos) (zHx (WW is wi tt te) (zCC i)):=by
 intro pins s σ H D0 I h
 rw [exec_Assign_Name_used _ _ _ _ hsw]
 refine wpAny_bind (wpAny_standAt (wpAny_bind ?_))
 show wpAny _ X.A (do let _ <- comprehension (.ListComp elt [⟨.Name x px,iter,ifs,0⟩] scope pos) scope X.env _ (newList []) false (eval iter X.env) (some (assign (.Name y py) X.env))) _ _ s
 refine wpAny_bind (wpAny_mono (wpAny_comprehension_free (use:=some (assign (.Name y py) X.env)) (Q:=fun _ s'=>SP X pins D0 .next s') rfl hs hclos hkind hnames
  (thn (hi pins s σ H _ I h) fun v s1 h1=>thn h1 fun itv s2 h2=>?_)) (fun _ s' hq=>wpAny_pure (wpAny_pure hq)) fun _ _ e=>e)
 obtain ⟨it,fp,tn,J,H2,e,I2,T,st2,f2,R⟩:=h2
 subst e
 refine thn (X5 hc hcell hkind hx hcl hfree hfr hnd ht he I2 T st2 f2 R) fun acc s3 h3=>thn h3 fun cenv s4 h4=>codeAny_mono h4 fun r s' q=>?_
 cases r with
 | error e=>exact q.elim
 | ok f =>
  obtain ⟨D,H',m,rfl,I',hn,fC,q⟩:=q
  obtain ⟨f0,f1,_,f3,f4,f5⟩:=fC
  show wpAny _ _ (assign (.Name y py) X.env (.ref D)) _ _ _
  refine wpAny_assign_Name (JF I' hN hiy hy (v:=.ref D) rfl (fun s'' I'' zq=>?_) hf)
  obtain ⟨a,sb,ha⟩:=zq
  have hCa:cenv.locals≠a:=by
   rcases ha with rfl | ha
   ·exact f1
   ·exact Ne.symm (f4 y a ha)
  refine ⟨m,hn.sameBut sb hCa,fun h' sb'=>⟨_,H',I''.turned (t':=s''.toks) (fun b o hb e=>(sb'.2 b hb).trans e) f0 f1 f3 f4 f5,q⟩⟩
end
section
variable {K : W.Frag} {σ : St} {H : Hp} {Q : VK} {is : List Nat} {tt : TT} {te : TE}
def zCy (K:W.Frag) (is:List Nat) (tt:TT) (te:TE) (σ:St) (Q:VK) (x:V) (H:Hp):Prop:=∃ a,x = .ref a/\(∃ xs,SqL K H a xs)/\zAJ is tt te σ Q (Itl K a) H
theorem zD3 {tl:TE} (h:tl σ H (zCy K is tt te σ Q)):WW is (zFC K tl) tt te σ H Q:=h
def NxC (n:Nat) (Pv:Nat->List V->Hp->Prop) (i:Nat) (ys:List V) (H:Hp):Prop:=∃ m',m' < n - i/\m'=n - (i+1)/\i+1<=n/\Pv (i+1) ys H
theorem nxC {n:Nat} {Pv:Nat->List V->Hp->Prop} {i:Nat} {ys:List V} (h:i < n) (p:Pv (i+1) ys H):NxC n Pv i ys H:=⟨_,by omega,rfl,h,p⟩
theorem zG8 {s:St} {R:Bool->Hp->Prop} (h:R true H):zHU s H R:=h
def zDD (is:List Nat) (tt:TT) (te:TE) (σ:St) (Q:VK) (vs:List V) (H:Hp):Prop:=∃ j:Int,vs=[.int j] /\ -(2 ^ 62)<=j/\j < 2 ^ 62/\zAJ is tt te σ Q (Itr 0 j.toNat) H
theorem zEh {ta:TA} (h:ta σ H (zDD is tt te σ Q)):WW is (zE6 ta) tt te σ H Q:=h
end
section
variable {K : W.Frag} {σ : St} {H : Hp} {Q : VK}
theorem zDx {r:V->Option Int->Option Int->Hp->VK->Prop} {te:TE} {tl th:TO} (h:te σ H fun x H1=>tl σ H1 fun l H2=>th σ H2 fun u H3=>r x l u H3 Q):tSl r te tl th σ H Q:=h
theorem zBn {R:Option Int->Hp->Prop} (h:R none H):zAh σ H R:=h
theorem zHB {t:TE} {R:Option Int->Hp->Prop} (h:t σ H fun x H1=>∃ i,x = .int i/\R (some i) H1):zHX t σ H R:=h
theorem zEI {R:Int->Prop} (h:R i) : ∃ k,V.int i = .int k/\R k:=⟨i,rfl,h⟩
theorem zIx {lo hi:Option Int} (h:SqL K H a xs) (q : ∀ p H',zW H H'->H' p=some (.lst (zBA xs lo hi))->Q (.ref p) H'):zHL K (.ref a) lo hi H Q:=⟨a,xs,rfl,h,fun p hp=>q p _ (jd hp _) zS⟩
theorem zG3 {b:Addr} {zs:List V} (h1:H l=some (.lst xs)) (h2:H b=some (.lst zs)) (hz:xs.length+zs.length<=sizeLine) (q : ∀ p H',zW H H'->H' p=some (.lst (xs++zs))->Q (.ref p) H'):zIi (.ref l) (.ref b) H Q:=
 ⟨l,b,xs,zs,rfl,rfl,h1,h2,hz,fun p hp=>q p _ (jd hp _) zS⟩
end
section
variable {X : Cx}
theorem Zh : ∀ {us:List Value} {ns:List Int},IntsAre us ns->qE (ns.map V.int) us
 | _,_,.nil=>.nil
 | _,_,.cons n t h=>.cons ⟨t,rfl⟩ (Zh h)
def zAo (K:W.Frag):List V->Hp->VK->Prop:=fun xs H Q=>∃ (p:Addr) (ns:List Int),xs=[.ref p]/\SqL K H p (ns.map V.int)/\ns.length < 64 /\
 ∀ (ms:List Int) (q:Addr) (H':Hp),ms.Perm ns->ms.Pairwise (· <= ·)->zW H H'->H' q=some (.lst (ms.map V.int))->Q (.ref q) H'
theorem Y7:yE X (.builtin "sorted") (zAo X.K):=by
 intro pins s σ H xs us Q I r h
 obtain ⟨p,ns,rfl,hq,h64,q⟩:=h
 obtain ⟨u,rfl,rx⟩:=KO r
 cases rx
 obtain ⟨its,r',pl,hz⟩:=I.list hq
 have hl:=r'.length
 rw [length_map] at hl hz
 refine sorted_ints pl.isList (Kj r') (by omega) fun out ms hi hp hs=>?_
 obtain ⟨e,he⟩:=sortedAll_at s.heap its out
 have hms:ms.length=ns.length:=hp.length_eq
 have hf:H (s.heap.objs.size+1)=none:=I.hok.fresh (Nat.le_succ _)
 refine ⟨.ref (s.heap.objs.size+1),upd H (s.heap.objs.size+1) (.lst (ms.map V.int)),I.laid (t':=s.toks) (fun _ _=>sortedAll_old) (Nat.le_succ _) ⟨by rw [length_map,hms];exact hz,out.toList,e,Zh hi,?_⟩,rfl,q _ _ _ hp hs (jd hf _) zS⟩
 rw [he,Array.toArray_toList]
theorem zBV {p:Addr} {ns:List Int} (h:SqL K H p (ns.map V.int)) (h64:ns.length < 64) (q : ∀ (ms:List Int) (q:Addr) (H':Hp),ms.Perm ns->ms.Pairwise (· <= ·)->zW H H'->H' q=some (.lst (ms.map V.int))->Q (.ref q) H'):zAo K [.ref p] H Q:=⟨p,ns,rfl,h,h64,q⟩
theorem Ys:bootBuiltins "sorted" = some (.builtin "sorted"):=by decide +kernel
end
set_option maxHeartbeats 400000
abbrev VEB:List Value:=[.type "ValueError", .type "Exception", .type "BaseException", .type "object"]
structure Exc (K:W.Frag) (C:Addr):Prop where
 ex:W.excIn K C VEB "ValueError.__new__" = true
 h1:W.findIn K (.ref C) "__getattribute__" = some (some (.builtin "BaseException.__getattribute__"))
 h2:W.findIn K (.ref C) "__getattr__" = some none
 hb:W.mroIn K C (.type "BaseException")=some true
 hd:W.hasDictIn K C=true
 ha:W.findIn K (.ref C) "__class__" = some (some (.builtin "object.__class__"))
 hn:W.specialIn K (.builtin "object.__class__") "__get__" = some (some (.builtin "getset_descriptor.__get__"))
 ht:W.takesIn K (.builtin "object.__class__")=some true
 hm:W.mroIn K C (.type "object")=some true
def zAm (x C:Addr) (h:Heap):Prop:=∃ o,h.get? x=some o/\o.cls = .ref C /\ ∃ vs,o.data = .fields vs
variable {C:Addr} {h h':Heap}
theorem zAm.keep {x:Addr} (e:zAm x C h) (k : ∀ o,h.get? x=some o->h'.get? x=some o):zAm x C h':=let ⟨o,a,b⟩:=e;⟨o,k o a,b⟩
section
open PySem.W PySem.Calls Builtin Builtin.ObjectAttr Builtin.Getset_descriptor
variable {K : Frag} {x C : Addr} {M : Model} {h : Heap}
theorem zAm.ty (e:zAm x C h):Looks M h (typeOf (.ref x)) (.ref C):=by
 obtain ⟨o,h1,h2,_⟩:=e
 rw [<- h2]
 exact (Looks.ld h1).andThen .now
variable {prog : Program} {w : World} {A : Around} {E : Value -> Shared -> Prop} {s : Shared}
end
def CXE (P:Program) (w:World):CXT:=fun outer H s E e s'=>∃ (x C:Addr) (a0:Value) (H':Hp) (B:Heap),e = .ref x/\s'.os=s.os/\AllBare s'.gens/\Heap.FlyingW B outer x (.ref C) a0 s'.heap /\
 (∀ h',B.StaysIn h'->s'.heap.UpToSlots h'->Un (frs outer) [] H H' s.heap h'/\HOk P w H' h')/\s.heap.get? x=none/\H' x=none/\E (.ref C) none H'
theorem jQ.is (x:jQ P w H h a o) : ∃ ob,h.get? a=some ob:=by
 cases o with
 | lst xs=>obtain ⟨_,_,_,_,e⟩:=x;exact ⟨_,e⟩
 | tup xs=>obtain ⟨_,_,_,ob,e,_⟩:=x;exact ⟨_,e⟩
 | dK kvs=>obtain ⟨_,_,_,_,ob,_,_,e,_⟩:=x;exact ⟨_,e⟩
 | dT kvs=>obtain ⟨_,_,_,_,ob,_,_,e,_⟩:=x;exact ⟨_,e⟩
 | set S n=>first | (obtain ⟨ob,e,_⟩:=x;exact ⟨_,e⟩) | (obtain ⟨ob,es,e,_⟩:=x;exact ⟨_,e⟩) | (obtain ⟨ob,es,ep,e,_⟩:=x;exact ⟨_,e⟩) | (obtain ⟨ob,es,ep,z,e,_⟩:=x;exact ⟨_,e⟩)
 | ins C dx fs=>obtain ⟨_,_,_,e,_⟩:=x;exact ⟨_,e⟩
 | own y=>exact x
 | xd fs=>obtain ⟨_,⟨ob,_,_,e,_⟩,_⟩:=x;exact ⟨_,e⟩
 | met f y=>exact ⟨_,x⟩
 | rng lo hi=>obtain ⟨_,_,_,e⟩:=x;exact ⟨_,e⟩
 | frz o u=>exact ⟨_,x.1⟩
 | tbl ps=>exact ⟨_,x⟩
 | ext φ=>exact x.2.1
section
variable {P : Program} {w : World} {K : W.Frag} {mg : Str -> Option Value} {base : Heap} {N : List Str} {qual : Str} {scope : Scope} {f : Addr} {cd : Value} {A : Around} {outer : List Env} {s : Shared} {H : Hp} {E : XK}
theorem JK {pins:List (Addr × Obj)} {σ:St} {H1:Hp} {s1:Shared} {x:Addr} {args:List Value}
  (I:Inv (yd (CXE P w) P w K mg base N qual scope f cd A outer s H E) pins σ H1 s1) (hm:Heap.MadeExcOf s1.heap h' x (.ref C) args) (q:E (.ref C) none H1) :
  (yd (CXE P w) P w K mg base N qual scope f cd A outer s H E).xe (.ref x) { s1 with heap:=h' }:=by
 have hst : ∀ b ∈ frs (envOfC qual scope s.heap.objs.size f cd::outer),H1 b=none:=I.stkFree
 have hin : ∀ env ∈ (envOfC qual scope s.heap.objs.size f cd::outer),∀ b,env.frame=some b->b ∈ frs (envOfC qual scope s.heap.objs.size f cd::outer):=fun env he b hb=>List.mem_filterMap.mpr ⟨env,he,hb⟩
 have FF:s1.heap.FunFrames base (envOfC qual scope s.heap.objs.size f cd::outer):=I.stack
 have old : ∀ b o,s.heap.get? b=some o->b≠s.heap.objs.size:=fun b o e=>ne_of_lt (Heap.lt_size e)
 have sub : ∀ b,b ∈ frs (envOfC qual scope s.heap.objs.size f cd::outer)->b=s.heap.objs.size\/b ∈ frs outer:=fun b hb=>List.mem_cons.mp (I.stkSub b hb)
 refine wpAny_leaves_madeW (base:=W.hideAll s1.heap (frs (envOfC qual scope s.heap.objs.size f cd::outer))) I.ok.frames rfl (fun b o e=>W.of_hideAll _ e) (W.funFrames_hide FF hin) hm fun h2 t f1 f2 f3 f4=>?_
 refine ⟨x,C,.ref t,H1,_,rfl,I.os,I.bare,f1,fun h3 st sm=>?_,?_,?_,q⟩
 ·have here : ∀ b o,s1.heap.get? b=some o->b ∉ frs (envOfC qual scope s.heap.objs.size f cd::outer)->h3.get? b=some o:=fun b o e n=>st b o (W.hideAll_get _ e n)
  have fram : ∀ b o,s1.heap.get? b=some o->b ∈ frs (envOfC qual scope s.heap.objs.size f cd::outer) -> ∃ sl,h3.get? b=some { o with slots:=sl }:=fun b o e m=>by
   obtain ⟨_,o',e',nf⟩:=FF.mem m
   have z:o'=o:=Option.some.inj (e'.symm.trans e)
   subst z
   obtain ⟨sl,e2⟩:=f4 b o' (hm.keeps b o' e) nf
   obtain ⟨sl',e3⟩:=sm b _ e2 nf
   exact ⟨sl',e3⟩
  refine ⟨⟨fun b o e n hb hx=>?_,fun b o e n hb hx=>?_,fun b o e n hx=>I.base.free b o e n hx,fun b o e hx=>?_,I.base.tups,I.base.frzs,I.base.tbls⟩,fun a u e=>?_⟩
  ·exact here b o (I.base.keep b o e n hb hx) fun z=>(sub b z).elim (old b o e) hb
  ·obtain ⟨sl,e1⟩:=I.base.slot b o e n hb hx
   have mem:b ∈ frs (envOfC qual scope s.heap.objs.size f cd::outer):=by
    show b ∈ List.filterMap _ _
    rw [List.filterMap_cons]
    exact List.mem_cons_of_mem _ hb
   obtain ⟨sl',e2⟩:=fram b _ e1 mem
   exact ⟨sl',e2⟩
  ·obtain ⟨o',e1⟩:=I.base.there b o e hx
   by_cases mem:b ∈ frs (envOfC qual scope s.heap.objs.size f cd::outer)
   ·obtain ⟨sl,e2⟩:=fram b o' e1 mem
    exact ⟨_,e2⟩
   ·exact ⟨o',here b o' e1 mem⟩
  ·refine (I.hok a u e).stay (fun b ob hb eb=>here b ob eb fun z=>?_) (fun _ z=>z) (fun _ _ z=>z)
   have:=hst b z
   rcases hb with rfl | hb
   ·rw [e] at this;cases this
   ·rw [hb] at this;cases this
 ·cases z:s.heap.get? x with
  | none=>rfl
  | some o =>
   obtain ⟨o',e1⟩:=I.base.there x o z (fun h=>nomatch h)
   have:=hm.new
   rw [e1] at this;cases this
 ·cases z:H1 x with
  | none=>rfl
  | some o =>
   obtain ⟨ob,e1⟩:=(I.hok x o z).is
   have:=hm.new
   rw [e1] at this;cases this
end
theorem zAg (X:K.In h) (c:Exc K C) : ∃ tl N nm q bs hdct sn sub ab col dd k0 k1 k2 k3 k5 mN,
  h.get? C=some (excClassObj nm q C N bs tl hdct sn sub ab col dd k0 k1 k2 k3 k5 "ValueError.__new__")/\h.Ns N mN/\mN "__init__" = none/\OwnTail h VEB tl:=by
 refine Classical.byContradiction fun ng=>?_
 have q:=c.ex
 clear c
 unfold W.excIn at q
 generalize ho:K.lookup C=o at q
 rcases o with _ | ⟨ty,dd,da,sl⟩
 ·cases q
 cases ty <;> first | (exact absurd q Bool.false_ne_true) | skip
 rename_i tn
 by_cases ht:tn = "type"
 ·subst ht
  cases da <;> first | (exact absurd q Bool.false_ne_true) | skip
  rename_i cd
  obtain ⟨nm,bs,mro,ns,qn,hdc,sn,sub,ab,col,del⟩:=cd
  cases sl with | mk l =>
  rcases mro with _ | ⟨m,bm⟩
  ·exact absurd q Bool.false_ne_true
  cases m <;> first | (exact absurd q Bool.false_ne_true) | skip
  rcases l with _ | ⟨k0,_ | ⟨k1,_ | ⟨k2,_ | ⟨k3,_ | ⟨_ | k4,l⟩⟩⟩⟩⟩ <;> first | (exact absurd q Bool.false_ne_true) | skip
  cases k4 <;> first | (exact absurd q Bool.false_ne_true) | skip
  rcases l with _ | ⟨k5,_ | ⟨k6,l⟩⟩ <;> first | (exact absurd q Bool.false_ne_true) | skip
  have q:(_ && _)=true:=q
  simp only [Bool.and_eq_true,beq_iff_eq,Bool.not_eq_true'] at q
  obtain ⟨⟨⟨⟨⟨z1,z2⟩,hdel⟩,ht⟩,hok⟩,hni⟩:=q
  subst z1 z2 hdel
  exact ng ⟨bm,ns,nm,qn,bs,hdc,sn,sub,ab,col,dd,k0,k1,k2,k3,k5,h.nsMap ns,X _ _ ho,.of_isNs (W.isNs_of_in X hok),W.nsMap_none_of_in X hok hni,W.tail_of_in X ht⟩
 ·unfold W.excIn.match_6 W.nsOkIn._sparseCasesOn_4 W.excIn._sparseCasesOn_6 at q
  dsimp only at q
  rw [dif_neg ht] at q
  cases q
def WM (X:Cx) (E:XK):Prop:=∀ (pins:List (Addr × Obj)) (σ:St) (H:Hp) (s:Shared) (h':Heap) (x C:Addr) (args:List Value),Inv X pins σ H s->Heap.MadeExcOf s.heap h' x (.ref C) args->E (.ref C) none H->X.xe (.ref x) { s with heap:=h' }
def zDM (C:Addr) (E:XK) (t:TA):TS:=fun _ σ H=>t σ H fun vs H1=>vs.length<=sizeLine/\E (.ref C) none H1
variable {E:XK}
theorem yN {np cpos:Pos} (tk:WM X E) (hc:X.calm=true) (c:Exc X.K C) (hg:Gl X x) (hm:X.mg x=some (.ref C)) (ha:PA X (e::es) t)
  (hdb:(x == ("__debug__" : Str))=false:=by decide) (he:starEach (e::es) X.env=(false,eval e X.env)::starEach es X.env:=by rfl) (hpl:(backTo cpos (starEach es X.env)).any (·.1)=false:=by rfl) :
  PS X (.Raise (some (.Call (.Name x np) (e::es) [] cpos)) none pos) (zDM C E t):=by
 intro pins s σ H D I h
 obtain ⟨tl,N,nm,q,bs,hdct,sn,sub,ab,col,dd,k0,k1,k2,k3,k5,mN,hC,hN,hni,T⟩:=zAg I.ok.mod.kin c
 refine wpAny_Raise_call_subT (C:=C) (bm:=tl) (mN:=mN) (N:=N) (nm:=nm) (q:=q) (bs:=bs) (hdct:=hdct) (sn:=sn) (sub:=sub) (ab:=ab) (col:=col) (dd:=dd) (k0:=k0) (k1:=k1) (k2:=k2) (k3:=k3) (k5:=k5) PySem.F.excBase_ValueError (T.hasType PySem.F.excBase_ValueError.hasBase) (I.ok.hd hc) (by rw [he];show (false || (backTo cpos (starEach es X.env)).any (·.1))=false;rw [hpl];rfl) hni (qZ I hg hm ⟨rfl,?_⟩ hdb)
 have z:=ha cpos pins s σ H _ I h
 rw [he] at z ⊢
 refine Calls.evalArgs_plain (thn z fun us s1 zq=>?_)
 obtain ⟨vs,H1,I1,r,hl,qe⟩:=zq
 have hv:us.length<=sizeLine:=by rw [<- r.length];exact hl
 exact ⟨rfl,hv,I1.bk _ _ hC,hN.keeps I1.bk,T.keeps I1.bk,fun h' y hm'=>tk pins σ H1 s1 h' y C us I1 hm' qe⟩
def zFT (P:Program) (w:World) (K:W.Frag) (mg:Str->Option Value) (base:Heap) (x:Str) (k:Nat) (ps:List Str) (sp:Sp):Prop:=
 ∃ (f:Addr) (fd:FuncData),xG P w K mg base (CXE P w) k f fd ps sp/\mg x=some (.ref f)/\W.keepIn K (.ref f)=true/\j9 K fd ps []
def XP (X:Cx) (pins:List (Addr × Obj)) (σ:St) (E:XK) (e:Value) (s':Shared):Prop:=∃ H1 s1,Inv X pins σ H1 s1/\CXE X.prog X.w X.stack H1 s1 E e s'
def Cx.inExc (X:Cx) (x:Addr):Cx:={ X with A:=X.A.mark (some (.ref x)),calm:=false,xe:=fun _ _=>False }
section
variable {X : Cx} {pins : List (Addr × Obj)} {σ : St} {H : Hp} {s : Shared}
theorem Cx.Ok.inExc (ok:X.Ok) (x:Addr):(X.inExc x).Ok:=
 ⟨ok.mod,ok.kind,ok.glob,ok.blt,ok.above,ok.inj,ok.has,ok.cab,(fun z=>nomatch z),ok.frames,ok.stk,ok.exf,ok.bs,ok.bsz,ok.noex,ok.exfs,ok.funs,ok.frf⟩
theorem Inv.inExc (I:Inv X pins σ H s) (x:Addr):Inv (X.inExc x) pins σ H s:=⟨I.ok.inExc x,I.os,I.bare,I.base,I.loc,I.cell,I.free,I.freeC,I.pin,I.hok,I.len⟩
theorem Inv.outExc {x:Addr} (ok:X.Ok) (I:Inv (X.inExc x) pins σ H s):Inv X pins σ H s:=⟨ok,I.os,I.bare,I.base,I.loc,I.cell,I.free,I.freeC,I.pin,I.hok,I.len⟩
theorem Inv.track2 (I:Inv X pins σ H s) (f0:H a=none) (f1:a≠X.env.locals) (f3 : ∀ ob,X.s₀.heap.get? a≠some ob) (f4 : ∀ x c,X.env.cells.lookup x=some c->c≠a) (f5 : ∀ p ∈ X.pn++pins,p.1≠a)
  (new:jQ X.prog X.w (upd H a o) s.heap a o):Inv X pins σ (upd H a o) s:=by
 have up : ∀ b,H b=none->b≠a->upd H a o b=none:=fun b e n=>by rw [ze n];exact e
 have st : ∀ {b u},H b=some u->upd H a o b=some u:=fun {b u} e=>by rw [ze (za e f0)];exact e
 refine ⟨I.ok,I.os,I.bare,⟨I.base.keep,I.base.slot,fun b ob e n hx=>up b (I.base.free b ob e n hx) (fun z=>f3 ob (z ▸ e)),I.base.there,fun b xs e=>st (I.base.tups b xs e),fun b ob u e=>st (I.base.frzs b ob u e),fun b ps e=>?_⟩,I.loc,I.cell,up _ I.free (Ne.symm f1),fun x c e=>up c (I.freeC x c e) (f4 x c e),fun p hp=>?_,I.hok.track f0 new,I.len⟩
 ·obtain ⟨m,q⟩:=I.base.tbls b ps e
  exact ⟨m,st q⟩
 ·obtain ⟨e,n,r⟩:=I.pin p hp
  exact ⟨e,up _ n (f5 p hp),r⟩
theorem Inv.renamed {m':Str->Option Value} {t':Nat} (I:Inv X pins σ H s) (hs:Heap.SameBut X.env.locals s.heap h') (hn:h'.Ns X.env.locals m'):Inv X pins (List.replicate σ.length none) H { s with heap:=h',toks:=t' }:=by
 have ne0 : ∀ b o,X.s₀.heap.get? b=some o->b≠X.env.locals:=fun b o e=>ne_of_lt (lt_of_lt_of_le (Heap.lt_size e) I.ok.above)
 have at' : ∀ b o,b≠X.env.locals->s.heap.get? b=some o->h'.get? b=some o:=fun b o n e=>(hs.2 b n).trans e
 refine ⟨I.ok,I.os,I.bare,⟨fun b o e n hb hx=>at' b o (ne0 b o e) (I.base.keep b o e n hb hx),fun b o e n hb hx=>?_,I.base.free,fun b o e hx=>?_,I.base.tups,I.base.frzs,I.base.tbls⟩,⟨m',hn,fun i x v _ e _=>?_⟩,fun x c e=>?_,I.free,I.freeC,fun p hp=>?_,fun a u e=>?_,?_⟩
 ·obtain ⟨sl,e1⟩:=I.base.slot b o e n hb hx
  exact ⟨sl,at' b _ (ne0 b o e) e1⟩
 ·obtain ⟨o',e1⟩:=I.base.there b o e hx
  exact ⟨o',at' b o' (ne0 b o e) e1⟩
 ·rw [List.getElem?_replicate] at e
  split at e <;> simp at e
 ·obtain ⟨v,o,ho,hd⟩:=I.cell x c e
  exact ⟨v,o,at' c o (I.cne x c e) ho,hd⟩
 ·obtain ⟨e,n,ne,r⟩:=I.pin p hp
  exact ⟨at' _ _ ne e,n,ne,r⟩
 ·refine (I.hok a u e).stay (fun b ob hb eb=>at' b ob (fun z=>?_) eb) (fun _ z=>z) (fun _ _ z=>z)
  have:=I.free
  rw [<- z] at this
  rcases hb with rfl | hb
  ·rw [e] at this;cases this
  ·rw [hb] at this;cases this
 ·rw [length_replicate];exact I.len
end
section
variable {X : Cx} {H : Hp} {Q : VK} {K : W.Frag}
theorem Fun.okX {base:Heap} {qual:Str} {st:Stmt} {f:Addr} {N:List Str} (F:Fun K x qual st f fd) (S:zO N ps (zG st)) (len : ∀ vs H Q E,sp vs H Q E->vs.length=ps.length)
  (hbody : ∀ (cdv:Value) (A:Around) (outer:List Env) (s:Shared) (H:Hp) (vs:List V) (Q:VK) (E:XK),jq k (A.deeper (envOfC qual (zG st) s.heap.objs.size f cdv))->sp vs H Q E ->
   WM (yd (CXE P w) P w K mg base N qual (zG st) f cdv A outer s H E) E -> ∃ t,PSs (yd (CXE P w) P w K mg base N qual (zG st) f cdv A outer s H E) (zu st) t/\t { nx:=fun _ H'=>Q .non H',rt:=Q } (start N vs) H):xG P w K mg base (CXE P w) (k+1) f fd ps sp:=by
 obtain ⟨oc,od,kV,doc,pm,an,cdv,ct,osl,rfl,lk,hcd⟩:=F.ex
 exact VJ lk hcd S len fun A outer s H vs Q E hr hsp=>hbody cdv A outer s H vs Q E hr hsp fun pins σ H s h' x C args I hm q=>JK I hm q
theorem xG.calm {base:Heap} {f:Addr} (F:xG P w K mg base (CXE P w) k f fd ps sp):xG P w K mg base CX0 k f fd ps (fun vs H Q _=>sp vs H Q E0):=
 ⟨fun vs H Q _ h=>F.len vs H Q E0 h,fun A outer s H args us vs Q _ hr he hb hv hs=>codeAny_mono (F.run A outer s H args us vs Q E0 hr he hb hv hs) fun r s' hq=>by
  cases r with
  | ok fl=>cases fl <;> exact hq
  | error e =>
   obtain ⟨_,_,_,_,_,_,_,_,_,_,_,_,z⟩:=hq
   exact z.elim⟩
end
section
variable {X : Cx} {H : Hp} {Q : VK} {K : W.Frag} {σ : St} {pos p1 p2 : Pos} {n1 n2 : Nat} {a b : Int}
def zH0 (p:Addr):HO:=.ext (W.KitAt p "dict")
inductive Odd (H:Hp):V->Prop where
 | non:Odd H .non
 | bl (b:Bool):Odd H (.bl b)
 | str (x:Str):Odd H (.str x)
 | lst {p:Addr} {xs:List V} (e:H p=some (.lst xs)):Odd H (.ref p)
 | tup {p:Addr} {xs:List V} (e:H p=some (.tup xs)):Odd H (.ref p)
 | dct {p:Addr} (e:H p=some (zH0 p)):Odd H (.ref p)
theorem Odd.same {v:V} (h:Odd H v) (g:zW H H'):Odd H' v:=by
 cases h with
 | non=>exact .non
 | bl b=>exact .bl b
 | str x=>exact .str x
 | lst e=>exact .lst (g _ _ e)
 | tup e=>exact .tup (g _ _ e)
 | dct e=>exact .dct (g _ _ e)
def VH (K:W.Frag):List V->Hp->VK->Prop:=fun xs H Q=>zC0 K xs H Q \/ ∃ p T b,xs=[.ref p,.ty T]/\H p=some (zH0 p)/\W.kitOne K (.type "dict") (.type T)=some b/\Q (.bl b) H
theorem zBE {i:Bool} {T:String} {b:Bool} (e:W.kitOne K (.type "bool") (.type T)=some b) (q:Q (.bl b) H):VH K [.bl i,.ty T] H Q:=.inl (JZ (.bl i) ⟨_,.inl rfl⟩ e q)
theorem WB {T:String} {b:Bool} (e:W.kitOne K (.type "str") (.type T)=some b) (q:Q (.bl b) H):VH K [.str x,.ty T] H Q:=.inl (JZ (.str x) ⟨_,.inl rfl⟩ e q)
theorem KU {T:String} {b:Bool} (e:W.kitOne K (.type "NoneType") (.type T)=some b) (q:Q (.bl b) H):VH K [.non,.ty T] H Q:=.inl (JZ .non ⟨_,.inl rfl⟩ e q)
theorem Ki {p:Addr} {T:String} {b:Bool} (h:H p=some (.lst xs)) (e:W.kitOne K (.type "list") (.type T)=some b) (q:Q (.bl b) H):VH K [.ref p,.ty T] H Q:=.inl (JZ (.lst h) ⟨_,.inl rfl⟩ e q)
theorem KT {p:Addr} {T:String} {b:Bool} (h:H p=some (.tup xs)) (e:W.kitOne K (.type "tuple") (.type T)=some b) (q:Q (.bl b) H):VH K [.ref p,.ty T] H Q:=.inl (JZ (.tup h) ⟨_,.inl rfl⟩ e q)
theorem Kc {p:Addr} {T:String} {b:Bool} (h:H p=some (zH0 p)) (e:W.kitOne K (.type "dict") (.type T)=some b) (q:Q (.bl b) H):VH K [.ref p,.ty T] H Q:=.inr ⟨p,T,b,rfl,h,e,q⟩
theorem Odd.int {v:V} (h:Odd H v) (q1:Q (.bl true) H) (q0:Q (.bl false) H):VH K [v,.ty "int"] H Q:=by
 cases h with
 | non=>exact KU (QA K) q0
 | bl b=>exact zBE (YW K) q1
 | str x=>exact WB (Yy K) q0
 | lst e=>exact Ki e (Yj K) q0
 | tup e=>exact KT e (XL K) q0
 | dct e=>exact Kc e (Yn K) q0
theorem zAY {D:yr} (h:t σ H fun vs H1=>vs.length<=sizeLine/\E (.ref C) none H1):zDM C E t D σ H:=h
def Nm (K:W.Frag) (x:Str) (C:Addr):Prop:=W.nsIn K mainGlobals x=some (some (.ref C))
theorem Nm.eq {C':Addr} (h:Nm K x C) (h':Nm K x C'):C=C':=by
 have:=h.symm.trans h'
 cases this;rfl
variable {env:Env}
theorem QT {c:Const} {n:Nat}:starEach (.Constant c n p::es) env=(false,eval (.Constant c n p) env)::starEach es env:=rfl
theorem zy:starEach (.Name x p::es) env=(false,eval (.Name x p) env)::starEach es env:=rfl
theorem qB {a b:Expr}:starEach (.Subscript a b p::es) env=(false,eval (.Subscript a b p) env)::starEach es env:=rfl
theorem WC {a:Expr} {os:List CmpOp} {bs:List Expr}:starEach (.Compare a os bs p::es) env=(false,eval (.Compare a os bs p) env)::starEach es env:=rfl
theorem zGo {T:String} {r:V->List V->Hp->VK->Prop} {to:TE} (h:to σ H fun x H1=>tyV K T x H1/\t σ H1 fun xs H2=>r x xs H2 Q):tBM K T r to t σ H Q:=h
theorem zCm {p:Addr} {R:Prop} (h:SqL K H p xs) (q:R):tyV K "list" (.ref p) H/\R:=⟨.inl ⟨rfl,_,h⟩,q⟩
theorem Xn {y:V} (h:H l=some (.lst xs)) (h2:xs.length < sizeLine) (q:Q .non (upd H l (.lst (xs++[y])))):Y0 (.ref l) [y] H Q:=⟨l,xs,y,rfl,rfl,h,h2,q⟩
def SB (r:Addr) (H F:Hp):Prop:=∀ b o,b≠r->H b=some o->F b=some o
theorem SB.refl {r:Addr}:SB r H H:=fun _ _ _ e=>e
theorem SB.same {r:Addr} {F:Hp} (h:SB r H F) (n:H r=none):zW H F:=fun b o e=>h b o (za e n) e
end
section
variable {X : Cx} {H : Hp} {Q : VK} {K : W.Frag}
def zBz:R2:=fun x y H Q=>∃ i j:Str,x = .str i/\y = .str j/\i.length+j.length<=sizeLine/\Q (.str (i++j)) H
theorem zk:OpR X (binaryOp .Add) zBz:=K2
theorem zHR {i j:Str} (hz:i.length+j.length<=sizeLine) (q:Q (.str (i++j)) H):zBz (.str i) (.str j) H Q:=⟨i,j,rfl,rfl,hz,q⟩
variable {z:Str}
theorem zHs {c:Nat} (hz:z.length<=sizeLine) (e:atI z.cps.toList i=some c) (q:Q (.str ⟨#[c]⟩) H):zDU (.str z) (.int i) H Q:=⟨z,i,c,rfl,rfl,hz,e,q⟩
def zBq:List V->Hp->VK->Prop:=fun xs H Q=>∃ z:Str,xs=[.str z]/\z.length<=sizeLine/\Q (.int z.length) H
theorem zd:yE X (.builtin "len") zBq:=YG
theorem zG2 (hz:z.length<=sizeLine) (q:Q (.int z.length) H):zBq [.str z] H Q:=⟨z,rfl,hz,q⟩
def zHz:R2:=fun x y H Q=>∃ i j:Str,x = .str i/\y = .str j/\Q (.bl (!(Builtin.Str.occurrences j i 0 j.length 1).isEmpty)) H
theorem zBM:OpR X (compareOp .In) zHz:=zAA
theorem zFS {i j:Str} (q:Q (.bl (!(Builtin.Str.occurrences j i 0 j.length 1).isEmpty)) H):zHz (.str i) (.str j) H Q:=⟨i,j,rfl,rfl,q⟩
theorem zCv {i j:Str} (q:Q (.bl (decide (i=j))) H):rEq (.str i) (.str j) H Q:=WH rfl q
theorem zB9 (q:Q (.bl true) H):zC0 K [.str x,.ty "str"] H Q:=JZ (.str x) ⟨_,.inl rfl⟩ (VP K) q
def zBP:V->Option Int->Option Int->Hp->VK->Prop:=fun x lo hi H Q=>∃ z:Str,x = .str z/\z.length<=sizeLine/\Q (.str (Txt.slice z lo hi)) H
theorem jH:SlR X zBP:=by
 intro pins s σ H x v vl vu lo hi sl Q I rx hs pl pu h
 obtain ⟨z,rfl,hz,q⟩:=h
 obtain ⟨t,rfl⟩:=rx
 refine ⟨"str", _,PySem.F.slot_str_getitem.lookup,typeIs_str _ _ _,?_⟩
 have fin : ∀ (t':Tok) (k:Nat),EP X pins σ Q (.str (Txt.slice z lo hi) t') { s with toks:=k }:=fun t' k=>⟨.str _,H,I.tok _,⟨t',rfl⟩,q⟩
 have le:=le_trans (Txt.slice_le z lo hi) hz
 cases pl <;> cases pu
 ·exact wpAny_getItem_str_slice (l:=none) (u:=none) (st:=none) hs rfl (post_val_or_str ⟨le,fin⟩)
 ·exact wpAny_getItem_str_slice (l:=none) (u:=some (_,_)) (st:=none) hs rfl (post_val_or_str ⟨le,fin⟩)
 ·exact wpAny_getItem_str_slice (l:=some (_,_)) (u:=none) (st:=none) hs rfl (post_val_or_str ⟨le,fin⟩)
 ·exact wpAny_getItem_str_slice (l:=some (_,_)) (u:=some (_,_)) (st:=none) hs rfl (post_val_or_str ⟨le,fin⟩)
theorem Wu {lo hi:Option Int} (hz:z.length<=sizeLine) (q:Q (.str (Txt.slice z lo hi)) H):zBP (.str z) lo hi H Q:=⟨z,rfl,hz,q⟩
end
abbrev Lt (x:Str):List Nat:=x.cps.toList
def T (l:List Nat):Str:=⟨l.toArray⟩
theorem JY (l:List Nat):Lt (T l)=l:=rfl
theorem zF3 (x:Str):T (Lt x)=x:=by cases x;simp [T,Lt]
variable {y:Str}
theorem YR (h:Lt x=Lt y):x=y:=by rw [<- zF3 x,<- zF3 y,h]
theorem zIK {a b:List Nat}:T a=T b↔a=b:=⟨fun h=>by have:=congrArg Lt h;rwa [JY,JY] at this,fun h=>by rw [h]⟩
theorem zDP (x:Str):x.length=(Lt x).length:=rfl
theorem zH4 (x y:Str):x++y=T (Lt x++Lt y):=YR (by rw [JY];show (x.cps++y.cps).toList=_;simp)
theorem xr {a b:List Nat} {i:Nat} (h:i < a.length):(a++b).getD i 0=a.getD i 0:=by
 rw [getD_eq_getElem?_getD,getD_eq_getElem?_getD,List.getElem?_append_left h]
theorem Xs {a b:List Nat} {i:Nat} (h:a.length<=i):(a++b).getD i 0=b.getD (i - a.length) 0:=by
 rw [getD_eq_getElem?_getD,getD_eq_getElem?_getD,List.getElem?_append_right h]
theorem zAG (l:List Nat) (a:Nat) : ∀ m:Nat,(List.range m).filterMap (fun k=>l[a+k]?)=(l.drop a).take m
 | 0=>by simp
 | m+1=>by
  rw [List.range_succ,List.filterMap_append,zAG l a m,List.take_succ]
  congr 1
  rw [List.getElem?_drop]
  rw [List.filterMap_cons]
  cases l[a+m]? <;> rfl
def cl (n d:Nat):Option Int->Nat
 | none=>d
 | some i=>(max 0 (min (if i < 0 then i+n else i) (n:Int))).toNat
theorem Qq (z:Str) (lo hi:Option Int):Txt.slice z lo hi=T (((Lt z).take (cl (Lt z).length (Lt z).length hi)).drop (cl (Lt z).length 0 lo)):=by
 have e:Builtin.Str.strSliceIndices lo hi 1 z.length=(List.range (cl (Lt z).length (Lt z).length hi - cl (Lt z).length 0 lo)).map (fun x=>cl (Lt z).length 0 lo+x):=by
  rw [<- sliceRange_one]
  unfold Builtin.Str.strSliceIndices
  cases lo <;> cases hi <;> simp [cl,zDP,Int.toNat_of_nonneg,Int.le_max_left]
 have k:(List.filterMap (fun x=>z.cps[x]?) (Builtin.Str.strSliceIndices lo hi 1 z.length))=((Lt z).take (cl (Lt z).length (Lt z).length hi)).drop (cl (Lt z).length 0 lo):=by
  rw [e,List.filterMap_map]
  have f:((fun x=>z.cps[x]?) ∘ fun x=>cl (Lt z).length 0 lo+x)=fun k=>(Lt z)[cl (Lt z).length 0 lo+k]?:=by funext k;simp [Lt]
  rw [f,zAG,List.drop_take]
 unfold Txt.slice
 split
 ·rename_i h
  have hl:(Builtin.Str.strSliceIndices lo hi 1 z.length).length=(Lt z).length:=(by simpa using h:_=z.length)
  rw [e,length_map,List.length_range] at hl
  have b1:cl (Lt z).length (Lt z).length hi<=(Lt z).length:=by
   unfold cl;split <;> omega
  rcases eq_zero_or_pos (Lt z).length with p | p
  ·rw [eq_nil_of_length_eq_zero p];simp
   exact YR (eq_nil_of_length_eq_zero p)
  ·rw [show cl (Lt z).length 0 lo=0 by omega,show cl (Lt z).length (Lt z).length hi=(Lt z).length by omega,take_length,drop_zero,zF3]
 ·rw [k];rfl
section
variable {X : Cx} {H : Hp} {Q : VK} {K : W.Frag}
theorem zDE (hz:(Lt x).length+(Lt y).length<=16777216) (q:Q (.str (T (Lt x++Lt y))) H):zBz (.str x) (.str y) H Q:=zHR hz (by rw [zH4];exact q)
variable {z:Str}
theorem zDB (hz:(Lt z).length<=16777216) (q:Q (.int (Lt z).length) H):zBq [.str z] H Q:=zG2 hz q
theorem zCB (hz:(Lt z).length<=16777216) (h0:0<=i) (h1:i < (Lt z).length) (q:Q (.str (T [(Lt z).getD i.toNat 0])) H):zDU (.str z) (.int i) H Q:=by
 refine zHs (c:=(Lt z).getD i.toNat 0) hz ?_ q
 unfold atI ixN
 rw [if_pos h0,if_pos h1]
 show (Lt z)[i.toNat]? = _
 rw [getD_eq_getElem?_getD,getElem?_eq_getElem (by omega)];rfl
theorem Wi (n:Nat) (hn:(Lt z).length=n) (hz:n<=16777216) (h0:0<=i) (h1:i < n) (q : ∀ c,c ∈ Lt z->Q (.str (T [c])) H):zDU (.str z) (.int i) H Q:=by
 refine zCB (by omega) h0 (by omega) (q _ ?_)
 rw [getD_eq_getElem?_getD,getElem?_eq_getElem (by omega)]
 exact getElem_mem _
theorem zG4 (hz:(Lt z).length<=16777216) (h1:0 < (Lt z).length) (q:Q (.str (T [(Lt z).getD ((Lt z).length - 1) 0])) H):zDU (.str z) (.int (-1)) H Q:=by
 refine zHs (c:=(Lt z).getD ((Lt z).length - 1) 0) hz ?_ q
 unfold atI ixN
 rw [if_neg (show ¬ (0:Int) <= -1 by decide),if_pos (show -((Lt z).length:Int) <= -1 by omega)]
 show (Lt z)[((-1:Int)+(Lt z).length).toNat]? = _
 rw [show ((-1:Int)+(Lt z).length).toNat=(Lt z).length - 1 by omega,getD_eq_getElem?_getD,getElem?_eq_getElem (by omega)];rfl
theorem zHd (hz:(Lt z).length<=16777216) (h:0<=j) (q:Q (.str (T ((Lt z).take j.toNat))) H):zBP (.str z) none (some j) H Q:=by
 refine Wu hz ?_
 rw [Qq]
 have e:(Lt z).take (cl (Lt z).length (Lt z).length (some j))=(Lt z).take j.toNat:=by
  unfold cl;dsimp only;rw [if_neg (by omega)]
  rcases Int.le_total j (Lt z).length with p | p
  ·rw [Int.min_eq_left p,max_eq_right h]
  ·rw [Int.min_eq_right p,max_eq_right (by omega),take_of_length_le (by omega),take_of_length_le (by omega)]
 rw [e];exact q
theorem zBC (l:List Nat) (h:0<=i) (n d:Nat) (hn:l.length<=n):l.drop (cl n d (some i))=l.drop i.toNat:=by
 unfold cl;dsimp only;rw [if_neg (by omega)]
 rcases Int.le_total i n with p | p
 ·rw [Int.min_eq_left p,max_eq_right h]
 ·rw [Int.min_eq_right p,max_eq_right (by omega),drop_of_length_le (by omega),drop_of_length_le (by omega)]
theorem zEv (l:List Nat) (h:0<=i) (d:Nat):l.take (cl l.length d (some i))=l.take i.toNat:=by
 unfold cl;dsimp only;rw [if_neg (by omega)]
 rcases Int.le_total i l.length with p | p
 ·rw [Int.min_eq_left p,max_eq_right h]
 ·rw [Int.min_eq_right p,max_eq_right (by omega),take_of_length_le (by omega),take_of_length_le (by omega)]
theorem zFb (hz:(Lt z).length<=16777216) (h:0<=i) (q:Q (.str (T ((Lt z).drop i.toNat))) H):zBP (.str z) (some i) none H Q:=by
 refine Wu hz ?_
 rw [Qq,zBC _ h _ _ (by rw [length_take];omega)]
 show Q (.str (T (((Lt z).take (Lt z).length).drop i.toNat))) H
 rw [take_length];exact q
theorem zD5 (hz:(Lt z).length<=16777216) (h:0<=i) (h':0<=j) (q:Q (.str (T (((Lt z).take j.toNat).drop i.toNat))) H):zBP (.str z) (some i) (some j) H Q:=by
 refine Wu hz ?_
 rw [Qq,zBC _ h _ _ (by rw [length_take];omega),zEv _ h']
 exact q
def zGF:R2:=fun x y H Q=>∃ (z:Str) (n:Int),x = .str z/\y = .int n/\n < 16777216 /\ -16777216 < n/\(Lt z).length*n.toNat<=16777216/\Q (.str (T (List.replicate n.toNat (Lt z)).flatten)) H
theorem YU : ∀ (xs:List (Array Nat)) (a:Array Nat),(xs.foldl (fun x1 x2=>x1++x2) a).toList=a.toList++(xs.map Array.toList).flatten
 | [],a=>by simp
 | x::xs,a=>by rw [foldl_cons,YU xs];simp
theorem zH9 (z:Str) (n:Int):Txt.mul z n=T (List.replicate n.toNat (Lt z)).flatten:=by
 unfold Txt.mul
 split
 ·rw [show n.toNat=0 by omega];rfl
 ·split
  ·rename_i h1 h2
   rw [Bool.or_eq_true] at h2
   rcases h2 with h | h
   ·have:n=1:=by simpa using h
    subst this
    show z=T ([Lt z].flatten)
    simp [zF3]
   ·have e:(Lt z).length=0:=(by simpa using h:z.length=0)
    have e':Lt z=[]:=eq_nil_of_length_eq_zero e
    refine YR ?_
    rw [JY,e']
    simp
  ·refine YR ?_
   show (List.foldl (fun x1 x2=>x1++x2) #[] (List.replicate n.toNat z.cps)).toList=_
   rw [YU,List.map_replicate,JY]
   simp
theorem ZV:OpR X (binaryOp .Mult) zGF:=by
 intro pins s σ H x y v u Q I rx ry h
 obtain ⟨z,n,rfl,rfl,h1,h2,h3,q⟩:=h
 obtain ⟨t,rfl⟩:=rx
 obtain ⟨t',rfl⟩:=ry
 refine SB.mul ⟨?_,fun h4 _=>?_,fun _ _=>?_⟩ fun t' k=>⟨.str _,H,I.tok _,⟨t',rfl⟩,by rw [zH9];exact q⟩
 ·rw [decide_eq_false (by omega),decide_eq_false (by omega)];rfl
 ·have e:((Lt z).length:Int)*n<=16777216:=by
   have:=Int.ofNat_le.mpr h3
   rw [Int.natCast_mul,Int.toNat_of_nonneg (by omega)] at this;exact this
  intro h5
  have h6:=Int.mul_le_of_le_ediv (c:=n) (by omega) (Int.le_refl ((2 ^ 63 - 1) / n))
  have h7:((2:Int) ^ 63 - 1) / n+1<=(Lt z).length:=h5
  have h8:=Int.mul_le_mul_of_nonneg_right h7 (show 0<=n by omega)
  have h9:=Int.lt_ediv_add_one_mul_self ((2:Int) ^ 63 - 1) (show 0 < n by omega)
  omega
 ·unfold Builtin.Str.tooLong
  exact decide_eq_false (by show ¬ (Lt z).length*n.toNat > 16777216;omega)
theorem zEg {c:Nat} {n:Int} (h1:n < 16777216) (h2 : -16777216 < n) (q:Q (.str (T (List.replicate n.toNat c))) H):zGF (.str (T [c])) (.int n) H Q:=
 ⟨T [c],n,rfl,rfl,h1,h2,by rw [JY,length_singleton,Nat.one_mul];omega,by rw [JY,List.flatten_replicate_singleton];exact q⟩
theorem zBD {i j:Str} (q:Q (.bl (!decide (i=j))) H):rNe (.str i) (.str j) H Q:=⟨rfl,by
 have e:decide (V.str i=V.str j)=decide (i=j):=by
  by_cases h:i=j
  ·rw [decide_eq_true h,decide_eq_true (congrArg V.str h)]
  ·rw [decide_eq_false h,decide_eq_false (fun z=>h (V.str.inj z))]
 rw [e];exact q⟩
theorem zEU {a b:List Nat} (hz:a.length+b.length<=16777216) (q:Q (.str (T (a++b))) H):zBz (.str (T a)) (.str (T b)) H Q:=zDE hz q
theorem zAV {a:List Nat} (hz:a.length<=16777216) (q:Q (.int a.length) H):zBq [.str (T a)] H Q:=zDB hz q
theorem zFv {a:List Nat} (hz:a.length<=16777216) (h0:0<=i) (h1:i < a.length) (q:Q (.str (T [a.getD i.toNat 0])) H):zDU (.str (T a)) (.int i) H Q:=zCB hz h0 h1 q
theorem zDd {a:List Nat} (hz:a.length<=16777216) (h1:0 < a.length) (q:Q (.str (T [a.getD (a.length - 1) 0])) H):zDU (.str (T a)) (.int (-1)) H Q:=zG4 hz h1 q
theorem zFD {a:List Nat} (hz:a.length<=16777216) (h:0<=j) (q:Q (.str (T (a.take j.toNat))) H):zBP (.str (T a)) none (some j) H Q:=zHd hz h q
theorem zD8 {a:List Nat} (hz:a.length<=16777216) (h:0<=i) (q:Q (.str (T (a.drop i.toNat))) H):zBP (.str (T a)) (some i) none H Q:=zFb hz h q
theorem zCE {a:List Nat} (hz:a.length<=16777216) (h:0<=i) (h':0<=j) (q:Q (.str (T ((a.take j.toNat).drop i.toNat))) H):zBP (.str (T a)) (some i) (some j) H Q:=zD5 hz h h' q
theorem zCl {a b:List Nat} (q:Q (.bl (decide (a=b))) H):rEq (.str (T a)) (.str (T b)) H Q:=zCv (by
 have e:decide (T a=T b)=decide (a=b):=decide_eq_decide.mpr zIK
 rw [e];exact q)
theorem zDA {a b:List Nat} (q:Q (.bl (!decide (a=b))) H):rNe (.str (T a)) (.str (T b)) H Q:=zBD (by
 have e:decide (T a=T b)=decide (a=b):=decide_eq_decide.mpr zIK
 rw [e];exact q)
theorem zEW {b:Bool} (h:decide (x=y)=b) (q:Q (.bl (!b)) H):rNe (.str x) (.str y) H Q:=zBD (by rw [h];exact q)
theorem ZT {p:Addr} (h:SqL K H p xs) (h0:0<=i) (h1:i < xs.length) (q : ∀ x,xs[i.toNat]? = some x->Q x H):zCM K (.ref p) (.int i) H Q:=by
 have h2:i.toNat < xs.length:=by omega
 have e:atI xs ((i.toNat:Nat):Int)=some xs[i.toNat]:=zDs (getElem?_eq_getElem h2)
 rw [show ((i.toNat:Nat):Int)=i by omega] at e
 exact Ko h e (q _ (getElem?_eq_getElem h2))
def zAa:V->List V->Hp->VK->Prop:=fun x xs H Q=>∃ z y:Str,x = .str z/\xs=[.str y]/\Q (.int (Txt.find z y)) H
theorem Vs:MtR X "str.find" zAa:=by
 intro pins s σ H x xs v us Q I rx rv h
 obtain ⟨z,y,rfl,rfl,q⟩:=h
 obtain ⟨t,rfl⟩:=rx
 obtain ⟨u,rfl,ru⟩:=rv.one
 obtain ⟨t',rfl⟩:=ru
 exact SC.find ⟨.int _,H,I.tok _,⟨_,rfl⟩,q⟩
theorem zAw (q:Q (.int (Txt.find z y)) H):zAa (.str z) [.str y] H Q:=⟨z,y,rfl,rfl,q⟩
theorem zIM {R:Prop} (q:R):tyV K "str" (.str z) H/\R:=⟨rfl,q⟩
end
def Its (x:Str):It:=⟨fun i _=>i < (Lt x).length,fun i H v H'=>H'=H /\ ∃ c,(Lt x)[i]? = some c/\v = .str (T [c]),fun i _=>i=(Lt x).length⟩
theorem zCN {K:PySem.W.Frag} {tg:Expr} (x:Str) (t:Tok) (it:Addr) (ty:String) (hty:ty = "str_ascii_iterator" \/ ty = "str_iterator"):zEN P w K tg (Its x) [it] it (fun i h=>h.IsStrIter it ty x t i) where
 mem:=by simp
 obj:=fun i h st b hb=>by
  have e:b=it:=by simpa using hb
  subst e
  obtain ⟨o,e,c,d⟩:=st
  exact ⟨o,e,fun v z=>by rw [d] at z;cases z⟩
 keep:=fun i h h' st k=>by
  obtain ⟨o,e,c,d⟩:=st
  exact ⟨o,k it (by simp) o e,c,d⟩
 item:=by
  intro X hP hw hK hc i pins s σ H E I hf st hg
  subst hP hw hK
  obtain ⟨f0,f1,f2,f3,f4,f5⟩:=hf it (by simp)
  have W:Walks X.prog X.w X.A it [it] [it] x.cps.size (SignAt x) (fun i h=>h.IsStrIter it ty x t i):=by
   rcases hty with rfl | rfl
   ·exact Walks.strAscii (I.ok.hd hc) it x t
   ·exact Walks.strWide (I.ok.hd hc) it x t
  refine W.item i s _ _ hg st fun v h' tk hv st' kk=>?_
  obtain ⟨c,u,hcu,rfl⟩:=hv
  have I1:Inv X pins σ H { s with heap:=h',toks:=tk }:=I.turned (fun b o hb e=>kk b o (by simpa using hb) e) f0 f1 f3 f4 f5
  obtain ⟨o,e,c1,d⟩:=id st'
  have hn:["enumerate", "zip", "dict_itemiterator", "dict_reverseitemiterator", "odict_iterator", "itertools.zip_longest", "itertools.pairwise"].contains ty=false:=by rcases hty with rfl | rfl <;> decide
  exact ⟨_,rfl,zCY (s:={ s with heap:=h',toks:=tk }) e c1 d hn ⟨.str (T [c]),H,I1,⟨u,rfl⟩,⟨rfl,c,by simpa [Lt] using hcu,rfl⟩,st',fun b hb=>(hf b hb).1⟩⟩
 done:=by
  intro X hP hw hK hc i pins s σ H E I hf st hg
  subst hP hw hK
  obtain ⟨f0,f1,f2,f3,f4,f5⟩:=hf it (by simp)
  have W:Walks X.prog X.w X.A it [it] [it] x.cps.size (SignAt x) (fun i h=>h.IsStrIter it ty x t i):=by
   rcases hty with rfl | rfl
   ·exact Walks.strAscii (I.ok.hd hc) it x t
   ·exact Walks.strWide (I.ok.hd hc) it x t
  have hi:i=x.cps.size:=hg
  subst hi
  exact W.done s _ _ st fun h' tk kk=>⟨rfl,I.turned (fun b o hb e=>kk b o (by simpa using hb) e) f0 f1 f3 f4 f5⟩
 self:=fun _ _ _ _ _ st h=>by
  rcases hty with rfl | rfl
  ·exact wpAny_pyIter_striter_ascii st h
  ·exact wpAny_pyIter_striter_wide st h
section
variable {X : Cx} {tg : Expr}
def zIb (tl:TE):TI:=fun σ H R=>tl σ H fun x H1=>∃ z:Str,x = .str z/\R (Its z) H1
theorem Y2 {l:Expr} {tl:TE} (hl:PE X l tl):PI X tg l (zIb tl):=by
 intro pins s σ H R I h
 refine thn (hl pins s σ H _ I h) fun v s1 zq=>?_
 obtain ⟨x,H1,I1,r1,q1⟩:=zq
 obtain ⟨z,e,q⟩:=q1
 subst e
 obtain ⟨t,rfl⟩:=r1
 have hty:strIterType z = "str_ascii_iterator" \/ strIterType z = "str_iterator" := by unfold strIterType;split <;> simp
 refine wpAny_pyIter_strU ?_
 refine ⟨s1.heap.objs.size,[s1.heap.objs.size],_,_,H1,rfl,I1.kept (t':=s1.toks) fun b o e=>Heap.get?_push_of_some _ e,zCN z t _ _ hty,⟨_,Heap.get?_push_size _ rfl,rfl,rfl⟩,fun b hb=>?_,q⟩
 have e:b=s1.heap.objs.size:=by simpa using hb
 subst e
 exact I1.fpOk (Nat.le_refl _) (I1.hok.fresh (Nat.le_refl _))
end
section
variable {σ : St} {H : Hp} {Q : VK} {D : yr} {K : W.Frag}
def zGV (g:TG) (tb:TS) (D:yr) (σ:St) (x:V) (H:Hp):Prop:=∃ z:Str,x = .str z /\ ∃ W:Nat->Nat->St->Hp->Prop,(∃ m,W 0 m σ H) /\ ∀ i m σ H,W i m σ H ->
 ((Its z).stop i H/\D.nx σ H)\/((Its z).go i H /\ ∃ N:St->Hp->Prop,(∀ σ' H',N σ' H' -> ∃ m',m' < m/\W (i+1) m' σ' H') /\ ∀ x H',(Its z).yld i H x H'->g x σ H' fun σ2 H2=>tb { D with nx:=N,ct:=N,bk:=D.nx } σ2 H2)
theorem zHg {tl:TE} {g:TG} {tb:TS} (h:tl σ H (zGV g tb D σ)):zEq (zIb tl) g tb D σ H:=h
theorem zEi {g:TG} {tb:TS} {a:List Nat} (Pv:Nat->St->Hp->Prop) (h0:Pv 0 σ H)
  (hs : ∀ i c σ H,a[i]? = some c->Pv i σ H->g (.str (T [c])) σ H fun σ2 H2=>tb { D with nx:=Pv (i+1),ct:=Pv (i+1),bk:=D.nx } σ2 H2) (hd : ∀ σ H,Pv a.length σ H->D.nx σ H):zGV g tb D σ (.str (T a)) H:=by
 refine ⟨T a,rfl,fun i m σ H=>i+m=a.length/\Pv i σ H,⟨a.length,by omega,h0⟩,?_⟩
 rintro i m σ H ⟨hm,hp⟩
 rcases lt_or_ge i a.length with h | h
 ·refine .inr ⟨h,Pv (i+1),fun σ' H' hp'=>⟨m - 1,by omega,by omega,hp'⟩,?_⟩
  rintro x H' ⟨rfl,c,hc,rfl⟩
  exact hs i c σ H' hc hp
 ·have e:i=a.length:=by omega
  subst e
  exact .inl ⟨rfl,hd σ H hp⟩
end
def fv (c:Nat):Int:=if 48<=c/\c<=57 then (c:Int) - 48 else if 97<=c/\c<=102 then (c:Int) - 87 else -1
theorem zB4 : ∀ c ∈ List.range 127,Txt.find "0123456789abcdef" (T [c])=fv c:=by decide +kernel
theorem Wv {c:Nat} (h:c < 127):Txt.find "0123456789abcdef" (T [c])=fv c:=zB4 c (List.mem_range.mpr h)
def fc (d:Nat):Nat:=(Lt "0123456789abcdef").getD d 0
theorem zFX : ∀ d ∈ List.range 16,fc d < 127/\fv (fc d)=d/\(fc d=48->d=0):=by decide +kernel
variable {d:Nat}
theorem zBe (h:d < 16):fc d < 127/\fv (fc d)=d/\(fc d=48->d=0):=zFX d (List.mem_range.mpr h)
def val (b:Int) (l:List Nat):Int:=l.foldl (fun n c=>n*b+fv c) 0
theorem ZL (b:Int) (l:List Nat) (c:Nat):val b (l++[c])=val b l*b+fv c:=by unfold val;rw [List.foldl_append];rfl
theorem JH (b:Int) (l:List Nat) : ∀ m:Nat,val b (List.replicate m 48++l)=val b l
 | 0=>by simp
 | m+1=>by
  have ih:=JH b l m
  unfold val at ih ⊢
  rw [List.replicate_succ,List.cons_append,foldl_cons]
  have:(0:Int)*b+fv 48=0:=by rw [Int.zero_mul];decide
  rw [this];exact ih
def xR (b:Int) (l:List Nat):Prop:=∀ c ∈ l,c < 127/\0<=fv c/\fv c < b
theorem xR.mono {b b':Int} {l:List Nat} (h:xR b l) (hb:b<=b'):xR b' l:=fun c hc=>⟨(h c hc).1,(h c hc).2.1,by have:=(h c hc).2.2;omega⟩
theorem xR.app {b:Int} {l m:List Nat} (h:xR b l) (h':xR b m):xR b (l++m):=fun c hc=>(List.mem_append.mp hc).elim (h c) (h' c)
theorem xR.noughts {b:Int} (hb:2<=b) (m:Nat):xR b (List.replicate m 48):=fun c hc=>by
 rw [List.eq_of_mem_replicate hc];exact ⟨by decide,by decide,by show (0:Int) < b;omega⟩
theorem xR.one {b:Nat} (hb:b<=16) (h:d < b):xR b [fc d]:=fun c hc=>by
 rw [List.mem_singleton.mp hc]
 have:=zBe (d:=d) (by omega)
 exact ⟨this.1,by omega,by omega⟩
def yB (b n:Nat):List Nat:=if h:n < b\/b < 2 then [fc n] else yB b (n / b)++[fc (n % b)]
termination_by n
decreasing_by exact Nat.div_lt_self (by omega) (by omega)
theorem ja {b n:Nat} (h:n < b):yB b n=[fc n]:=by rw [yB];simp [h]
theorem kr {b n:Nat} (h2:2<=b) (h:b<=n):yB b n=yB b (n / b)++[fc (n % b)]:=by rw [yB];simp [show ¬ n < b by omega,show ¬ b < 2 by omega]
theorem zAX {b:Nat} (h2:2<=b) (h16:b<=16) : ∀ (m n:Nat),n<=m->xR b (yB b n)/\val b (yB b n)=n/\yB b n≠[]/\((yB b n).getD 0 0=48->n=0):=by
 intro m
 induction m with
 | zero =>
  intro n hn
  rw [ja (by omega)]
  have e:=zBe (d:=n) (by omega)
  exact ⟨xR.one h16 (by omega),by unfold val;simp [e.2.1],by simp,fun _=>by omega⟩
 | succ m ih =>
  intro n hn
  rcases lt_or_ge n b with h | h
  ·rw [ja h]
   have e:=zBe (d:=n) (by omega)
   exact ⟨xR.one h16 (by omega),by unfold val;simp [e.2.1],by simp,fun q=>e.2.2 (by simpa using q)⟩
  ·have hd:n / b < n:=Nat.div_lt_self (by omega) (by omega)
   obtain ⟨i1,i2,i3,i4⟩:=ih (n / b) (by omega)
   have hm:=Nat.mod_lt n (show b > 0 by omega)
   rw [kr h2 h]
   refine ⟨i1.app (xR.one h16 hm),?_,by simp,fun q=>?_⟩
   ·rw [ZL,i2,(zBe (d:=n % b) (by omega)).2.1]
    have:=Nat.div_add_mod n b
    rw [Nat.mul_comm] at this
    omega
   ·rw [xr (List.length_pos_iff.mpr i3)] at q
    have:=i4 q
    have p:0 < n / b:=Nat.div_pos h (by omega)
    omega
theorem QP {b:Nat} (h2:2<=b) : ∀ (k n:Nat),n < b ^ (k+1)->(yB b n).length<=k+1
 | 0,n,h=>by rw [Nat.pow_one] at h;rw [ja h];simp
 | k+1,n,h=>by
  rcases lt_or_ge n b with h' | h'
  ·rw [ja h'];simp
  ·rw [kr h2 h',length_append]
   have:=QP h2 k (n / b) (Nat.div_lt_of_lt_mul (by rw [Nat.pow_succ,Nat.mul_comm] at h;exact h))
   simp;omega
theorem Xb {b n:Nat} (h2:2<=b) (h:n < 1766847064778384329583297500742918515827483896875618958121606201292619776):(yB b n).length<=240:=by
 refine QP h2 239 n (lt_of_lt_of_le h ?_)
 have e:(1766847064778384329583297500742918515827483896875618958121606201292619776:Nat)=2 ^ 240:=by decide +kernel
 rw [e];exact Nat.pow_le_pow_left h2 240
variable {m:Nat}
theorem WU {b:Nat} (h2:2<=b) (l:List Nat):yB b m++l=if m / b=0 then fc (m % b)::l else yB b (m / b)++fc (m % b)::l:=by
 rcases lt_or_ge m b with h' | h'
 ·rw [if_pos (Nat.div_eq_of_lt h'),ja h',mod_eq_of_lt h'];rfl
 ·have p:0 < m / b:=Nat.div_pos h' (by omega)
  rw [if_neg (by omega),kr h2 h',append_assoc];rfl
theorem zD7 (hz:xs.length<=sizeLine) (h : ∀ p,H p=none->Q (.ref p) (upd H p (.lst xs))):zHy Q xs H:=⟨hz,h⟩
theorem qR (g:zW H H') (n:H l=none):zW H (upd H' l o):=fun b u q=>by rw [ze (za q n)];exact g b u q
variable {σ:St}
theorem zGs {T:String} {r:V->List V->Hp->VK->Prop} {to:TE} (h:to σ H fun x H1=>tyV K T x H1/\r x [] H1 Q):zI7 K T r to σ H Q:=h
theorem zAQ (h:H l=some (.lst xs)) (q:Q .non (upd H l (.lst xs.reverse))):Vg (.ref l) [] H Q:=⟨l,xs,rfl,rfl,h,q⟩
def jn (m:List Nat):List (List Nat)->List Nat
 | []=>[]
 | x::xs=>x++(xs.map (m ++ ·)).flatten
theorem YC (m:Str) : ∀ (xs:List (List Nat)) (a:Array Nat),((xs.map T).foldl (fun acc p=>acc++m.cps++p.cps) a).toList=a.toList++(xs.map (Lt m ++ ·)).flatten
 | [],a=>by simp
 | x::xs,a=>by
  rw [map_cons,foldl_cons,YC m xs,map_cons,List.flatten_cons]
  simp [T]
theorem zFj (m:Str) (xs:List (List Nat)):Txt.join m (xs.map T)=T (jn (Lt m) xs):=by
 refine YR ?_
 rw [JY]
 unfold Txt.join Builtin.Str.glued
 cases xs with
 | nil=>rfl
 | cons x xs =>
  show (List.foldl (fun acc p=>acc++m.cps++p.cps) (T x).cps (xs.map T)).toList=_
  rw [YC];rfl
theorem zE9 (m:List Nat) {xs:List (List Nat)} (h:xs≠[]) (y:List Nat):jn m (xs++[y])=jn m xs++(m++y):=by
 cases xs with
 | nil=>exact absurd rfl h
 | cons x xs=>unfold jn;simp
theorem zA7 (xs:List (List Nat)):jn [] xs=xs.flatten:=by
 cases xs with
 | nil=>rfl
 | cons x xs=>unfold jn;simp
theorem zGb {m:Str} {xs:List (List Nat)} (h:xs.flatten.length+xs.length*(Lt m).length<=16777216):JoinOk m (xs.map T)=true:=by
 have e : ∀ (xs:List (List Nat)) (n:Nat),(xs.map T).foldl (fun x1 x2=>x1+x2.length+m.length) n=n+xs.flatten.length+xs.length*(Lt m).length:=by
  intro xs
  induction xs with
  | nil=>intro n;simp
  | cons x xs ih =>
   intro n
   rw [map_cons,foldl_cons,ih,List.flatten_cons,length_append,length_cons,Nat.add_mul]
   have e1:(T x).length=x.length:=rfl
   have e2:m.length=(Lt m).length:=rfl
   rw [e1,e2];omega
 unfold JoinOk Builtin.Str.tooLong
 rw [List.foldl_toArray,e,decide_eq_false (by show ¬ 0+xs.flatten.length+xs.length*(Lt m).length > 16777216;omega)]
 rfl
def zDX (K:W.Frag):V->List V->Hp->VK->Prop:=fun x vs H Q=>∃ (m:Str) (p:Addr) (xs:List (List Nat)),x = .str m/\vs=[.ref p]/\H p=some (.lst (xs.map fun l=>V.str (T l)))/\xs.flatten.length+xs.length*(Lt m).length<=16777216/\Q (.str (T (jn (Lt m) xs))) H
theorem Xx : ∀ {xs:List (List Nat)} {us:List Value},qE (xs.map fun l=>V.str (T l)) us -> ∃ ts:List (Str × Tok),us=strValues ts/\ts.map (fun x=>x.1)=xs.map T
 | [],_,.nil=>⟨[],rfl,rfl⟩
 | x::xs,_,.cons r t=>by
  obtain ⟨ts,rfl,e⟩:=Xx t
  obtain ⟨u,rfl⟩:=r
  exact ⟨(T x,u)::ts,rfl,by rw [map_cons,map_cons,e]⟩
theorem QK:MtR X "str.join" (zDX X.K):=by
 intro pins s σ H x vs v us Q I rx rv h
 obtain ⟨m,p,xs,rfl,rfl,hH,hz,q⟩:=h
 obtain ⟨t,rfl⟩:=rx
 obtain ⟨u,rfl,ru⟩:=rv.one
 cases ru
 obtain ⟨its,r,pl,_⟩:=I.list (SqL.of hH)
 obtain ⟨ts,rfl,e⟩:=Xx r
 exact SC.join pl.isList e (zGb hz) fun t' k=>⟨.str _,H,I.tok _,⟨t',rfl⟩,by rw [zFj];exact q⟩
theorem Xe {m:Str} {p:Addr} {xs:List (List Nat)} (h:H p=some (.lst (xs.map fun l=>V.str (T l)))) (hz:xs.flatten.length+xs.length*(Lt m).length<=16777216) (q:Q (.str (T (jn (Lt m) xs))) H):zDX K (.str m) [.ref p] H Q:=⟨m,p,xs,rfl,rfl,h,hz,q⟩
def pcs (a:List Nat) (z g e:Nat):List (List Nat):=if h:e=0\/z=0 then [] else pcs a z g (e - z - g)++[(a.take e).drop (e - z)]
termination_by e
decreasing_by omega
theorem xZ (a:List Nat) (z g:Nat):pcs a z g 0=[]:=by rw [pcs];simp
variable {z:Nat}
theorem QR {a:List Nat} {g e:Nat} (hz:0 < z) (h:0 < e):pcs a z g e=pcs a z g (e - z - g)++[(a.take e).drop (e - z)]:=by
 rw [pcs];rw [dif_neg (by omega)]
theorem Vm {a:List Nat} {z g:Nat} (hz:0 < z) : ∀ (m e:Nat),e<=m->(pcs a z g e).flatten.length<=e/\(pcs a z g e).length<=e
 | 0,e,h=>by rw [show e=0 by omega,xZ];simp
 | m+1,e,h=>by
  rcases eq_zero_or_pos e with p | p
  ·rw [p,xZ];simp
  ·obtain ⟨i1,i2⟩:=Vm (a:=a) (g:=g) hz m (e - z - g) (by omega)
   rw [QR hz p]
   simp only [List.flatten_append,length_append,List.flatten_cons,List.flatten_nil,List.append_nil,length_drop,length_take,length_cons,List.length_nil]
   have mn:=Nat.min_le_left e a.length
   have d1:e - z - g<=e - z:=Nat.sub_le _ _
   have d2:e - z+z=e\/e - z=0:=by omega
   generalize min e a.length=M at *
   generalize (pcs a z g (e - z - g)).flatten.length=X at *
   generalize (pcs a z g (e - z - g)).length=Y at *
   generalize e - z - g=D at *
   generalize e - z=F at *
   clear h
   exact ⟨by omega,by omega⟩
def RJ (z m:Nat) (b:List Nat):List Nat:=if h:b.length<=z\/z=0 then b else b.take z++m::RJ z m (b.drop z)
termination_by b.length
decreasing_by rw [length_drop];omega
theorem x4 {b:List Nat} (h:b.length<=z):RJ z m b=b:=by rw [RJ];simp [h]
theorem QV {b:List Nat}:RJ 0 m b=b:=by rw [RJ];simp
theorem JW {b:List Nat} (hz:0 < z) (h:z < b.length):RJ z m b=b.take z++m::RJ z m (b.drop z):=by
 rw [RJ];rw [dif_neg (by omega)]
theorem zCo {z m:Nat} : ∀ (k:Nat) (b:List Nat),b.length<=k->b.length<=(RJ z m b).length/\(RJ z m b).length<=2*b.length
 | 0,b,h=>by rw [x4 (by omega)];omega
 | k+1,b,h=>by
  rcases eq_zero_or_pos z with p | p
  ·subst p;rw [QV];omega
  ·rcases lt_or_ge z b.length with q | q
   ·have ih:=zCo (z:=z) (m:=m) k (b.drop z) (by rw [length_drop];omega)
    rw [length_drop] at ih
    rw [JW p q,length_append,length_take,length_cons]
    omega
   ·rw [x4 q];omega
theorem zAD {z m x:Nat} (hz:0 < z) : ∀ (k:Nat) (c:List Nat),c.length<=k->RJ z m (c++[x])=RJ z m c++((if 0 < c.length/\c.length % z=0 then [m] else [])++[x])
 | 0,c,h=>by
  have e:c=[]:=eq_nil_of_length_eq_zero (by omega)
  subst e
  rw [x4 (by simp;omega),x4 (by simp)];simp
 | k+1,c,h=>by
  rcases Nat.lt_trichotomy c.length z with p | p | p
  ·rw [x4 (by simp;omega),x4 (by omega),if_neg (by
    intro q;rw [mod_eq_of_lt p] at q;omega)];simp
  ·rw [JW hz (by simp;omega),x4 (b:=c) (by omega),if_pos ⟨by omega,by rw [p];exact Nat.mod_self z⟩]
   rw [take_append_of_le_length (by omega),take_of_length_le (by omega),List.drop_append_of_le_length (by omega),drop_of_length_le (by omega),x4 (by simp;omega)]
   simp
  ·rw [JW hz (by simp;omega),JW (b:=c) hz p]
   rw [take_append_of_le_length (by omega),List.drop_append_of_le_length (by omega),zAD hz k (c.drop z) (by rw [length_drop];omega),length_drop]
   have e:(c.length - z) % z=c.length % z:=(Nat.mod_eq_sub_mod (by omega)).symm
   rw [e,append_assoc,List.cons_append]
   have e2:(0 < c.length - z/\c.length % z=0)=(0 < c.length/\c.length % z=0):=propext ⟨fun q=>⟨by omega,q.2⟩,fun q=>⟨by omega,q.2⟩⟩
   simp only [e2]
theorem zCr {a:List Nat} {z m:Nat} (hz:0 < z) : ∀ (k e:Nat),e<=k->e<=a.length->(jn [m] (pcs a z 0 e)).reverse=RJ z m (a.take e).reverse
 | 0,e,h,_=>by rw [show e=0 by omega,xZ,x4 (by simp)];simp [jn]
 | k+1,e,h,ha=>by
  rcases eq_zero_or_pos e with p | p
  ·rw [p,xZ,x4 (by simp)];simp [jn]
  ·rw [QR hz p,Nat.sub_zero]
   have le:(a.take e).length=e:=by rw [length_take];omega
   rcases lt_or_ge z e with q | q
   ·have ih:=zCr (a:=a) (m:=m) hz k (e - z) (by omega) (by omega)
    have ne:pcs a z 0 (e - z)≠[]:=by rw [QR hz (by omega)];simp
    rw [zE9 _ ne,List.reverse_append,List.reverse_append,ih,JW (b:=(a.take e).reverse) hz (by rw [length_reverse];omega),List.take_reverse,List.drop_reverse,le]
    rw [List.take_take,Nat.min_eq_left (show e - z<=e by omega)]
    simp
   ·rw [show e - z=0 by omega,xZ,x4 (by rw [length_reverse];omega)]
    simp [jn]
def gr (z m:Nat) (a:List Nat):List Nat:=(RJ z m a.reverse).reverse
theorem zI1 {a:List Nat} (hz:0 < z):jn [m] (pcs a z 0 a.length)=gr z m a:=by
 have:=zCr (m:=m) hz a.length a.length (Nat.le_refl _) (Nat.le_refl _)
 rw [take_length] at this
 unfold gr
 rw [<- this,reverse_reverse]
theorem Vr {a:List Nat}:a.length<=(gr z m a).length/\(gr z m a).length<=2*a.length:=by
 have:=zCo (z:=z) (m:=m) a.reverse.length a.reverse (Nat.le_refl _)
 unfold gr;rw [length_reverse] at this ⊢;exact this
def UJ (z:Nat) (c:List Nat):List Nat:=if h:c.length=0\/z=0 then [] else c.take z++UJ z (c.drop (z+1))
termination_by c.length
decreasing_by rw [length_drop];omega
theorem xy:UJ z []=[]:=by rw [UJ];simp
theorem kQ {c:List Nat} (hz:0 < z) (h:0 < c.length):UJ z c=c.take z++UJ z (c.drop (z+1)):=by rw [UJ];rw [dif_neg (by omega)]
theorem zGN {z m:Nat} (hz:0 < z) : ∀ (k:Nat) (b:List Nat),b.length<=k->UJ z (RJ z m b)=b
 | 0,b,h=>by rw [eq_nil_of_length_eq_zero (show b.length=0 by omega),x4 (by simp),xy]
 | k+1,b,h=>by
  rcases eq_zero_or_pos b.length with p | p
  ·rw [eq_nil_of_length_eq_zero p,x4 (by simp),xy]
  ·rcases lt_or_ge z b.length with q | q
   ·rw [JW hz q,kQ hz (by rw [length_append,length_cons];omega)]
    have l1:(b.take z).length=z:=by rw [length_take];omega
    rw [take_append_of_le_length (by omega),take_of_length_le (by omega),List.drop_append,l1,drop_of_length_le (by omega)]
    rw [show z+1 - z=1 by omega]
    show b.take z++UJ z (RJ z m (b.drop z))=b
    rw [zGN hz k (b.drop z) (by rw [length_drop];omega),List.take_append_drop]
   ·rw [x4 q,kQ hz p,take_of_length_le q,drop_of_length_le (by omega),xy,List.append_nil]
theorem zDL {a:List Nat} {z:Nat} (hz:0 < z) : ∀ (k e:Nat),e<=k->e<=a.length->(pcs a z 1 e).flatten.reverse=UJ z (a.take e).reverse
 | 0,e,h,_=>by rw [show e=0 by omega,xZ];simp [xy]
 | k+1,e,h,ha=>by
  rcases eq_zero_or_pos e with p | p
  ·rw [p,xZ];simp [xy]
  ·have le:(a.take e).length=e:=by rw [length_take];omega
   have ih:=zDL (a:=a) hz k (e - z - 1) (by omega) (by omega)
   rw [QR hz p,List.flatten_append,List.reverse_append,ih,kQ (c:=(a.take e).reverse) hz (by rw [length_reverse];omega),List.take_reverse,List.drop_reverse,le,List.take_take,Nat.min_eq_left (show e - (z+1)<=e by omega)]
   simp
   rw [show e - (z+1)=e - z - 1 by omega]
def ug (z:Nat) (a:List Nat):List Nat:=if z=0 then a else (UJ z a.reverse).reverse
theorem zHG {a:List Nat} (hz:0 < z):(pcs a z 1 a.length).flatten=ug z a:=by
 have:=zDL hz a.length a.length (Nat.le_refl _) (Nat.le_refl _)
 rw [take_length] at this
 unfold ug
 rw [if_neg (by omega),<- this,reverse_reverse]
theorem zCH (z m:Nat) (a:List Nat):ug z (gr z m a)=a:=by
 unfold ug gr
 split
 ·rename_i h;subst h;rw [QV,reverse_reverse]
 ·rename_i h
  rw [reverse_reverse,zGN (by omega) a.reverse.length a.reverse (Nat.le_refl _),reverse_reverse]
theorem ZY {a:List Nat}:gr 0 m a=a:=by unfold gr;rw [QV,reverse_reverse]
theorem VE {a:List Nat} (hk:k < a.length):gr z m (a.drop (a.length - (k+1)))=a.getD (a.length - 1 - k) 0::((if 0 < z/\0 < k/\k % z=0 then [m] else [])++gr z m (a.drop (a.length - k))):=by
 have e:a.drop (a.length - (k+1))=a.getD (a.length - 1 - k) 0::a.drop (a.length - k):=by
  rw [List.drop_eq_getElem_cons (by omega),getD_eq_getElem?_getD,getElem?_eq_getElem (by omega)]
  congr 2 <;> omega
 have lk:(a.drop (a.length - k)).length=k:=by rw [length_drop];omega
 rcases eq_zero_or_pos z with p | p
 ·subst p;rw [ZY,ZY,e,if_neg (by omega)];rfl
 ·rw [e]
  unfold gr
  rw [List.reverse_cons,zAD p _ _ (Nat.le_refl _),length_reverse,lk]
  by_cases q:0 < k/\k % z=0
  ·rw [if_pos q,if_pos ⟨p,q⟩];simp
  ·rw [if_neg q,if_neg (fun h=>q h.2)];simp
variable {ts:List (List Nat)}
theorem zFi {p:Addr} (h:SqL K H p (ts.map fun l=>V.str (T l))) (h0:0<=i) (h1:i < ts.length) (q:Q (.str (T (ts.getD i.toNat []))) H):zCM K (.ref p) (.int i) H Q:=by
 refine ZT h h0 (by rw [length_map];exact h1) fun x hx=>?_
 have h2:i.toNat < ts.length:=by omega
 rw [getElem?_map,getElem?_eq_getElem h2] at hx
 cases hx
 rw [getD_eq_getElem?_getD,getElem?_eq_getElem h2] at q
 exact q
section
variable {X : Cx} {H : Hp} {Q : VK} {K : W.Frag}
def zIt:R2:=fun x y H Q=>y = .non/\Q (.bl (decide (x = .non))) H
theorem zDv:OpR X (compareOp .Is) zIt:=zFQ
theorem zGS (q:Q (.bl true) H):zIt .non .non H Q:=⟨rfl,by rw [decide_eq_true rfl];exact q⟩
theorem zGL (q:Q (.bl false) H):zIt (.str x) .non H Q:=⟨rfl,by rw [decide_eq_false (fun z=>nomatch z)];exact q⟩
inductive NT (H:Hp):V->Prop where
 | int (i:Int):NT H (.int i)
 | non:NT H .non
 | bl (b:Bool):NT H (.bl b)
 | lst {p:Addr} {xs:List V} (e:H p=some (.lst xs)):NT H (.ref p)
 | tup {p:Addr} {xs:List V} (e:H p=some (.tup xs)):NT H (.ref p)
 | dct {p:Addr} (e:H p=some (zH0 p)):NT H (.ref p)
theorem NT.same {v:V} (h:NT H v) (g:zW H H'):NT H' v:=by
 cases h with
 | int i=>exact .int i
 | non=>exact .non
 | bl b=>exact .bl b
 | lst e=>exact .lst (g _ _ e)
 | tup e=>exact .tup (g _ _ e)
 | dct e=>exact .dct (g _ _ e)
def Asc (l:List Nat):Prop:=∀ c ∈ l,c < 127
theorem Asc.nil:Asc []:=fun _ h=>nomatch h
theorem Asc.app {l m:List Nat} (h:Asc l) (h':Asc m):Asc (l++m):=fun c hc=>(List.mem_append.mp hc).elim (h c) (h' c)
theorem Asc.one {c:Nat} (h:c < 127):Asc [c]:=fun d hd=>by rw [List.mem_singleton.mp hd];exact h
theorem Asc.take {l:List Nat} (h:Asc l) (n:Nat):Asc (l.take n):=fun c hc=>h c (List.mem_of_mem_take hc)
theorem Asc.drop {l:List Nat} (h:Asc l) (n:Nat):Asc (l.drop n):=fun c hc=>h c (List.mem_of_mem_drop hc)
theorem Asc.rep {l:List Nat} (h:Asc l) (n:Nat):Asc (List.replicate n l).flatten:=fun c hc=>by
 obtain ⟨m,hm,hc⟩:=List.mem_flatten.mp hc
 rw [List.eq_of_mem_replicate hm] at hc
 exact h c hc
theorem xR.asc {b:Int} {l:List Nat} (h:xR b l):Asc l:=fun c hc=>(h c hc).1
theorem xR.snoc {b:Int} {l:List Nat} {i c:Nat} (h:xR b (l.take i)) (hi:l[i]? = some c) (h1:c < 127) (h2:0<=fv c) (h3:fv c < b):xR b (l.take (i+1)):=by
 rw [List.take_succ,hi]
 refine h.app fun d hd=>?_
 rw [List.mem_singleton.mp hd];exact ⟨h1,h2,h3⟩
end
theorem qi {l:List Nat} {j:Nat} (e:x=T l):PE X (.Constant (.str x) j pos) (tC (.str (T l))):=by
 rw [<- e];exact zY
theorem W6 {z x:Nat} (hz:0 < z) : ∀ (k:Nat) (c:List Nat),c.length<=k->UJ z (c++[x])=UJ z c++(if c.length % (z+1)=z then [] else [x])
 | 0,c,h=>by
  have e:c=[]:=eq_nil_of_length_eq_zero (by omega)
  subst e
  rw [kQ hz (by simp),xy,if_neg (by simp;omega),List.nil_append,take_of_length_le (by simp;omega),drop_of_length_le (by simp),xy];simp
 | k+1,c,h=>by
  rcases eq_zero_or_pos c.length with p0 | p0
  ·have e:c=[]:=eq_nil_of_length_eq_zero p0
   subst e
   rw [kQ hz (by simp),xy,if_neg (by simp;omega),List.nil_append,take_of_length_le (by simp;omega),drop_of_length_le (by simp),xy];simp
  rw [kQ hz (by simp),kQ hz p0]
  rcases Nat.lt_trichotomy c.length z with p | p | p
  ·rw [take_of_length_le (by simp;omega),take_of_length_le (by omega),drop_of_length_le (by simp;omega),drop_of_length_le (by omega),xy,if_neg (by rw [mod_eq_of_lt (by omega)];omega)];simp
  ·rw [take_append_of_le_length (by omega),drop_of_length_le (by simp;omega),drop_of_length_le (by omega),xy,if_pos (by rw [mod_eq_of_lt (by omega)];exact p)];simp
  ·rw [take_append_of_le_length (by omega),List.drop_append_of_le_length (by omega),W6 hz k (c.drop (z+1)) (by rw [length_drop];omega),length_drop,<- Nat.mod_eq_sub_mod (by omega),append_assoc]
theorem Qm {z m:Nat} (hz:0 < z) : ∀ (k:Nat) (b:List Nat),b.length<=k->1<=b.length->(RJ z m b).length=b.length+(b.length - 1) / z
 | 0,b,h,h1=>by omega
 | k+1,b,h,h1=>by
  rcases lt_or_ge z b.length with q | q
  ·have ih:=Qm (m:=m) hz k (b.drop z) (by rw [length_drop];omega) (by rw [length_drop];omega)
   rw [length_drop] at ih
   rw [JW hz q,length_append,length_take,length_cons,ih]
   have e:(b.length - 1) / z=(b.length - z - 1) / z+1:=by
    rw [Nat.div_eq_sub_div hz (by omega),show b.length - 1 - z=b.length - z - 1 by omega]
   omega
  ·rw [x4 q,Nat.div_eq_of_lt (by omega)];omega
theorem J4 {c:List Nat} (hz:0 < z) (h:0 < c.length):0 < (UJ z c).length:=by
 rw [kQ hz h,length_append,length_take];omega
theorem zFW {z m:Nat} (hz:0 < z) : ∀ (k:Nat) (c:List Nat),c.length<=k->c.length % (z+1)≠0->(∀ j,j < c.length->j % (z+1)=z->c.getD j 0=m)->RJ z m (UJ z c)=c
 | 0,c,h,h0,_=>by rw [show c.length=0 by omega] at h0;simp at h0
 | k+1,c,h,h0,hm=>by
  have p0:0 < c.length:=by
   rcases eq_zero_or_pos c.length with p | p
   ·rw [p] at h0;simp at h0
   ·exact p
  rcases Nat.lt_trichotomy c.length (z+1) with q | q | q
  ·rw [kQ hz p0,take_of_length_le (by omega),drop_of_length_le (by omega),xy,List.append_nil,x4 (by omega)]
  ·rw [q,Nat.mod_self] at h0;exact absurd rfl h0
  ·have l1:(c.take z).length=z:=by rw [length_take];omega
   have l2:(c.drop (z+1)).length=c.length - (z+1):=length_drop ..
   have ih:=zFW (m:=m) hz k (c.drop (z+1)) (by omega) (by rw [l2,<- Nat.mod_eq_sub_mod (by omega)];exact h0) (fun j hj he=>by
    have z1:=hm (z+1+j) (by omega) (by rw [Nat.add_mod_left];exact he)
    rw [getD_eq_getElem?_getD] at z1 ⊢
    rw [List.getElem?_drop];exact z1)
   have up:=J4 (c:=c.drop (z+1)) hz (by omega)
   rw [kQ hz p0,JW hz (by rw [length_append,l1];omega),take_append_of_le_length (by omega),take_of_length_le (by omega),List.drop_append_of_le_length (by omega),drop_of_length_le (by omega),List.nil_append,ih]
   have cz:=hm z (by omega) (mod_eq_of_lt (by omega))
   rw [getD_eq_getElem?_getD,getElem?_eq_getElem (by omega)] at cz
   have cz':c[z]=m:=cz
   rw [<- cz',<- List.drop_eq_getElem_cons,List.take_append_drop]
def GG (z m:Nat) (t:List Nat):Prop:=1<=(ug z t).length/\(ug z t).length<=40/\gr z m (ug z t)=t
theorem GG.len {t:List Nat} (h:GG z m t):(ug z t).length+(if 0 < z then ((ug z t).length - 1) / z else 0)=t.length:=by
 have e:=congrArg List.length h.2.2
 rcases eq_zero_or_pos z with p | p
 ·subst p;rw [ZY] at e;simp;exact e
 ·unfold gr at e
  rw [length_reverse,Qm p _ _ (Nat.le_refl _) (by rw [length_reverse];exact h.1),length_reverse] at e
  rw [if_pos p];exact e
theorem Xd {l:List Nat} {j:Nat} (h:j < l.length):l.reverse.getD j 0=l.getD (l.length - 1 - j) 0:=by
 rw [getD_eq_getElem?_getD,getD_eq_getElem?_getD,List.getElem?_reverse h]
theorem zBc {a b:Nat} (h1:1<=a) (h2:1<=b) (h:a+(a - 1) / z=b+(b - 1) / z):a=b:=by
 rcases Nat.lt_trichotomy a b with p | p | p
 ·have:=Nat.div_le_div_right (c:=z) (show a - 1<=b - 1 by omega);omega
 ·exact p
 ·have:=Nat.div_le_div_right (c:=z) (show b - 1<=a - 1 by omega);omega
theorem GG.of {many:Nat} {t:List Nat} (h1:1<=many) (h2:many<=40) (hl:many+(if 0 < z then (many - 1) / z else 0)=t.length) (hm:0 < z -> ∀ k,k < t.length->(t.length - 1 - k) % (z+1)=z->t.getD k 0=m):GG z m t:=by
 rcases eq_zero_or_pos z with p | p
 ·subst p
  have e:ug 0 t=t:=rfl
  unfold GG;rw [e,ZY];simp at hl;exact ⟨by omega,by omega,rfl⟩
 ·rw [if_pos p] at hl
  have hn:t.length % (z+1)≠0:=by
   have d:=Nat.div_add_mod (many - 1) z
   have r:=Nat.mod_lt (many - 1) p
   generalize (many - 1) / z=q at *
   generalize (many - 1) % z=r' at *
   have e:t.length=r'+1+(z+1)*q:=by rw [Nat.add_mul,Nat.one_mul];omega
   rw [e,Nat.add_mul_mod_self_left,mod_eq_of_lt (by omega)];omega
  have rj:=zFW (m:=m) p _ t.reverse (Nat.le_refl _) (by rw [length_reverse];exact hn) (fun j hj he=>by
   rw [length_reverse] at hj
   rw [Xd hj]
   exact hm p _ (by omega) (by rw [show t.length - 1 - (t.length - 1 - j)=j by omega];exact he))
  have e:ug z t=(UJ z t.reverse).reverse:=by unfold ug;rw [if_neg (by omega)]
  have tp:0 < t.length:=lt_of_lt_of_le (show 0 < many by omega) (by rw [<- hl];exact Nat.le_add_right _ _)
  have up:=J4 (c:=t.reverse) p (by rw [length_reverse];exact tp)
  have ln:=Qm (m:=m) p _ (UJ z t.reverse) (Nat.le_refl _) up
  rw [rj,length_reverse] at ln
  have em:=zBc (z:=z) (a:=(UJ z t.reverse).length) (b:=many) up h1 (by omega)
  refine ⟨by rw [e,length_reverse];omega,by rw [e,length_reverse];omega,?_⟩
  rw [e];unfold gr;rw [reverse_reverse,rj,reverse_reverse]
theorem zGt {t:List Nat}:(ug z t).length<=t.length:=by
 rcases eq_zero_or_pos z with p | p
 ·subst p;exact Nat.le_refl _
 ·rw [<- zHG p];exact (Vm p _ _ (Nat.le_refl _)).1
section
variable {σ : St} {H : Hp} {Q : VK} {D : yr} {K : W.Frag}
def zDC (g:TG) (tb:TS) (D:yr) (σ:St) (vs:List V) (H:Hp):Prop:=∃ i j:Int,vs=[.int i,.int j]/\(-(2 ^ 62)<=i/\i < 2 ^ 62 /\ -(2 ^ 62)<=j/\j < 2 ^ 62) /\ ∃ W:Nat->Nat->St->Hp->Prop,(∃ m,W 0 m σ H) /\ ∀ k m σ H,W k m σ H ->
 ((Itr i (j - i).toNat).stop k H/\D.nx σ H)\/((Itr i (j - i).toNat).go k H /\ ∃ N:St->Hp->Prop,(∀ σ' H',N σ' H' -> ∃ m',m' < m/\W (k+1) m' σ' H') /\ ∀ x H',(Itr i (j - i).toNat).yld k H x H'->g x σ H' fun σ2 H2=>tb { D with nx:=N,ct:=N,bk:=D.nx } σ2 H2)
theorem zD9 {ta:TA} {g:TG} {tb:TS} (h:ta σ H (zDC g tb D σ)):zEq (zHM ta) g tb D σ H:=h
theorem KC {g:TG} {tb:TS} (hb : -(2 ^ 62)<=i/\i < 2 ^ 62 /\ -(2 ^ 62)<=j/\j < 2 ^ 62) (Pv:Nat->St->Hp->Prop) (h0:Pv 0 σ H)
  (hs : ∀ k σ H,k < (j - i).toNat->Pv k σ H->g (.int (i+k)) σ H fun σ2 H2=>tb { D with nx:=Pv (k+1),ct:=Pv (k+1),bk:=D.nx } σ2 H2) (hd : ∀ σ H,Pv (j - i).toNat σ H->D.nx σ H):zDC g tb D σ [.int i,.int j] H:=⟨i,j,rfl,hb,Xo Pv h0 hs hd⟩
end
def KD (w:World) (K:W.Frag) (d:Addr) (z:Str) (v:Addr):Prop:=∃ (es:Array DictEntry) (n:Nat),K.lookup d=some { cls:=.type "dict", data:=.dict es n }/\(∀ e,e ∈ es -> ∃ k,Value.isStrOf k e.key=true/\e.hash=hashStr w k)/\findBy Value.isStrOf es z=some (.ref v)
def zJF (w:World) (K:W.Frag):R2:=fun x y H Q=>∃ d z v,x = .ref d/\y = .str z/\KD w K d z v/\Q (.ref v) H
section
variable {X : Cx} {H : Hp} {Q : VK} {K : W.Frag} {w : World}
theorem zFP:IxR X (zJF X.w X.K):=by
 intro value slice pins s σ H x y v u Q I rx ry h hs
 obtain ⟨d,z,p,rfl,rfl,⟨es,n,lk,ks,f⟩,q⟩:=h
 cases rx
 obtain ⟨t,rfl⟩:=ry
 have ho:=I.kIn d _ lk
 have fin : ∀ k,EP X pins σ Q (.ref p) { s with toks:=k }:=fun k=>⟨.ref p,H,I.tok _,rfl,q⟩
 exact subscriptTail_builtinR (x:=.ref p) ⟨_,ho,rfl⟩ slot_dict_getitem.lookup
  (wpAny_getItem_of (knd:=PySem.strKind X.prog X.w) (k:=z) (f:=fun k=>findBy Value.isStrOf es k) (Q:=fun r s'=>r = .ref p/\EP X pins σ Q r s') (by simp [PySem.strKind,Value.isStrOf]) ⟨_,es,n,ho,⟨rfl,rfl,rfl⟩,rfl,ks,fun k=>rfl⟩ f ⟨rfl,fin _⟩) hs
theorem zHW {d v:Addr} {z:Str} (h:KD w K d z v) (q:Q (.ref v) H):zJF w K (.ref d) (.str z) H Q:=⟨d,z,v,rfl,rfl,h,q⟩
theorem zFJ {p:Addr} {v:V} (h:SqT K H p xs) (e:atI xs i=some v) (q:Q v H):zCD K (.ref p) (.int i) H Q:=⟨p,xs,i,v,rfl,rfl,h,e,q⟩
theorem SqT.same {p:Addr} (h:SqT K H p xs) (e:zW H H'):SqT K H' p xs:=by
 rcases h with h | h
 ·rcases h with h | ⟨o,h⟩
  ·exact .inl (.inl (e _ _ h))
  ·exact .inl (.inr ⟨o,e _ _ h⟩)
 ·exact .inr h
theorem SqT.mod {p:Addr} {its:List Value} {n:Nat} (lk:K.lookup p=some { cls:=.type "tuple", data:=.seq its.toArray n }) (hz:its.length<=1000) (r:qE xs its):SqT K H p xs:=.inr ⟨_,its.toArray,n,lk,rfl,rfl,qm (by simpa using hz),by simpa using r⟩
end
def stL (x:Str) (b:Bool):List Nat:=if x = "minus" then (if b then [45] else []) else if x = "plus" then (if b then [45] else [43]) else if x = "blank" then (if b then [45] else [32]) else if x = "brackets" then (if b then [40] else []) else []
def stT (x:Str) (b:Bool):List Nat:=if x = "minus" then [] else if x = "plus" then [] else if x = "blank" then [] else if x = "brackets" then (if b then [41] else []) else (if b then [45] else [])
def kD (x:Str):Prop:=x = "minus" \/ x = "plus" \/ x = "blank" \/ x = "brackets" \/ x = "behind"
theorem qz (b:Bool):stL "minus" b=(if b then [45] else [])/\stT "minus" b=[]:=by unfold stL stT;cases b <;> decide +kernel
theorem jr (b:Bool):stL "plus" b=(if b then [45] else [43])/\stT "plus" b=[]:=by unfold stL stT;cases b <;> decide +kernel
theorem jB (b:Bool):stL "blank" b=(if b then [45] else [32])/\stT "blank" b=[]:=by unfold stL stT;cases b <;> decide +kernel
theorem z7 (b:Bool):stL "brackets" b=(if b then [40] else [])/\stT "brackets" b=(if b then [41] else []):=by unfold stL stT;cases b <;> decide +kernel
theorem qW (b:Bool):stL "behind" b=[]/\stT "behind" b=(if b then [45] else []):=by unfold stL stT;cases b <;> decide +kernel
theorem Jb (h:kD x) (b:Bool):(stL x b).length<=1/\(stT x b).length<=1:=by
 rcases h with rfl | rfl | rfl | rfl | rfl
 ·rw [(qz b).1,(qz b).2];cases b <;> decide
 ·rw [(jr b).1,(jr b).2];cases b <;> decide
 ·rw [(jB b).1,(jB b).2];cases b <;> decide
 ·rw [(z7 b).1,(z7 b).2];cases b <;> decide
 ·rw [(qW b).1,(qW b).2];cases b <;> decide
def Sty (w:World) (K:W.Frag) (d:Addr):Prop:=∀ (x:Str),kD x -> ∃ p a b:Addr,KD w K d x p /\ ∀ H:Hp,SqT K H p [.ref a,.ref b]/\SqT K H a [.str (T (stL x false)),.str (T (stT x false))]/\SqT K H b [.str (T (stL x true)),.str (T (stT x true))]
theorem sty_mk {d:Addr} {n0:Nat} {t0:Tok} {p0 a0 b0:Addr} {n01 n02 n03:Nat} {u01 u02 u03 u04:Tok} {t1:Tok} {p1 a1 b1:Addr} {n11 n12 n13:Nat} {u11 u12 u13 u14:Tok} {t2:Tok} {p2 a2 b2:Addr} {n21 n22 n23:Nat} {u21 u22 u23 u24:Tok} {t3:Tok} {p3 a3 b3:Addr} {n31 n32 n33:Nat} {u31 u32 u33 u34:Tok} {t4:Tok} {p4 a4 b4:Addr} {n41 n42 n43:Nat} {u41 u42 u43 u44:Tok}
  (hd:K.lookup d=some { cls:=.type "dict", data:=.dict #[⟨PyData.keyHash w.params "minus", .str "minus" t0,.ref p0⟩,⟨PyData.keyHash w.params "plus", .str "plus" t1,.ref p1⟩,⟨PyData.keyHash w.params "blank", .str "blank" t2,.ref p2⟩,⟨PyData.keyHash w.params "brackets", .str "brackets" t3,.ref p3⟩,⟨PyData.keyHash w.params "behind", .str "behind" t4,.ref p4⟩] n0 })
  (hp0:K.lookup p0=some { cls:=.type "tuple", data:=.seq #[.ref a0,.ref b0] n01 })
  (ha0:K.lookup a0=some { cls:=.type "tuple", data:=.seq #[.str "" u01,.str "" u02] n02 })
  (hb0:K.lookup b0=some { cls:=.type "tuple", data:=.seq #[.str "-" u03,.str "" u04] n03 })
  (hp1:K.lookup p1=some { cls:=.type "tuple", data:=.seq #[.ref a1,.ref b1] n11 })
  (ha1:K.lookup a1=some { cls:=.type "tuple", data:=.seq #[.str "+" u11,.str "" u12] n12 })
  (hb1:K.lookup b1=some { cls:=.type "tuple", data:=.seq #[.str "-" u13,.str "" u14] n13 })
  (hp2:K.lookup p2=some { cls:=.type "tuple", data:=.seq #[.ref a2,.ref b2] n21 })
  (ha2:K.lookup a2=some { cls:=.type "tuple", data:=.seq #[.str " " u21,.str "" u22] n22 })
  (hb2:K.lookup b2=some { cls:=.type "tuple", data:=.seq #[.str "-" u23,.str "" u24] n23 })
  (hp3:K.lookup p3=some { cls:=.type "tuple", data:=.seq #[.ref a3,.ref b3] n31 })
  (ha3:K.lookup a3=some { cls:=.type "tuple", data:=.seq #[.str "" u31,.str "" u32] n32 })
  (hb3:K.lookup b3=some { cls:=.type "tuple", data:=.seq #[.str "(" u33,.str ")" u34] n33 })
  (hp4:K.lookup p4=some { cls:=.type "tuple", data:=.seq #[.ref a4,.ref b4] n41 })
  (ha4:K.lookup a4=some { cls:=.type "tuple", data:=.seq #[.str "" u41,.str "" u42] n42 })
  (hb4:K.lookup b4=some { cls:=.type "tuple", data:=.seq #[.str "" u43,.str "-" u44] n43 }):Sty w K d:=by
 have ks : ∀ e,e ∈ (#[⟨PyData.keyHash w.params "minus", .str "minus" t0,.ref p0⟩,⟨PyData.keyHash w.params "plus", .str "plus" t1,.ref p1⟩,⟨PyData.keyHash w.params "blank", .str "blank" t2,.ref p2⟩,⟨PyData.keyHash w.params "brackets", .str "brackets" t3,.ref p3⟩,⟨PyData.keyHash w.params "behind", .str "behind" t4,.ref p4⟩]:Array DictEntry) -> ∃ k,Value.isStrOf k e.key=true/\e.hash=hashStr w k:=by
  intro e he
  simp only [List.mem_toArray,mem_cons,List.not_mem_nil,or_false] at he
  rcases he with rfl | rfl | rfl | rfl | rfl
  ·exact ⟨"minus", by simp [Value.isStrOf],rfl⟩
  ·exact ⟨"plus", by simp [Value.isStrOf],rfl⟩
  ·exact ⟨"blank", by simp [Value.isStrOf],rfl⟩
  ·exact ⟨"brackets", by simp [Value.isStrOf],rfl⟩
  ·exact ⟨"behind", by simp [Value.isStrOf],rfl⟩
 intro x hx
 rcases hx with rfl | rfl | rfl | rfl | rfl
 ·refine ⟨p0,a0,b0,⟨_,_,hd,ks,?_⟩,fun H=>⟨.mod hp0 (by simp) (.cons rfl (.cons rfl .nil)),.mod ha0 (by simp) (.cons ⟨u01,?_⟩ (.cons ⟨u02,?_⟩ .nil)),.mod hb0 (by simp) (.cons ⟨u03,?_⟩ (.cons ⟨u04,?_⟩ .nil))⟩⟩
  ·unfold findBy
   simp only [find?_toArray,find?_cons]
   rfl
  ·exact congrArg (fun z=>Value.str z _) (by rw [(qz _).1];decide +kernel)
  ·exact congrArg (fun z=>Value.str z _) (by rw [(qz _).2];decide +kernel)
  ·exact congrArg (fun z=>Value.str z _) (by rw [(qz _).1];decide +kernel)
  ·exact congrArg (fun z=>Value.str z _) (by rw [(qz _).2];decide +kernel)
 ·refine ⟨p1,a1,b1,⟨_,_,hd,ks,?_⟩,fun H=>⟨.mod hp1 (by simp) (.cons rfl (.cons rfl .nil)),.mod ha1 (by simp) (.cons ⟨u11,?_⟩ (.cons ⟨u12,?_⟩ .nil)),.mod hb1 (by simp) (.cons ⟨u13,?_⟩ (.cons ⟨u14,?_⟩ .nil))⟩⟩
  ·unfold findBy
   simp only [find?_toArray,find?_cons]
   rfl
  ·exact congrArg (fun z=>Value.str z _) (by rw [(jr _).1];decide +kernel)
  ·exact congrArg (fun z=>Value.str z _) (by rw [(jr _).2];decide +kernel)
  ·exact congrArg (fun z=>Value.str z _) (by rw [(jr _).1];decide +kernel)
  ·exact congrArg (fun z=>Value.str z _) (by rw [(jr _).2];decide +kernel)
 ·refine ⟨p2,a2,b2,⟨_,_,hd,ks,?_⟩,fun H=>⟨.mod hp2 (by simp) (.cons rfl (.cons rfl .nil)),.mod ha2 (by simp) (.cons ⟨u21,?_⟩ (.cons ⟨u22,?_⟩ .nil)),.mod hb2 (by simp) (.cons ⟨u23,?_⟩ (.cons ⟨u24,?_⟩ .nil))⟩⟩
  ·unfold findBy
   simp only [find?_toArray,find?_cons]
   rfl
  ·exact congrArg (fun z=>Value.str z _) (by rw [(jB _).1];decide +kernel)
  ·exact congrArg (fun z=>Value.str z _) (by rw [(jB _).2];decide +kernel)
  ·exact congrArg (fun z=>Value.str z _) (by rw [(jB _).1];decide +kernel)
  ·exact congrArg (fun z=>Value.str z _) (by rw [(jB _).2];decide +kernel)
 ·refine ⟨p3,a3,b3,⟨_,_,hd,ks,?_⟩,fun H=>⟨.mod hp3 (by simp) (.cons rfl (.cons rfl .nil)),.mod ha3 (by simp) (.cons ⟨u31,?_⟩ (.cons ⟨u32,?_⟩ .nil)),.mod hb3 (by simp) (.cons ⟨u33,?_⟩ (.cons ⟨u34,?_⟩ .nil))⟩⟩
  ·unfold findBy
   simp only [find?_toArray,find?_cons]
   rfl
  ·exact congrArg (fun z=>Value.str z _) (by rw [(z7 _).1];decide +kernel)
  ·exact congrArg (fun z=>Value.str z _) (by rw [(z7 _).2];decide +kernel)
  ·exact congrArg (fun z=>Value.str z _) (by rw [(z7 _).1];decide +kernel)
  ·exact congrArg (fun z=>Value.str z _) (by rw [(z7 _).2];decide +kernel)
 ·refine ⟨p4,a4,b4,⟨_,_,hd,ks,?_⟩,fun H=>⟨.mod hp4 (by simp) (.cons rfl (.cons rfl .nil)),.mod ha4 (by simp) (.cons ⟨u41,?_⟩ (.cons ⟨u42,?_⟩ .nil)),.mod hb4 (by simp) (.cons ⟨u43,?_⟩ (.cons ⟨u44,?_⟩ .nil))⟩⟩
  ·unfold findBy
   simp only [find?_toArray,find?_cons]
   rfl
  ·exact congrArg (fun z=>Value.str z _) (by rw [(qW _).1];decide +kernel)
  ·exact congrArg (fun z=>Value.str z _) (by rw [(qW _).2];decide +kernel)
  ·exact congrArg (fun z=>Value.str z _) (by rw [(qW _).1];decide +kernel)
  ·exact congrArg (fun z=>Value.str z _) (by rw [(qW _).2];decide +kernel)
section
variable {X : Cx} {σ : St} {H : Hp} {Q : VK} {D : yr} {K : W.Frag}
def zHk (K:PySem.W.Frag) (g:TG) (tb:TS) (D:yr) (σ:St) (x:V) (H:Hp):Prop:=∃ a,x = .ref a/\(∃ xs,SqT K H a xs) /\ ∃ W:Nat->Nat->St->Hp->Prop,(∃ m,W 0 m σ H) /\ ∀ i m σ H,W i m σ H ->
 ((Itt K a).stop i H/\D.nx σ H)\/((Itt K a).go i H /\ ∃ N:St->Hp->Prop,(∀ σ' H',N σ' H' -> ∃ m',m' < m/\W (i+1) m' σ' H') /\ ∀ x H',(Itt K a).yld i H x H'->g x σ H' fun σ2 H2=>tb { D with nx:=N,ct:=N,bk:=D.nx } σ2 H2)
theorem zGC {tl:TE} {g:TG} {tb:TS} (h:tl σ H (zHk K g tb D σ)):zEq (zJR K tl) g tb D σ H:=h
theorem zEE {g:TG} {tb:TS} (hx:SqT K H a xs) (Pv:Nat->St->Hp->Prop) (h0:Pv 0 σ H) (hl : ∀ i σ H,i<=xs.length->Pv i σ H->SqT K H a xs)
  (hs : ∀ i x σ H,xs[i]? = some x->Pv i σ H->g x σ H fun σ2 H2=>tb { D with nx:=Pv (i+1),ct:=Pv (i+1),bk:=D.nx } σ2 H2) (hd : ∀ σ H,Pv xs.length σ H->D.nx σ H):zHk K g tb D σ (.ref a) H:=⟨a,rfl,⟨xs,hx⟩,zEz Pv h0 hl hs hd⟩
def zCg (K:W.Frag):R2:=fun x y H Q=>∃ p q xs,x = .ref p/\y = .ref q/\SqL K H p xs/\SqL K H q []/\Q (.bl (decide (xs=[]))) H
theorem zBu (hu:X.A.units < cLine):OpR X (compareOp .Eq) (zCg X.K):=by
 intro pins s σ H x y v u Q I rx ry h
 obtain ⟨p,q,xs,rfl,rfl,hx,hy,k⟩:=h
 cases rx;cases ry
 obtain ⟨its,r,pl,hz⟩:=I.list hx
 obtain ⟨its2,r2,pl2,hz2⟩:=I.list hy
 cases r2
 cases r with
 | nil=>exact SeqAt.eq_listAt (e:=fun _=>true) pl.isList pl2.isList rfl hu (fun j h1 h2=>absurd h1 (by simp)) ⟨.bl _,H,I,rfl,by simpa using k⟩
 | cons r1 r2=>exact SeqAt.eq_list_lengthsAt pl.isList pl2.isList (by simp) hu ⟨.bl _,H,I,rfl,by simpa using k⟩
theorem zEk {p q:Addr} (h1:SqL K H p xs) (h2:SqL K H q []) (k:Q (.bl (decide (xs=[]))) H):zCg K (.ref p) (.ref q) H Q:=⟨p,q,xs,rfl,rfl,h1,h2,k⟩
theorem zHb : ∀ c ∈ List.range 127,(!(Builtin.Str.occurrences "0123456789abcdef" (T [c]) 0 (Str.ofString "0123456789abcdef").length 1).isEmpty)=decide (0<=fv c):=by decide +kernel
theorem zII {c:Nat} (h:c < 127) (q:Q (.bl (decide (0<=fv c))) H):zHz (.str (T [c])) (.str "0123456789abcdef") H Q:=zFS (by rw [zHb c (List.mem_range.mpr h)];exact q)
theorem zEo {lo hi:Option Int} (q:Q (.str (T [])) H):zBP (.str (T [])) lo hi H Q:=by
 refine Wu (by decide) ?_
 rw [Qq,JY];simpa using q
end
def bod (x:Str) (b:Bool) (t:List Nat):List Nat:=(t.take (t.length - (stT x b).length)).drop (stL x b).length
def Fg (l:List Nat):Prop:=l≠[]/\0<=fv (l.getD 0 0)/\0<=fv (l.getD (l.length - 1) 0)
def Sgd (x:Str) (b:Bool) (t:List Nat):Prop:=Fg (bod x b t)/\stL x b++bod x b t++stT x b=t
theorem zEO {b:Bool} {t:List Nat}:(bod x b t).length=t.length - (stT x b).length - (stL x b).length:=by
 unfold bod;rw [length_drop,length_take,Nat.min_eq_left (Nat.sub_le _ _)]
theorem zD0 {b:Bool} {t:List Nat} (h:Asc t):Asc (bod x b t):=(h.take _).drop _
theorem KB {t:List Nat} {i:Nat} (h:Asc t) (hi:i < t.length):t.getD i 0 < 127:=by
 rw [getD_eq_getElem?_getD,getElem?_eq_getElem hi];exact h _ (getElem_mem hi)
theorem Qy {c:Nat} (h:0<=fv c) (e:c=d) (hd:fv d = -1):False:=by rw [e,hd] at h;omega
theorem QS (hx:kD x) {t:List Nat} (h0:Sgd x false t) (h1:Sgd x true t):False:=by
 have b0:=List.length_pos_iff.mpr h0.1.1
 have b1:=List.length_pos_iff.mpr h1.1.1
 have e0:=h0.2
 have e1:=h1.2
 have f0:=h0.1.2
 generalize hB:bod x false t=B at *
 generalize hC:bod x true t=C at *
 have e:=e0.trans e1.symm
 rcases hx with rfl | rfl | rfl | rfl | rfl
 ·rw [(qz _).1,(qz _).2,(qz _).1,(qz _).2] at e
  have z1:=congrArg (fun l=>l.getD 0 0) e
  exact Qy f0.1 (by simpa using z1) (by decide)
 ·rw [(jr _).1,(jr _).2,(jr _).1,(jr _).2] at e
  have z1:=congrArg (fun l=>l.getD 0 0) e
  simp at z1
 ·rw [(jB _).1,(jB _).2,(jB _).1,(jB _).2] at e
  have z1:=congrArg (fun l=>l.getD 0 0) e
  simp at z1
 ·rw [(z7 _).1,(z7 _).2,(z7 _).1,(z7 _).2] at e
  have z1:=congrArg (fun l=>l.getD 0 0) e
  exact Qy f0.1 (by simpa using z1) (by decide)
 ·rw [(qW _).1,(qW _).2,(qW _).1,(qW _).2] at e
  have e':B=C++[45]:=by simpa using e
  have z1:B.getD (B.length - 1) 0=45:=by
   rw [e',length_append,length_singleton,Nat.add_sub_cancel,Xs (Nat.le_refl _),Nat.sub_self];rfl
  exact Qy f0.2 z1 (by decide)
theorem zAe (h:kD x) (b:Bool):Asc (stL x b)/\Asc (stT x b):=by
 unfold Asc
 rcases h with rfl | rfl | rfl | rfl | rfl
 ·rw [(qz b).1,(qz b).2];cases b <;> decide
 ·rw [(jr b).1,(jr b).2];cases b <;> decide
 ·rw [(jB b).1,(jB b).2];cases b <;> decide
 ·rw [(z7 b).1,(z7 b).2];cases b <;> decide
 ·rw [(qW b).1,(qW b).2];cases b <;> decide
def dgs (b p n:Nat):List Nat:=List.replicate (p+1 - (yB b n).length) 48++yB b n
theorem QN {b p n:Nat} (h2:2<=b) (h16:b<=16) (hp:p<=6) (h:n < b ^ (40+p)):xR b (dgs b p n)/\val b (dgs b p n)=n/\p+1<=(dgs b p n).length/\(dgs b p n).length<=40+p/\((dgs b p n).getD 0 0=48->(dgs b p n).length=p+1):=by
 have s:=zAX h2 h16 n n (Nat.le_refl _)
 have ln:=QP h2 (39+p) n (by rw [show 39+p+1=40+p by omega];exact h)
 have ps:=List.length_pos_iff.mpr s.2.2.1
 have ld:(dgs b p n).length=p+1 - (yB b n).length+(yB b n).length:=by unfold dgs;rw [length_append,length_replicate]
 refine ⟨(xR.noughts (by omega) _).app s.1,?_,by omega,by omega,fun z=>?_⟩
 ·unfold dgs;rw [JH];exact s.2.1
 ·rcases lt_or_ge (p+1) (yB b n).length with q | q
  ·have e:dgs b p n=yB b n:=by unfold dgs;rw [show p+1 - (yB b n).length=0 by omega];rfl
   rw [e] at z
   have:=s.2.2.2 z
   subst this
   rw [ja (by omega)] at q
   simp at q
  ·omega
def whl (b p n:Nat):List Nat:=(dgs b p n).take ((dgs b p n).length - p)
def rst (b p n:Nat):List Nat:=(dgs b p n).drop ((dgs b p n).length - p)
def bdy (b p pt z m n:Nat):List Nat:=if p=0 then gr z m (whl b p n) else gr z m (whl b p n)++[pt]++rst b p n
theorem zAL (b p n:Nat):whl b p n++rst b p n=dgs b p n:=List.take_append_drop _ _
theorem zCF {b p n:Nat} (h2:2<=b) (h16:b<=16) (hp:p<=6) (h:n < b ^ (40+p)):1<=(whl b p n).length/\(whl b p n).length<=40/\(rst b p n).length=p/\((whl b p n).getD 0 0=48->(whl b p n).length=1):=by
 have s:=QN h2 h16 hp h
 have lw:(whl b p n).length=(dgs b p n).length - p:=by unfold whl;rw [length_take];omega
 refine ⟨by omega,by omega,by unfold rst;rw [length_drop];omega,fun z=>?_⟩
 have e:(whl b p n).getD 0 0=(dgs b p n).getD 0 0:=by
  rw [<- zAL b p n,xr (by omega)]
 rw [e] at z
 have:=s.2.2.2.2 z
 omega
theorem zBY {a:List Nat} (hk:k < a.length):gr z m (a.drop k)=a.getD k 0::((if 0 < z/\0 < a.length - (k+1)/\(a.length - (k+1)) % z=0 then [m] else [])++gr z m (a.drop (k+1))):=by
 have t:=VE (z:=z) (m:=m) (a:=a) (k:=a.length - (k+1)) (by omega)
 rw [show a.length - (a.length - (k+1)+1)=k by omega,show a.length - 1 - (a.length - (k+1))=k by omega,show a.length - (a.length - (k+1))=k+1 by omega] at t
 exact t
section
variable {X : Cx} {H : Hp} {Q : VK} {K : W.Frag} {σ : St}
theorem zGd {a b:Bool} (q:Q (.bl (!decide (a=b))) H):rNe (.bl a) (.bl b) H Q:=⟨rfl,by
 have e:decide (V.bl a=V.bl b)=decide (a=b):=by
  by_cases h:a=b
  ·rw [decide_eq_true h,decide_eq_true (congrArg V.bl h)]
  ·rw [decide_eq_false h,decide_eq_false (fun z=>h (V.bl.inj z))]
 rw [e];exact q⟩
end
theorem zC9 {z m:Nat} : ∀ (k:Nat) (b:List Nat),b.length<=k -> ∀ c ∈ RJ z m b,c ∈ b\/c=m
 | 0,b,h,c,hc=>by rw [x4 (by omega)] at hc;exact .inl hc
 | k+1,b,h,c,hc=>by
  rcases eq_zero_or_pos z with p | p
  ·subst p;rw [QV] at hc;exact .inl hc
  ·rcases lt_or_ge z b.length with q | q
   ·rw [JW p q] at hc
    rcases List.mem_append.mp hc with hc | hc
    ·exact .inl (List.mem_of_mem_take hc)
    ·rcases List.mem_cons.mp hc with hc | hc
     ·exact .inr hc
     ·rcases zC9 k (b.drop z) (by rw [length_drop];omega) c hc with hc | hc
      ·exact .inl (List.mem_of_mem_drop hc)
      ·exact .inr hc
   ·rw [x4 q] at hc;exact .inl hc
theorem zGO {a:List Nat} (h:Asc a) (hm:m < 127):Asc (gr z m a):=fun c hc=>by
 unfold gr at hc
 rcases zC9 _ a.reverse (Nat.le_refl _) c (List.mem_reverse.mp hc) with z | z
 ·exact h c (List.mem_reverse.mp z)
 ·rw [z];exact hm
theorem zEd {b:List Nat} (h:0 < b.length):(RJ z m b).getD 0 0=b.getD 0 0:=by
 rcases eq_zero_or_pos z with p | p
 ·subst p;rw [QV]
 ·rcases lt_or_ge z b.length with q | q
  ·rw [JW p q,xr (by rw [length_take];omega),getD_eq_getElem?_getD,List.getElem?_take,if_pos p,<- getD_eq_getElem?_getD]
  ·rw [x4 q]
theorem zDg {a:List Nat} (h:0 < a.length):(gr z m a).getD ((gr z m a).length - 1) 0=a.getD (a.length - 1) 0:=by
 have l:=Vr (z:=z) (m:=m) (a:=a)
 have e1:(RJ z m a.reverse).getD 0 0=a.reverse.getD 0 0:=zEd (by rw [length_reverse];exact h)
 rw [Xd h] at e1
 have e2:(gr z m a).reverse=RJ z m a.reverse:=by unfold gr;rw [reverse_reverse]
 rw [<- e2,Xd (by omega)] at e1
 rw [show (gr z m a).length - 1=(gr z m a).length - 1 - 0 by omega,e1];rfl
theorem W3 {a:List Nat} (h:0 < a.length):(gr z m a).getD 0 0=a.getD 0 0:=by
 have f:=zBY (z:=z) (m:=m) (a:=a) (k:=0) h
 rw [drop_zero] at f
 rw [f];rfl
theorem xR.get {b:Int} {l:List Nat} (h:xR b l) {i:Nat} (hi:i < l.length):0<=fv (l.getD i 0):=by
 rw [getD_eq_getElem?_getD,getElem?_eq_getElem hi];exact (h _ (getElem_mem hi)).2.1
theorem KG {b p pt n:Nat} (h2:2<=b) (h16:b<=16) (hp:p<=6) (h:n < b ^ (40+p)) (hpt:pt < 127) (hm:m < 127):Fg (bdy b p pt z m n)/\Asc (bdy b p pt z m n)/\(bdy b p pt z m n).length<=100:=by
 have ds:=QN h2 h16 hp h
 have ws:=zCF h2 h16 hp h
 have wr:=zAL b p n
 have fw:xR b (whl b p n):=fun c hc=>ds.1 c (by rw [<- wr];exact mem_append_left _ hc)
 have fr:xR b (rst b p n):=fun c hc=>ds.1 c (by rw [<- wr];exact mem_append_right _ hc)
 have gl:=Vr (z:=z) (m:=m) (a:=whl b p n)
 have ag:=zGO (z:=z) (m:=m) fw.asc hm
 unfold bdy Fg
 rcases eq_zero_or_pos p with q | q
 ·rw [if_pos q]
  refine ⟨⟨List.length_pos_iff.mp (by omega),?_,?_⟩,ag,by omega⟩
  ·rw [W3 (by omega)];exact fw.get (by omega)
  ·rw [zDg (by omega)];exact fw.get (by omega)
 ·rw [if_neg (by omega)]
  refine ⟨⟨by simp,?_,?_⟩,(ag.app (Asc.one hpt)).app fr.asc,by simp only [length_append,length_singleton];omega⟩
  ·rw [append_assoc,xr (by omega),W3 (by omega)];exact fw.get (by omega)
  ·rw [Xs (by simp only [length_append,length_singleton];omega)]
   exact fr.get (by simp only [length_append,length_singleton];omega)
theorem W1 {b:Bool} {B:List Nat}:bod x b (stL x b++B++stT x b)=B:=by
 unfold bod
 rw [show (stL x b++B++stT x b).length - (stT x b).length=(stL x b++B).length by simp only [length_append];omega,take_append_of_le_length (Nat.le_refl _),take_length,List.drop_append,drop_of_length_le (Nat.le_refl _),Nat.sub_self];rfl
def zC2 (X:Cx) (E:XK):Prop:=∀ (pins:List (Addr × Obj)) (σ:St) (e:Value) (s':Shared),XP X pins σ E e s'->X.xe e s'
section
variable {P : Program} {w : World} {K : W.Frag} {mg : Str -> Option Value} {base : Heap} {N : List Str} {qual : Str} {scope : Scope} {f : Addr} {cd : Value} {A : Around} {outer : List Env} {s : Shared} {H : Hp} {E : XK}
theorem YH:zC2 (yd (CXE P w) P w K mg base N qual scope f cd A outer s H E) E:=by
 intro pins σ e s' h
 obtain ⟨H1,s1,I1,fl⟩:=h
 obtain ⟨x,C,a0,H',B,rfl,hos,hbare,fly,clo,hx1,hx2,q⟩:=fl
 refine wpAny_leaves_onW I1.ok.frames rfl fly fun h2 fly2 sm=>?_
 refine ⟨x,C,a0,H',B,rfl,hos.trans I1.os,hbare,fly2,fun h3 st sm3=>?_,?_,hx2,q⟩
 ·have cl:=clo h3 st (sm.trans sm3)
  have I3:=I1.call' (s':={ s' with heap:=h3 }) hos cl.1 cl.2 hbare (fun b z=>nomatch z)
  exact ⟨I3.base,I3.hok⟩
 ·cases z:s.heap.get? x with
  | none=>rfl
  | some o =>
   obtain ⟨o',e1⟩:=I1.base.there x o z (fun h=>nomatch h)
   rw [hx1] at e1;cases e1
end
theorem zBy {n:Nat} (F:zFT X.prog X.w X.K X.mg X.base x k ps sp) (pp:zC2 X E) (hr:jq n X.A) (hg:Gl X x) (ha:PA X (e::es) t)
  (hk:k<=n:=by decide)
  (hdb:(x == ("__debug__" : Str))=false:=by decide) (he:starEach (e::es) X.env=(false,eval e X.env)::starEach es X.env:=by rfl) (hpl:(backTo pos (starEach es X.env)).any (·.1)=false:=by rfl) :
  PE X (.Call (.Name x p) (e::es) [] pos) (Vb sp [] E t):=by
 intro pins s σ H Q I h
 obtain ⟨f,fd,G,hm,kp,hb⟩:=F
 refine wpAny_Call_Name_kw (qZ I hg hm ?_ hdb)
 refine W.callWith_K (h₀:=X.base) I.ok.mod.kin kp (thn (ha pos pins s σ H _ I h) fun us s1 ⟨vs,H1,I1,r,q⟩=>⟨I1.kIn,?_⟩) he hpl
 have r2:qE (vs++[]) (us++[]):=r.append .nil
 have hl:(us++[]).length=ps.length:=by rw [<- r2.length];exact G.len _ _ _ _ q
 refine wpAny_call (codeAny_mono (G.run X.A X.stack s1 H1 ⟨us,[]⟩ (us++[]) (vs++[]) Q E (hr.mono hk) I1.env0 (hb s1 us I1.kIn hl) r2 q) fun r s' hq=>?_)
 cases r with
 | error e=>exact pp pins σ e s' ⟨H1,s1,I1,hq⟩
 | ok fl =>
  cases fl with
  | ret u=>exact I1.after hq
  | next=>exact hq.elim
  | brk=>exact hq.elim
  | cont=>exact hq.elim
variable {N:List Str} {qual:Str}
theorem zAF {base:Heap} {scope:Scope} {f:Addr} {cd:Value} {outer:List Env} {s:Shared}:jv (CXE P w) (yd (CXE P w) P w K mg base N qual scope f cd A outer s H E) E:=fun pins σ H1 s1 e s' I h=>YH pins σ e s' ⟨H1,s1,I,h⟩
abbrev tsV (ts:List (List Nat)):List V:=ts.map fun l=>V.str (T l)
theorem zE4 (ts:List (List Nat)):(tsV ts).all JX=true:=by
 rw [List.all_eq_true];intro x hx
 obtain ⟨l,_,rfl⟩:=List.mem_map.mp hx
 rfl
theorem zHa (a b:List Nat):eqV (.str (T a)) (.str (T b))=decide (a=b):=by
 show (T a == T b)=_
 rw [Bool.eq_iff_iff,beq_iff_eq,decide_eq_true_iff,zIK]
section
variable {X : Cx} {H : Hp} {Q : VK} {K : W.Frag}
theorem zGB (t:List Nat) (ts:List (List Nat)):inV (.str (T t)) (tsV ts)=decide (t ∈ ts):=by
 unfold inV
 rw [Bool.eq_iff_iff,List.any_eq_true,decide_eq_true_iff]
 constructor
 ·rintro ⟨y,hy,e⟩
  obtain ⟨l,hl,rfl⟩:=List.mem_map.mp hy
  rw [zHa,decide_eq_true_iff] at e
  exact e ▸ hl
 ·intro h
  exact ⟨_,List.mem_map.mpr ⟨t,h,rfl⟩,by rw [zHa,decide_eq_true_iff]⟩
theorem zFm {p:Addr} {t:List Nat} (h:SqL K H p (tsV ts)) (q:Q (.bl (decide (t ∈ ts))) H):rIn K false (.str (T t)) (.ref p) H Q:=⟨p,_,rfl,.inl h,rfl,zE4 ts,by rw [zGB];exact q⟩
theorem zEL {p:Addr} (h:SqL K H p (tsV ts)) (h0:0 < ts.length) (q:Q (.str (T (ts.getD (ts.length - 1) []))) H):zCM K (.ref p) (.int (-1)) H Q:=by
 refine Ko h (v:=.str (T (ts.getD (ts.length - 1) []))) ?_ q
 unfold atI ixN
 rw [length_map,if_neg (show ¬ (0:Int) <= -1 by decide),if_pos (show -(ts.length:Int) <= -1 by omega)]
 show (tsV ts)[((-1:Int)+ts.length).toNat]? = _
 rw [show ((-1:Int)+ts.length).toNat=ts.length - 1 by omega,getElem?_map,getD_eq_getElem?_getD,getElem?_eq_getElem (by omega)]
 rfl
theorem zAN (h:H l=some (.lst xs)) (q:Q .non (upd H l (.lst []))):zDQ (.ref l) [] H Q:=⟨l,xs,rfl,rfl,h,q⟩
def WY (K:W.Frag):List V->Hp->VK->Prop:=fun xs H Q=>∃ p ys,xs=[.ref p]/\(SqL K H p ys\/SqT K H p ys) /\ ∀ l,H l=none->Q (.ref l) (upd H l (.lst ys))
theorem xM:yE X (.type "list") (WY X.K):=YN
theorem Vi {p:Addr} {ys:List V} (h:SqL K H p ys) (q : ∀ l H',zW H H'->H l=none->H' l=some (.lst ys)->Q (.ref l) H'):WY K [.ref p] H Q:=⟨p,ys,rfl,.inl h,fun l hl=>q l _ (qR (zW.refl _) hl) hl zS⟩
theorem Xj (hz:xs.length<=sizeLine) (q : ∀ l H',zW H H'->H l=none->H' l=some (.lst xs)->Q (.ref l) H'):zHy Q xs H:=⟨hz,fun l hl=>q l _ (qR (zW.refl _) hl) hl zS⟩
theorem zBo {p:Addr} (h:H p=some (.lst xs)) (q:Q (.bl true) H):zC0 K [.ref p,.ty "list"] H Q:=JZ (.lst h) ⟨_,.inl rfl⟩ (XF K) q
def zBB:V->List V->Hp->VK->Prop:=fun x xs H Q=>∃ a b:List Nat,x = .str (T a)/\xs=[.str (T b)]/\Q (.bl (decide (a.take b.length=b))) H
theorem zDz (a b:List Nat):Txt.startswith (T a) (T b)=decide (a.take b.length=b):=by
 have la:(T a).length=a.length:=rfl
 have lb:(T b).length=b.length:=rfl
 unfold Txt.startswith
 rw [StrLaws.subAt_eq,drop_zero,la,lb]
 show (decide (0+b.length<=a.length) && (a.take b.length == b))=_
 rw [Bool.eq_iff_iff,Bool.and_eq_true,decide_eq_true_iff,decide_eq_true_iff,beq_iff_eq]
 constructor
 ·exact fun h=>h.2
 ·intro h
  have:=congrArg List.length h
  rw [length_take] at this
  exact ⟨by omega,h⟩
theorem JU:MtR X "str.startswith" zBB:=by
 intro pins s σ H x xs v us Q I rx rv h
 obtain ⟨a,b,rfl,rfl,q⟩:=h
 obtain ⟨t,rfl⟩:=rx
 obtain ⟨u,rfl,ru⟩:=rv.one
 obtain ⟨t',rfl⟩:=ru
 exact SC.startswith ⟨.bl _,H,I,rfl,by rw [zDz];exact q⟩
theorem zBk {a b:List Nat} (q:Q (.bl (decide (a.take b.length=b))) H):zBB (.str (T a)) [.str (T b)] H Q:=⟨a,b,rfl,rfl,q⟩
end
def lk (n w:Int):Int:=if n < w then w - n else 0
def kN (x:Str):Prop:=x = "left" \/ x = "right" \/ x = "middle"
def pA (x:Str) (n w:Int):Int:=if x = "left" then 0 else if x = "right" then lk n w else lk n w / 2
def pB (x:Str) (n w:Int):Int:=lk n w - pA x n w
theorem Z8 (n w:Int) (h0:0<=n) (hw:w<=40):0<=lk n w/\lk n w<=40/\(w<=n->lk n w=0)/\(n<=w->lk n w=w - n):=by unfold lk;split <;> omega
theorem pAl (n w:Int):pA "left" n w=0:=by unfold pA;rw [if_pos rfl]
theorem pAr (n w:Int):pA "right" n w=lk n w:=by unfold pA;rw [if_neg (by decide +kernel),if_pos rfl]
theorem pAm (n w:Int):pA "middle" n w=lk n w / 2:=by unfold pA;rw [if_neg (by decide +kernel),if_neg (by decide +kernel)]
def zBv (x:Str) (n w:Int):Prop:=0<=pA x n w/\0<=pB x n w/\pA x n w+pB x n w=lk n w/\(x = "left" -> pA x n w=0)/\(x = "right" -> pB x n w=0)/\(x = "middle" -> pB x n w=pA x n w\/pB x n w=pA x n w+1)
theorem xl {n w:Int} (hs:kN x) (h0:0<=n) (hw:w<=40):zBv x n w:=by
 have b:=Z8 n w h0 hw
 unfold zBv pB
 rcases hs with rfl | rfl | rfl
 ·rw [pAl];exact ⟨by omega,by omega,by omega,fun _=>rfl,fun h=>absurd h (by decide +kernel),fun h=>absurd h (by decide +kernel)⟩
 ·rw [pAr];exact ⟨by omega,by omega,by omega,fun h=>absurd h (by decide +kernel),fun _=>by omega,fun h=>absurd h (by decide +kernel)⟩
 ·rw [pAm];exact ⟨by omega,by omega,by omega,fun h=>absurd h (by decide +kernel),fun h=>absurd h (by decide +kernel),fun _=>by omega⟩
def pad (t:List Nat) (w:Int) (f:Nat) (x:Str):List Nat:=List.replicate (pA x t.length w).toNat f++t++List.replicate (pB x t.length w).toNat f
theorem XC {t:List Nat} {w:Int} {f:Nat} (h:zBv x t.length w):((pad t w f x).length:Int)=t.length+lk t.length w:=by
 unfold pad;obtain ⟨h1,h2,h3,_⟩:=h
 simp only [length_append,length_replicate];omega
theorem V6 {t:List Nat} {w:Int} {f:Nat} (h:zBv x t.length w) (h1:w<=t.length) (h2:w<=40):pad t w f x=t:=by
 have b:=Z8 t.length w (by omega) h2
 obtain ⟨a1,a2,a3,_⟩:=h
 unfold pad
 rw [show (pA x t.length w).toNat=0 by omega,show (pB x t.length w).toNat=0 by omega];simp
def sl (t:List Nat) (w:Int) (x:Str) (n:Nat):List Nat:=(t.take ((pA x n w)+n).toNat).drop (pA x n w).toNat
def gd (t:List Nat) (w:Int) (f:Nat) (x:Str) (n:Nat):Bool:=decide (pad (sl t w x n) w f x=t)
def qU (t:List Nat) (w:Int) (f:Nat) (x:Str):List (List Nat):=if w < t.length then [t] else ((List.range (w+1).toNat).filter (gd t w f x)).map (sl t w x)
theorem zDS {n:Nat} {w:Int} (hs:kN x) (h:(n:Int)<=w) (hw:w<=40) : ∃ a b:Nat,pA x n w=a/\pB x n w=b/\(a+b+n:Int)=w/\(x = "left" -> a=0)/\(x = "right" -> b=0)/\(x = "middle" -> a=(w.toNat - n) / 2):=by
 have b:=xl (n:=n) hs (by omega) hw
 have l:=(Z8 n w (by omega) hw).2.2.2 h
 obtain ⟨b1,b2,b3,b4,b5,b6⟩:=b
 rw [l] at b3
 obtain ⟨A,ha⟩:=Int.eq_ofNat_of_zero_le b1
 obtain ⟨B,hb⟩:=Int.eq_ofNat_of_zero_le b2
 rw [ha] at b3 b4 b6;rw [hb] at b3 b5 b6
 have q:w.toNat - n=A+B:=by omega
 rw [q]
 have q2:(A+B+n:Int)=w:=by omega
 clear b3 b1 b2 l h hw q
 exact ⟨A,B,ha,hb,q2,fun h=>Int.ofNat.inj (b4 h),fun h=>Int.ofNat.inj (b5 h),fun h=>by have:=b6 h;clear b4 b5 b6 q2 ha hb;omega⟩
theorem zCs {t:List Nat} {w:Int} {n a:Nat} (e:pA x n w=a):sl t w x n=(t.take (a+n)).drop a:=by
 unfold sl;rw [e];congr 1
theorem zC5 {t:List Nat} {w:Int} {n:Nat} (hs:kN x) (h:(n:Int)<=w) (hw:w<=40) (ht:(t.length:Int)=w):(sl t w x n).length=n:=by
 obtain ⟨a,b,e1,e2,e3,_⟩:=zDS hs h hw
 rw [zCs e1,length_drop,length_take];omega
theorem ko {t:List Nat} {w:Int} {f:Nat} (h:w < t.length):qU t w f x=[t]:=by unfold qU;rw [if_pos h]
theorem X6 {t:List Nat} {w:Int} {f:Nat} (hs:kN x) (hw:w<=40) (h:(t.length:Int) < w):qU t w f x=[]:=by
 unfold qU
 rw [if_neg (by omega),List.filter_eq_nil_iff.mpr,List.map_nil]
 intro n _ g
 unfold gd at g
 have g':=congrArg List.length (of_decide_eq_true g)
 have b:=xl (n:=(sl t w x n).length) hs (by omega) hw
 have l:=XC (f:=f) b
 have c:=Z8 (sl t w x n).length w (by omega) hw
 omega
theorem zGT {t:List Nat} {w:Int} {f:Nat} (hs:kN x) (hw:w<=40) (h:(t.length:Int)<=w):sl (pad t w f x) w x t.length=t/\gd (pad t w f x) w f x t.length=true/\((pad t w f x).length:Int)=w:=by
 obtain ⟨a,b,e1,e2,e3,_⟩:=zDS (n:=t.length) hs h hw
 have hl:sl (pad t w f x) w x t.length=t:=by
  rw [zCs e1];unfold pad
  rw [e1,e2,Int.toNat_natCast,Int.toNat_natCast,List.take_left' (by rw [length_append,length_replicate]),List.drop_left' (by rw [length_replicate])]
 refine ⟨hl,?_,?_⟩
 ·unfold gd;rw [hl,decide_eq_true_iff]
 ·have l:=XC (f:=f) (xl (n:=t.length) hs (by omega) hw)
  have c:=Z8 t.length w (by omega) hw
  omega
theorem ZU {t:List Nat} {w:Int} {f:Nat} (sx:kN x) (hw:w<=40) {c:List Nat} (h:c ∈ qU t w f x):pad c w f x=t:=by
 unfold qU at h
 split at h
 ·rename_i hl
  rw [List.mem_singleton.mp h]
  exact V6 (xl sx (by omega) hw) (by omega) hw
 ·obtain ⟨n,hn,rfl⟩:=List.mem_map.mp h
  exact of_decide_eq_true (List.mem_filter.mp hn).2
theorem Kx {t:List Nat} {w:Int} {f:Nat} (sx:kN x) (hw:w<=40):t ∈ qU (pad t w f x) w f x:=by
 rcases Int.lt_or_le w t.length with q | q
 ·rw [V6 (xl sx (by omega) hw) (by omega) hw,ko q];exact List.mem_singleton.mpr rfl
 ·obtain ⟨p1,p2,p3⟩:=zGT (f:=f) sx hw q
  unfold qU
  rw [if_neg (by omega)]
  exact List.mem_map.mpr ⟨t.length,List.mem_filter.mpr ⟨List.mem_range.mpr (by omega),p2⟩,p1⟩
theorem ZN {t:List Nat} {w:Int} {f:Nat} (sx:kN x) (hw:w<=40) {c:List Nat}:c ∈ qU t w f x↔pad c w f x=t:=⟨ZU sx hw,fun h=>h ▸ Kx sx hw⟩
theorem y2 {t:List Nat} {w:Int} {f:Nat} (sx:kN x) (hw:w<=40):(qU t w f x).Nodup:=by
 rcases Int.lt_trichotomy (t.length:Int) w with h | h | h
 ·rw [X6 sx hw h];exact List.nodup_nil
 ·unfold qU
  rw [if_neg (by omega)]
  refine List.pairwise_map.mpr ?_
  have pr:((List.range (w+1).toNat).filter (gd t w f x)).Pairwise (· ≠ ·):=List.Pairwise.filter _ (List.nodup_range)
  refine (List.Pairwise.and_mem.mp pr).imp ?_
  rintro a b ⟨ha,hb,hne⟩ e
  have la:=List.mem_range.mp (List.mem_filter.mp ha).1
  have lb:=List.mem_range.mp (List.mem_filter.mp hb).1
  have e2:=congrArg List.length e
  rw [zC5 sx (by omega) hw h,zC5 sx (by omega) hw h] at e2
  exact hne e2
 ·rw [ko h];exact List.nodup_cons.mpr ⟨by simp,List.nodup_nil⟩
structure Yu (K:W.Frag) (x qual:Str) (st:Stmt) (f:Addr) (fd:FuncData):Prop where
 ex : ∃ (oc:Value) (od:Option Addr) (dV kV doc pm:Value) (an:Option Addr) (cdv ct:Value) (osl:Array (Option Value)),
  fd=W.fnOf x qual (qG st) (zu st) (zG st) dV kV doc pm an cdv ct/\K.lookup f=some ⟨oc,od,.func fd,osl⟩/\W.codeIn K cdv qual=true
 kp:W.keepIn K (.ref f)=true
section
variable {P : Program} {w : World} {K : W.Frag} {mg : Str -> Option Value} {base : Heap}
variable {st:Stmt}
theorem Yu.ok {f:Addr} (F:Yu K x qual st f fd) (S:zO N ps (zG st)) (len : ∀ vs H Q E,sp vs H Q E->vs.length=ps.length)
  (hbody : ∀ (cdv:Value) (A:Around) (outer:List Env) (s:Shared) (H:Hp) (vs:List V) (Q:VK) (E:XK),jq k (A.deeper (envOfC qual (zG st) s.heap.objs.size f cdv))->sp vs H Q E ->
   ∃ t,PSs (yd CX0 P w K mg base N qual (zG st) f cdv A outer s H E).nox (zu st) t/\t { nx:=fun _ H'=>Q .non H',rt:=Q } (start N vs) H):xG P w K mg base CX0 (k+1) f fd ps sp:=by
 obtain ⟨oc,od,dV,kV,doc,pm,an,cdv,ct,osl,rfl,lk,hcd⟩:=F.ex
 refine VJ lk hcd S len fun A outer s H vs Q E hr hsp=>?_
 obtain ⟨t,h,q⟩:=hbody cdv A outer s H vs Q E hr hsp
 exact ⟨t,h.nox,q⟩
theorem Yu.okX {f:Addr} (F:Yu K x qual st f fd) (S:zO N ps (zG st)) (len : ∀ vs H Q E,sp vs H Q E->vs.length=ps.length)
  (hbody : ∀ (cdv:Value) (A:Around) (outer:List Env) (s:Shared) (H:Hp) (vs:List V) (Q:VK) (E:XK),jq k (A.deeper (envOfC qual (zG st) s.heap.objs.size f cdv))->sp vs H Q E ->
   WM (yd (CXE P w) P w K mg base N qual (zG st) f cdv A outer s H E) E->jv (CXE P w) (yd (CXE P w) P w K mg base N qual (zG st) f cdv A outer s H E) E -> ∃ t,PSs (yd (CXE P w) P w K mg base N qual (zG st) f cdv A outer s H E) (zu st) t/\t { nx:=fun _ H'=>Q .non H',rt:=Q } (start N vs) H):xG P w K mg base (CXE P w) (k+1) f fd ps sp:=by
 obtain ⟨oc,od,dV,kV,doc,pm,an,cdv,ct,osl,rfl,lk,hcd⟩:=F.ex
 exact VJ lk hcd S len fun A outer s H vs Q E hr hsp=>hbody cdv A outer s H vs Q E hr hsp (fun pins σ H s h' x C args I hm q=>JK I hm q) zAF
theorem Yu.binds {f:Addr} (F:Yu K x qual st f fd)
  (h : ∀ (dV kV doc pm:Value) (an:Option Addr) (cdv ct:Value) (us:List Value),us.length=ps.length->bindArgs (W.fnOf x qual (qG st) (zu st) (zG st) dV kV doc pm an cdv ct) ⟨us,[]⟩=pure (ps.zip us)):j9 K fd ps []:=by
 obtain ⟨oc,od,dV,kV,doc,pm,an,cdv,ct,osl,rfl,lk,hcd⟩:=F.ex
 exact .all (h dV kV doc pm an cdv ct)
theorem zAs {f:Addr} {oc:Value} {od an:Option Addr} {osl:Array (Option Value)} {dV kV doc pm cdv ct:Value} (l:K.lookup f=some ⟨oc,od,.func (W.fnOf x qual (qG st) (zu st) (zG st) dV kV doc pm an cdv ct),osl⟩)
  (c:W.codeIn K cdv qual=true) (k:W.keepIn K (.ref f)=true):Yu K x qual st f (W.fnOf x qual (qG st) (zu st) (zG st) dV kV doc pm an cdv ct):=⟨⟨oc,od,dV,kV,doc,pm,an,cdv,ct,osl,rfl,l,c⟩,k⟩
end
def zHw (P:Program) (w:World) (K:W.Frag) (mg:Str->Option Value) (base:Heap) (CX:CXT) (C:Addr) (m:Str) (k:Nat) (ps:List Str) (sp:Sp):Prop:=
 ∃ (f:Addr) (fd:FuncData),xG P w K mg base CX k f fd ps sp/\zIy K C m f/\j9 K fd ps []
def zIA (P:Program) (w:World) (K:W.Frag) (mg:Str->Option Value) (base:Heap) (CX:CXT) (C:Addr) (k:Nat) (ps:List Str) (sp:Sp):Prop:=
 ∃ (f:Addr) (fd:FuncData),xG P w K mg base CX k f fd ps sp/\Mk K C f/\j9 K fd ps []
structure zIq (K:W.Frag) (C:Addr) (m:Str) (f:Addr):Prop where
 sp:W.specialIn K (.ref C) "__getattribute__" = some (some (.builtin "type.__getattribute__"))
 rd:W.readsIn K C (.type "type")=true
 fc:W.findCls K (.ref C) (.type "type") m=some (.val (.ref f))
 kp:W.keepIn K (.ref f)=true
def zHv (P:Program) (w:World) (K:W.Frag) (mg:Str->Option Value) (base:Heap) (CX:CXT) (C:Addr) (m:Str) (k:Nat) (ps:List Str) (sp:Sp):Prop:=
 ∃ (f:Addr) (fd:FuncData),xG P w K mg base CX k f fd ps sp/\zIq K C m f/\j9 K fd ps []
section
variable {X : Cx} {CX : CXT} {k n : Nat} {C : Addr} {ps : List Str} {sp : Sp} {E : XK} {x m : Str} {p np pos apos : Pos} {e o : Expr} {es : List Expr} {ta : TE} {t : TA}
theorem zo {pl:Sem Bool} (F:zHw X.prog X.w X.K X.mg X.base CX C m k ps sp) (c:Cls X.K C) (hx:jv CX X E) (hr:jq n X.A) (he:PE X o ta) (ha:PA X (e::es) t) (hk:k<=n:=by decide)
  (hst:starEach (e::es) X.env=(false,eval e X.env)::starEach es X.env:=by rfl) (hpl:(backTo pos (starEach es X.env)).any (·.1)=false:=by rfl)
  (ht:eval (.Call (.Attribute o m apos) (e::es) [] pos) X.env=(do
   let ov <- eval o X.env
   standAt apos.atName
   let (f,first) <- holding [ov] (getMethod ov m pl)
   callWith pos f first (backTo pos (starEach (e::es) X.env)) (backToKw pos (keywordEach [] X.env))):=by rfl) :
  PE X (.Call (.Attribute o m apos) (e::es) [] pos) (XX C m sp [] E ta t):=by
 obtain ⟨f,fd,G,M,b⟩:=F
 exact zEx (pl:=pl) he c M (G.mono hk) hr b .nil hx ha hst hpl ht
theorem XJ (F:zIA X.prog X.w X.K X.mg X.base CX C k ps sp) (hx:jv CX X E) (hr:jq n X.A) (hg:Gl X x) (hm:X.mg x=some (.ref C)) (ha:PA X (e::es) t) (hk:k+1<=n:=by decide)
  (hdb:(x == ("__debug__" : Str))=false:=by decide) (he:starEach (e::es) X.env=(false,eval e X.env)::starEach es X.env:=by rfl) (hpl:(backTo pos (starEach es X.env)).any (·.1)=false:=by rfl) :
  PE X (.Call (.Name x p) (e::es) [] pos) (zDb C sp [] E t):=by
 obtain ⟨f,fd,G,M,b⟩:=F
 exact zFH M G (hr.mono hk) hg hm b .nil hx ha hdb he hpl
theorem QX {pl:Sem Bool} (F:zHv X.prog X.w X.K X.mg X.base CX C m k ps sp) (hx:jv CX X E) (hr:jq n X.A) (hg:Gl X x) (hm:X.mg x=some (.ref C)) (ha:PA X (e::es) t) (hk:k<=n:=by decide)
  (hdb:(x == ("__debug__" : Str))=false:=by decide) (hst:starEach (e::es) X.env=(false,eval e X.env)::starEach es X.env:=by rfl) (hpl:(backTo pos (starEach es X.env)).any (·.1)=false:=by rfl)
  (ht:eval (.Call (.Attribute (.Name x np) m apos) (e::es) [] pos) X.env=(do
   let ov <- eval (.Name x np) X.env
   standAt apos.atName
   let (f,first) <- holding [ov] (getMethod ov m pl)
   callWith pos f first (backTo pos (starEach (e::es) X.env)) (backToKw pos (keywordEach [] X.env))):=by rfl) :
  PE X (.Call (.Attribute (.Name x np) m apos) (e::es) [] pos) (Vb sp [] E t):=by
 intro pins s σ H Q I h
 obtain ⟨f,fd,G,M,b⟩:=F
 refine W.methodCall_KW (pl:=pl) (qZ I hg hm ?_ hdb) ht
 refine W.method_cls I.kIn M.sp (W.cls_value I.kIn M.rd M.fc rfl ?_)
 have I1:=I.tok (s.toks+1)
 refine W.callWith_K (first:=[]) (h₀:=X.base) I.ok.mod.kin M.kp (thn (ha pos pins _ σ H _ I1 h) fun us s2 ⟨vs,H2,I2,r,q2⟩=>⟨I2.kIn,?_⟩) hst hpl
 exact Vv (us:=us) (vs:=vs) (G.mono hk) hr b .nil hx I2 r q2
end
section
variable {σ : St} {H : Hp} {Q : VK} {D : yr} {K : W.Frag} {C : Addr} {m f : Str} {sp : Sp} {E : XK} {ta tv : TE} {t : TA} {a : Addr}
def zDY (H:Hp) (a C:Addr) (m:Str):Prop:=∃ dx fs,H a=some (.ins C dx fs)/\fs.lookup m=none
def xP (K:W.Frag) (H:Hp) (a:Addr) (f:Str) (v:V):Prop:=∃ C dx fs,H a=some (.ins C dx fs)/\Cls K C/\xq K C f/\fs.lookup f=some v
theorem zDY.same (g:zW H H') (h:zDY H a C m):zDY H' a C m:=by obtain ⟨dx,fs,e,l⟩:=h;exact ⟨dx,fs,g _ _ e,l⟩
variable {v:V}
theorem xP.same (g:zW H H') (h:xP K H a f v):xP K H' a f v:=by obtain ⟨C,dx,fs,e,l⟩:=h;exact ⟨C,dx,fs,g _ _ e,l⟩
def zDf (C:Addr) (m:Str) (sp:Sp) (dvs:List V) (E:XK) (t:TA) (σ:St) (Q:VK):VK:=fun x H1=>∃ a dx fs,x = .ref a/\H1 a=some (.ins C dx fs)/\fs.lookup m=none/\t σ H1 fun vs H2=>sp (x::(vs++dvs)) H2 Q E
variable {dvs:List V}
theorem JN (h:ta σ H (zDf C m sp dvs E t σ Q)):XX C m sp dvs E ta t σ H Q:=h
theorem kZ (hi:zDY H a C m) (h:t σ H fun vs H2=>sp (.ref a::(vs++dvs)) H2 Q E):zDf C m sp dvs E t σ Q (.ref a) H:=by
 obtain ⟨dx,fs,e,l⟩:=hi
 exact ⟨a,dx,fs,rfl,e,l,h⟩
def zJP (K:W.Frag) (f:Str) (Q:VK):VK:=fun x H1=>∃ a C dx fs v,x = .ref a/\H1 a=some (.ins C dx fs)/\Cls K C/\xq K C f/\fs.lookup f=some v/\Q v H1
theorem zIW (h:ta σ H (zJP K f Q)):zIc K ta f σ H Q:=h
theorem zGX (hi:xP K H a f v) (q:Q v H):zJP K f Q (.ref a) H:=by
 obtain ⟨C,dx,fs,e,c,n,l⟩:=hi
 exact ⟨a,C,dx,fs,v,rfl,e,c,n,l,q⟩
def zJC (K:W.Frag) (f:Str) (y:V) (D:yr) (σ:St):VK:=fun x H2=>∃ a C dx fs,x = .ref a/\H2 a=some (.ins C dx fs)/\Cls K C/\xq K C f/\fs.length < 1000/\D.nx σ (upd H2 a (.ins C dx (Z7 f y fs)))
theorem zF9 (h:tv σ H fun y H1=>ta σ H1 (zJC K f y D σ)):zJH K ta tv f D σ H:=h
theorem jx {dx:Addr} {fs:List (Str × V)} {y:V} (e:H a=some (.ins C dx fs)) (c:Cls K C) (n:xq K C f) (l:fs.length < 1000) (q:D.nx σ (upd H a (.ins C dx (Z7 f y fs)))):zJC K f y D σ (.ref a) H:=⟨a,C,dx,fs,rfl,e,c,n,l,q⟩
def zIU (C:Addr) (sp:Sp) (dvs:List V) (E:XK) (Q:VK):List V->Hp->Prop:=fun vs H1=>∀ x dx,H1 x=none->H1 dx=none->dx≠x ->
 sp (.ref x::(vs++dvs)) (upd (upd H1 dx (.own x)) x (.ins C dx [])) (fun v H2=>v = .non/\Q (.ref x) H2) E
theorem zHO (h:t σ H (zIU C sp dvs E Q)):zDb C sp dvs E t σ H Q:=h
theorem qT (f:Str) (v:V):Z7 f v []=[(f,v)]:=rfl
variable {r:List (Str × V)}
theorem zf {f k:Str} {x:V} (h:k≠f):Z7 f v ((k,x)::r)=(k,x)::Z7 f v r:=by
 rw [show Z7 f v ((k,x)::r)=(if k=f then (k,v)::r else (k,x)::Z7 f v r) from rfl,if_neg h]
theorem yc {k:Str} {x:V}:((k,x)::r).lookup k=some x:=by simp [List.lookup]
theorem qF {f k:Str} {x:V} (h:f≠k):((k,x)::r).lookup f=r.lookup f:=by
 have:(f == k)=false:=by simpa using h
 simp [List.lookup,this]
end
def Wk (σc σ:St):Prop:=σc.length=σ.length /\ ∀ (i:Nat) v,σc[i]? = some (some v)->σ[i]? = some (some v)
theorem Wk.nil:Wk [] []:=⟨rfl,fun i v h=>h⟩
theorem Wk.one {a b:St} {x:Option V} (h:Wk a b):Wk (x::a) (x::b):=⟨by rw [length_cons,length_cons,h.1],fun i v e=>by
 cases i with
 | zero=>exact e
 | succ i=>exact h.2 i v e⟩
theorem Wk.any {a b:St} {x:Option V} (h:Wk a b):Wk (none::a) (x::b):=⟨by rw [length_cons,length_cons,h.1],fun i v e=>by
 cases i with
 | zero=>exact absurd (Option.some.inj e) (by simp)
 | succ i=>exact h.2 i v e⟩
def Cx.tr (X:Cx) (pins:List (Addr × Obj)) (σc:St) (E:XK):Cx:={ X with pn:=X.pn++pins,xe:=XP X pins σc E }
section
variable {X : Cx} {pins pins0 : List (Addr × Obj)} {σ σc : St} {H : Hp} {s : Shared} {E : XK}
theorem Cx.Ok.tr (ok:X.Ok):(X.tr pins σc E).Ok:=⟨ok.mod,ok.kind,ok.glob,ok.blt,ok.above,ok.inj,ok.has,ok.cab,ok.hd,ok.frames,ok.stk,ok.exf,ok.bs,ok.bsz,ok.noex,ok.exfs,ok.funs,ok.frf⟩
theorem Cx.Ok.untr (ok:(X.tr pins σc E).Ok):X.Ok:=⟨ok.mod,ok.kind,ok.glob,ok.blt,ok.above,ok.inj,ok.has,ok.cab,ok.hd,ok.frames,ok.stk,ok.exf,ok.bs,ok.bsz,ok.noex,ok.exfs,ok.funs,ok.frf⟩
theorem Inv.tr (I:Inv X pins σ H s):Inv (X.tr pins σc E) [] σ H s:=⟨I.ok.tr,I.os,I.bare,I.base,I.loc,I.cell,I.free,I.freeC,fun p hp=>I.pin p (by simpa [Cx.tr] using hp),I.hok,I.len⟩
theorem Inv.untr (I:Inv (X.tr pins0 σc E) pins σ H s):Inv X pins0 σ H s:=⟨I.ok.untr,I.os,I.bare,I.base,I.loc,I.cell,I.free,I.freeC,fun p hp=>I.pin p (mem_append_left _ hp),I.hok,I.len⟩
theorem SP.untr {D:yr} {f:Flow} {s':Shared} (h:SP (X.tr pins0 σc E) pins D f s'):SP X pins0 D f s':=by
 cases f with
 | next=>obtain ⟨σ',H',I,q⟩:=h;exact ⟨σ',H',I.untr,q⟩
 | brk=>obtain ⟨σ',H',I,q⟩:=h;exact ⟨σ',H',I.untr,q⟩
 | cont=>obtain ⟨σ',H',I,q⟩:=h;exact ⟨σ',H',I.untr,q⟩
 | ret u=>obtain ⟨v,σ',H',I,r,q⟩:=h;exact ⟨v,σ',H',I.untr,r,q⟩
theorem SP.outExc {y:Addr} {D:yr} {f:Flow} {s':Shared} (ok:X.Ok) (h:SP (X.inExc y) pins D f s'):SP X pins D f s':=by
 cases f with
 | next=>obtain ⟨σ',H',I,q⟩:=h;exact ⟨σ',H',I.outExc ok,q⟩
 | brk=>obtain ⟨σ',H',I,q⟩:=h;exact ⟨σ',H',I.outExc ok,q⟩
 | cont=>obtain ⟨σ',H',I,q⟩:=h;exact ⟨σ',H',I.outExc ok,q⟩
 | ret u=>obtain ⟨v,σ',H',I,r,q⟩:=h;exact ⟨v,σ',H',I.outExc ok,r,q⟩
end
def PHs (X:Cx) (hs:List ExceptHandler) (th:Addr->TS):Prop:=
 ∀ (pins:List (Addr × Obj)) (s:Shared) (σ:St) (H:Hp) (D:yr) (y C:Addr) (B:Heap) (a0:Value),Heap.FlyingW B (X.env::X.outer) y (.ref C) a0 s.heap->Inv X pins σ H s ->
  (∀ h',B.StaysIn h'->s.heap.UpToSlots h'->Inv X pins σ H { s with heap:=h' })->th C D σ H->wpAny (model X.prog X.w) X.A (handleBy (.ref y) X.env hs) (SP X pins D) X.xe s
section
variable {X : Cx} {cx : Str} {C' : Addr} {ts : TS} {th : Addr -> TS} {np hpos pos : Pos} {b₀ : Stmt} {suite body : List Stmt} {Zo hs : List ExceptHandler} {h₀ : ExceptHandler} {tb : St -> XK -> TS}
theorem isx {B:Heap} {l:List Env} {y:Addr} {a0:Value} (fl:Heap.FlyingW B l y (.ref C) a0 h):zAm y C h:=by
 obtain ⟨_,_,_,oe,vs,_,_,_,h1,⟨h2,_⟩,h3,_⟩:=fl
 exact ⟨oe,h1,h2,vs,h3⟩
def zG0 (tb:St->XK->TS) (th:Addr->TS):TS:=fun D σ H=>∃ σc,tb σc (fun cls _ H2=>∃ C,cls = .ref C/\th C D σc H2) D σ H
theorem zDp (hst:X.stack=X.env::X.outer) (hfr:X.env.frame=some X.env.locals) (hb : ∀ pins σc E,PSs (X.tr pins σc E) body (tb σc E)) (hh:PHs X (h₀::hs) th):PS X (.Try body (h₀::hs) [] [] pos) (zG0 tb th):=by
 intro pins s σ H D I h
 obtain ⟨σc,h⟩:=h
 refine wpAny_Try_except (wpAny_mono (hb pins σc _ [] s σ H D I.tr h) (fun f s1 q=>?_) fun er s' z=>?_)
 ·cases f with
  | next=>exact wpAny_execs_nil q.untr
  | ret u=>exact q.untr
  | brk=>exact q.untr
  | cont=>exact q.untr
 ·obtain ⟨H1,s1,I1,fl⟩:=z
  obtain ⟨y,C,a0,H2,B,rfl,hos,hbare,fly,clo,hy0,hy2,C0,z0,q⟩:=fl
  cases z0
  rw [hst] at fly
  refine wpAny_looks_onW (I.ok.frames.trans (congrArg some hst)) hfr fly fun h1 held sm1=>?_
  refine wpAny_landsW held fun h2 fly2 sm2=>?_
  have cl : ∀ h',B.StaysIn h'->h2.UpToSlots h'->Inv X pins σc H2 { s' with heap:=h' }:=fun h' st sm=>by
   have c:=clo h' st ((sm1.trans sm2).trans sm)
   exact I1.call' (s':={ s' with heap:=h' }) hos c.1 c.2 hbare (fun b z=>nomatch z)
  have c2:=clo h2 fly2.1 (sm1.trans sm2)
  have I2:Inv X pins σc H2 { s' with heap:=h2 }:=I1.call' (s':={ s' with heap:=h2 }) hos c2.1 c2.2 hbare (fun b z=>nomatch z)
  exact hh pins { s' with heap:=h2 } σc H2 D y C B a0 fly2 I2 cl q
theorem zGp {D:yr} (σc:St) (h:tb σc (fun cls _ H2=>∃ C,cls = .ref C/\th C D σc H2) D σ H):zG0 tb th D σ H:=⟨σc,h⟩
end
section
variable {X : Cx} {pins0 : List (Addr × Obj)} {σc : St} {k n : Nat} {C : Addr} {ps : List Str} {sp : Sp} {E : XK} {x m : Str} {p np pos apos : Pos} {e o : Expr} {es : List Expr} {ta : TE} {t : TA}
def Vn (C:Addr) (m:Str) (sp:Sp) (E:XK) (σc:St) (ta:TE) (t:TA):TE:=fun σ H Q=>ta σ H (zDf C m (fun vs H Q E=>Wk σc σ/\sp vs H Q E) [] E t σ Q)
def zBK (sp:Sp) (E:XK) (σc:St) (t:TA):TE:=fun σ H Q=>t σ H fun vs H1=>Wk σc σ/\sp (vs++[]) H1 Q E
theorem zEK {pins:List (Addr × Obj)} {s:Shared} {us:List Value} {vs:List V} {f:Addr} (F:xG X.prog X.w X.K X.mg X.base (CXE X.prog X.w) k f fd ps sp) (hr:jq k X.A) (hb:j9 X.K fd ps [])
  (I:Inv (X.tr pins0 σc E) pins σ H s) (r:qE vs us) (wk:Wk σc σ) (h:sp (vs++[]) H Q E):wpAny (model X.prog X.w) X.A (call (.ref f) us) (EP (X.tr pins0 σc E) pins σ Q) (X.tr pins0 σc E).xe s:=by
 have r2:qE (vs++[]) (us++[]):=r.append .nil
 have hl:(us++[]).length=ps.length:=by rw [<- r2.length];exact F.len _ _ _ _ h
 have e0:Vy X.prog X.w X.K X.mg X.base X.A X.stack s H:=I.env0
 refine wpAny_call (codeAny_mono (F.run X.A X.stack s H ⟨us,[]⟩ (us++[]) (vs++[]) Q E hr e0 (hb s us I.kIn hl) r2 h) fun r s' hq=>?_)
 cases r with
 | error e=>exact ⟨H,s,I.untr.weak wk.1 wk.2,hq⟩
 | ok fl =>
  cases fl with
  | ret u=>exact I.after hq
  | next=>exact False.elim hq
  | brk=>exact False.elim hq
  | cont=>exact False.elim hq
theorem Vj (F:zFT X.prog X.w X.K X.mg X.base x k ps sp) (hr:jq n X.A) (hg:Gl X x) (ha:PA (X.tr pins0 σc E) (e::es) t) (hk:k<=n:=by decide)
  (hdb:(x == ("__debug__" : Str))=false:=by decide) (he:starEach (e::es) X.env=(false,eval e X.env)::starEach es X.env:=by rfl) (hpl:(backTo pos (starEach es X.env)).any (·.1)=false:=by rfl) :
  PE (X.tr pins0 σc E) (.Call (.Name x p) (e::es) [] pos) (zBK sp E σc t):=by
 intro pins s σ H Q I h
 obtain ⟨f,fd,G,hm,kp,b⟩:=F
 refine wpAny_Call_Name_kw (qZ I hg hm ?_ hdb)
 refine W.callWith_K (h₀:=X.base) I.ok.mod.kin kp (thn (ha pos pins s σ H _ I h) fun us s1 ⟨vs,H1,I1,r,q⟩=>⟨I1.kIn,?_⟩) he hpl
 exact zEK (G.mono hk) hr b I1 r q.1 q.2
variable {σ : St} {H : Hp} {Q : VK}
theorem zFB (h:t σ H fun vs H1=>Wk σc σ/\sp (vs++[]) H1 Q E):zBK sp E σc t σ H Q:=h
theorem zJg {R:Prop} (h:Wk σc σ) (q:R):Wk σc σ/\R:=⟨h,q⟩
end
section
variable {X : Cx} {tg : Expr}
def Yd (z:Str) (lo hi:Option Int) (st:Int):List Nat:=(Builtin.Str.strSliceIndices lo hi st z.length).filterMap ((Lt z)[·]?)
def zJv:V->Option Int->Option Int->Int->Hp->VK->Prop:=fun x lo hi st H Q=>∃ z:Str,x = .str z/\st≠0/\z.length<=sizeLine/\(Yd z lo hi st).length<=sizeLine /\ ∀ y,(y=T (Yd z lo hi st)\/(st=1/\y=z))->Q (.str y) H
def zJN (r:V->Option Int->Option Int->Int->Hp->VK->Prop) (te:TE) (tl th:TO) (ts:TE):TE:=fun σ H Q=>te σ H fun x H1=>tl σ H1 fun l H2=>th σ H2 fun u H3=>ts σ H3 fun s H4=>∃ i,s = .int i/\r x l u i H4 Q
theorem Ww {v:Value} {o:Option Int} (p:IsPart v o) : ∃ l:Option (Int × Tok),v=partValue l/\l.map (·.1)=o:=by
 cases p with
 | none=>exact ⟨none,rfl,rfl⟩
 | int i t=>exact ⟨some (i,t),rfl,rfl⟩
variable {te:TE}
theorem zBF {st:Expr} {lo hi:Option Expr} {ts:TE} {tl th:TO} {p2:Pos} (he:PE X e te) (hl:PO X lo tl) (hu:PO X hi th) (hs:PE X st ts):PE X (.Subscript e (.Slice lo hi (some st) p2) pos) (zJN zJv te tl th ts):=by
 intro pins s σ H Q I h
 refine Subscript_ (thn (he pins s σ H _ I h) fun v s1 zq=>?_)
 obtain ⟨x,H1,I1,r1,q1⟩:=zq
 refine wpAny_Slice (thn (hl pins s1 σ H1 _ I1 q1) fun vl s2 ⟨l,H2,I2,pl,q2⟩=>thn (hu pins s2 σ H2 _ I2 q2) fun vu s3 zq=>?_)
 obtain ⟨u,H3,I3,pu,q3⟩:=zq
 refine thn (hs pins s3 σ H3 _ I3 q3) fun vs s4 zq=>?_
 obtain ⟨y,H4,I4,r4,i,ey,z,ex,hst,hz,hzp,q4⟩:=zq
 subst ey ex
 obtain ⟨t,rfl⟩:=r1
 obtain ⟨t4,rfl⟩:=r4
 obtain ⟨l',rfl,hl'⟩:=Ww pl
 obtain ⟨u',rfl,hu'⟩:=Ww pu
 have I5:Inv X pins σ H4 { s4 with heap:=s4.heap.push { cls:=.type "slice", data:=.fields #[partValue l',partValue u',.int i t4] } }:=I4.kept (t':=s4.toks) fun b ob q=>Heap.get?_push_of_some _ q
 show wpAny (model X.prog X.w) X.A (subscriptTail e (.Slice lo hi (some st) p2) (.str z t) (.ref s4.heap.objs.size)) (EP X pins σ Q) X.xe { s4 with heap:=s4.heap.push { cls:=.type "slice", data:=.fields #[partValue l',partValue u',.int i t4] } }
 refine tail_any (ops:=[.ref s4.heap.objs.size,.str z t]) (typeIs_str _ _ _) PySem.F.slot_str_getitem.lookup ?_ (by with_unfolding_all rfl)
 refine wpAny_getItem_str_slice (l:=l') (u:=u') (st:=some (i,t4)) ⟨_,Heap.get?_push_size _ rfl,rfl,rfl⟩ (by simpa using hst) ?_
 have e:slicePicked z l' u' (some (i,t4))=Builtin.Str.strSliceIndices l u i z.length:=by unfold slicePicked;rw [hl',hu'];rfl
 unfold sliceMade
 rw [e]
 have ep:(⟨((Builtin.Str.strSliceIndices l u i z.length).filterMap (z.cps[·]?)).toArray⟩:Str)=T (Yd z l u i):=by
  unfold Yd T;congr 3;funext k;simp [Lt]
 rw [ep]
 refine post_val_or_str ⟨?_,fun t' k=>⟨.str _,H4,I5.tok _,⟨t',rfl⟩,q4 _ ?_⟩⟩
 ·split
  ·exact hz
  ·exact hzp
 ·split
  ·rename_i hc
   rw [Bool.and_eq_true] at hc
   exact .inr ⟨by simpa using hc.1,rfl⟩
  ·exact .inl rfl
theorem zIz {r:V->Option Int->Option Int->Int->Hp->VK->Prop} {ts:TE} {tl th:TO} (h:te σ H fun x H1=>tl σ H1 fun l H2=>th σ H2 fun u H3=>ts σ H3 fun s H4=>∃ i,s = .int i/\r x l u i H4 Q):zJN r te tl th ts σ H Q:=h
theorem X9 {is:List Nat} {tt:TT} (h1 : -(2 ^ 62)<=j) (h2:j < 2 ^ 62) (hz:j.toNat<=sizeLine) (Pv:Nat->List V->Hp->Prop) (h0:Pv 0 [] H) (hl : ∀ i ys H,i<=j.toNat->Pv i ys H->ys.length<=i)
  (hs : ∀ i ys H,i < j.toNat->Pv i ys H->tt (some (.int (0+i))::is.map fun j=>(σ[j]?).getD none) H fun ok H2=>if ok=true then te (some (.int (0+i))::is.map fun j=>(σ[j]?).getD none) H2 fun y H3=>NxC j.toNat Pv i (ys++[y]) H3 else NxC j.toNat Pv i ys H2)
  (hd : ∀ ys H,Pv j.toNat ys H -> ∀ p H',zW H H'->H p=none->H' p=some (.lst ys)->Q (.ref p) H'):zDD is tt te σ Q [.int j] H:=by
 refine ⟨j,rfl,h1,h2,fun i m ys H=>m=j.toNat - i/\i<=j.toNat/\Pv i ys H,⟨j.toNat,by simp,Nat.zero_le _,h0⟩,?_⟩
 rintro i m ys H ⟨rfl,hi,p⟩
 have ly:=hl i ys H hi p
 refine ⟨by omega,?_⟩
 by_cases hlt:i < j.toNat
 ·refine .inr ⟨hlt,by omega,fun x H' y=>?_⟩
  obtain ⟨e,y⟩:=y
  subst e y
  exact hs i ys _ hlt p
 ·have e:i=j.toNat:=by omega
  subst e
  exact .inl ⟨Nat.le_refl _,fun p' hp=>hd ys H p p' _ (jd hp _) hp zS⟩
end
def qp (K:W.Frag) (C:Addr):List Str->Prop
 | []=>True
 | f::r=>xq K C f/\qp K C r
theorem qp.at {f:Str} : ∀ {l:List Str},qp K C l->f ∈ l->xq K C f
 | [],_,h=>by cases h
 | g::r,n,h=>by
  rcases List.mem_cons.mp h with rfl | h
  ·exact n.1
  ·exact n.2.at h
def bfs (wd:Int) (f:Nat) (x:Str) (st:Bool) (more:List (Str × V)):List (Str × V):=("width", .int wd)::("fill", .str (T [f]))::("side", .str x)::("strict", .bl st)::more
def bns:List Str:=["width", "fill", "side", "strict"]
structure zc (K:W.Frag) (H:Hp) (a C:Addr) (wd:Int) (f:Nat) (x:Str) (st:Bool) (more:List (Str × V)):Prop where
 at_ : ∃ dx,H a=some (.ins C dx (bfs wd f x st more))
 cl:Cls K C
 na:qp K C (bns++more.map (·.1))
section
variable {K : W.Frag} {H H' : Hp} {a C : Addr} {wd : Int} {f : Nat} {x : Str} {st : Bool} {more : List (Str × V)} {g m : Str} {v : V}
theorem zc.same (s:zW H H') (F:zc K H a C wd f x st more):zc K H' a C wd f x st more:=⟨F.at_.imp fun _ e=>s _ _ e,F.cl,F.na⟩
theorem zBH:(bfs wd f x st more).lookup ("width" : Str)=some (.int wd):=yc
theorem zBb:(bfs wd f x st more).lookup ("fill" : Str)=some (.str (T [f])):=(qF (by decide +kernel)).trans yc
theorem zCd:(bfs wd f x st more).lookup ("side" : Str)=some (.str x):=(qF (by decide +kernel)).trans ((qF (by decide +kernel)).trans yc)
theorem Kv:(bfs wd f x st more).lookup ("strict" : Str)=some (.bl st):=(qF (by decide +kernel)).trans ((qF (by decide +kernel)).trans ((qF (by decide +kernel)).trans yc))
theorem Vq (h:g ∉ bns):(bfs wd f x st more).lookup g=more.lookup g:=by
 simp only [bns,mem_cons,List.not_mem_nil,or_false,not_or] at h
 exact (qF h.1).trans ((qF h.2.1).trans ((qF h.2.2.1).trans (qF h.2.2.2)))
theorem zc.fld (F:zc K H a C wd f x st more) (n:g ∈ bns++more.map (·.1)) (l:(bfs wd f x st more).lookup g=some v):xP K H a g v:=by
 obtain ⟨dx,e⟩:=F.at_
 exact ⟨C,dx,_,e,F.cl,F.na.at n,l⟩
theorem zc.width (F:zc K H a C wd f x st more):xP K H a "width" (.int wd):=F.fld (mem_append_left _ (by decide +kernel)) zBH
theorem zc.fill (F:zc K H a C wd f x st more):xP K H a "fill" (.str (T [f])):=F.fld (mem_append_left _ (by decide +kernel)) zBb
theorem zc.side (F:zc K H a C wd f x st more):xP K H a "side" (.str x):=F.fld (mem_append_left _ (by decide +kernel)) zCd
theorem zc.strict (F:zc K H a C wd f x st more):xP K H a "strict" (.bl st):=F.fld (mem_append_left _ (by decide +kernel)) Kv
theorem zc.own (F:zc K H a C wd f x st more) (h:g ∉ bns) (l:more.lookup g=some v) (n:g ∈ more.map (·.1)):xP K H a g v:=F.fld (mem_append_right _ n) ((Vq h).trans l)
theorem zc.meth (F:zc K H a C wd f x st more) (h:m ∉ bns) (l:more.lookup m=none):zDY H a C m:=by
 obtain ⟨dx,e⟩:=F.at_
 exact ⟨dx,_,e,(Vq h).trans l⟩
theorem jp (h:g ∉ bns):Z7 g v (bfs wd f x st more)=bfs wd f x st (Z7 g v more):=by
 simp only [bns,mem_cons,List.not_mem_nil,or_false,not_or] at h
 unfold bfs
 rw [zf (Ne.symm h.1),zf (Ne.symm h.2.1),zf (Ne.symm h.2.2.1),zf (Ne.symm h.2.2.2)]
end
theorem yG {f:Str} {ta:TE} (hK:X.K=K) (he:PE X e ta) (hb:attributeBase e f X.env (eval e X.env)=eval e X.env):PE X (.Attribute e f pos) (zIc K ta f):=hK ▸ j0 he hb
section
variable {X : Cx} {K : W.Frag} {σ : St} {H : Hp} {Q : VK} {is : List Nat} {tt : TT} {te : TE}
theorem Kw (bs:List Bool):((List.range bs.length).all fun i=>(bs[i]?).getD true)=bs.all id:=by
 rw [Bool.eq_iff_iff,List.all_eq_true,List.all_eq_true]
 constructor
 ·intro h b hb
  obtain ⟨i,hi,rfl⟩:=List.getElem_of_mem hb
  have:=h i (List.mem_range.mpr hi)
  simpa [getElem?_eq_getElem hi] using this
 ·intro h i hi
  have hi':=List.mem_range.mp hi
  have:=h _ (getElem_mem hi')
  simpa [getElem?_eq_getElem hi'] using this
def zJD (K:W.Frag):List V->Hp->VK->Prop:=fun xs H Q=>∃ (p:Addr) (bs:List Bool),xs=[.ref p]/\SqL K H p (bs.map V.bl)/\Q (.bl (bs.all id)) H
theorem zAx (hc:X.calm=true):yE X (.builtin "all") (zJD X.K):=by
 intro pins s σ H xs us Q I r h
 obtain ⟨p,bs,rfl,hp,q⟩:=h
 obtain ⟨u,rfl,ru⟩:=r.one
 cases ru
 obtain ⟨its,ri,pl,hz⟩:=I.list hp
 have hl:=pl.isList
 have hlt:p < s.heap.objs.size:=by obtain ⟨_,e,_⟩:=hl;exact Heap.lt_size e
 have hlen:its.length=bs.length:=by have:=ri.length;rw [length_map] at this;exact this.symm
 refine call_all_walk (wpAny_pyIter_list hl ?_)
 refine ⟨s.heap.objs.size,[s.heap.objs.size,p],[s.heap.objs.size],its.toArray.size,_,_,fun i=>(bs[i]?).getD true,rfl,Walks.list (A:=X.A.in1) (I.ok.hd hc) _ p (ne_of_lt hlt) its.toArray,
  ⟨⟨_,Heap.get?_push_size _ rfl,rfl,rfl⟩,hl.push _⟩,fun i v s' Q' E' hP hQ=>?_,fun h' tk hk=>?_⟩
 ·have hP':its[i]? = some v:=by simpa using hP
  have hi:i < bs.length:=by
   rcases lt_or_ge i its.length with z | z
   ·omega
   ·rw [List.getElem?_eq_none z] at hP';cases hP'
  obtain ⟨u,hu,ru⟩:=ri.get (i:=i) (x:=.bl bs[i]) (by rw [getElem?_map,getElem?_eq_getElem hi];rfl)
  rw [hP'] at hu;cases hu
  cases ru
  simp only [getElem?_eq_getElem hi,Option.getD_some] at hQ
  exact wpAny_truthy_bool hQ
 ·have e:((List.range its.toArray.size).all fun i=>(bs[i]?).getD true)=bs.all id:=by
   rw [List.size_toArray,hlen];exact Kw bs
  rw [e]
  exact ⟨.bl _,H,I.kept fun b x eb=>hk b x (fun hm=>by rw [List.mem_singleton.mp hm] at eb;exact lt_irrefl _ (Heap.lt_size eb)) (Heap.get?_push_of_some _ eb),rfl,q⟩
theorem zIH {p:Addr} {bs:List Bool} (h:SqL K H p (bs.map V.bl)) (q:Q (.bl (bs.all id)) H):zJD K [.ref p] H Q:=⟨p,bs,rfl,h,q⟩
theorem zHc {c:Nat} {a:List Nat} (q:Q (.bl (decide (c ∈ a))) H):zHz (.str (T [c])) (.str (T a)) H Q:=zFS (by
 have e:=PySem.StrLaws.found_one (T a) c
 rw [show (T [c])=(⟨#[c]⟩:Str) from rfl,e];exact q)
theorem zGr:bootBuiltins "all" = some (.builtin "all"):=by decide +kernel
def zDR (is:List Nat) (tt:TT) (te:TE) (σ:St) (Q:VK) (x:V) (H:Hp):Prop:=∃ z:Str,x = .str z/\zAJ is tt te σ Q (Its z) H
theorem zFL {tl:TE} (h:tl σ H (zDR is tt te σ Q)):WW is (zIb tl) tt te σ H Q:=h
theorem Vz {a:List Nat} (hz:a.length<=sizeLine) (Pv:Nat->List V->Hp->Prop) (h0:Pv 0 [] H) (hl : ∀ i ys H,i<=a.length->Pv i ys H->ys.length<=i)
  (hs : ∀ i c ys H,a[i]? = some c->i < a.length->Pv i ys H->tt (some (.str (T [c]))::is.map fun j=>(σ[j]?).getD none) H fun ok H2=>if ok=true then te (some (.str (T [c]))::is.map fun j=>(σ[j]?).getD none) H2 fun y H3=>NxC a.length Pv i (ys++[y]) H3 else NxC a.length Pv i ys H2)
  (hd : ∀ ys H,Pv a.length ys H -> ∀ p H',zW H H'->H' p=some (.lst ys)->Q (.ref p) H'):zDR is tt te σ Q (.str (T a)) H:=by
 refine ⟨T a,rfl,fun i m ys H=>m=a.length - i/\i<=a.length/\Pv i ys H,⟨a.length,by simp,Nat.zero_le _,h0⟩,?_⟩
 rintro i m ys H ⟨rfl,hi,p⟩
 have ly:=hl i ys H hi p
 refine ⟨by omega,?_⟩
 by_cases hlt:i < a.length
 ·refine .inr ⟨hlt,by omega,fun x H' y=>?_⟩
  obtain ⟨rfl,c,hc,rfl⟩:=y
  exact hs i c ys _ hc hlt p
 ·have e:i=a.length:=by omega
  subst e
  exact .inl ⟨rfl,fun p' hp=>hd ys H p p' _ (jd hp _) zS⟩
end
mutual
inductive Dt (K:W.Frag) (H:Hp):V->PyData->Prop
 | non:Dt K H .non .none
 | bl (b:Bool):Dt K H (.bl b) (.bool b)
 | int (i:Int):Dt K H (.int i) (.int i)
 | str (z:Str):Dt K H (.str z) (.str z)
 | lst {p:Addr} {xs:List V} {ds:List PyData}:SqL K H p xs->Dts K H xs ds->Dt K H (.ref p) (.list ds)
 | tup {p:Addr} {xs:List V} {ds:List PyData}:SqT K H p xs->Dts K H xs ds->Dt K H (.ref p) (.tuple ds)
inductive Dts (K:W.Frag) (H:Hp):List V->List PyData->Prop
 | nil:Dts K H [] []
 | cons {x:V} {d:PyData} {xs:List V} {ds:List PyData}:Dt K H x d->Dts K H xs ds->Dts K H (x::xs) (d::ds)
end
section
variable {X : Cx} {pins : List (Addr × Obj)} {σ : St} {H H' : Hp} {s : Shared} {K : W.Frag} {Q : VK}
mutual
theorem jP (I:Inv X pins σ H s) : ∀ {x:V} {d:PyData} {u:Value},Dt X.K H x d->jX x u -> ∃ as,Reads s.heap u d as
 | _,_,_,.non,r=>by cases r;exact ⟨_,.none⟩
 | _,_,_,.bl b,r=>by cases r;exact ⟨_,.bool b⟩
 | _,_,_,.int i,r=>by obtain ⟨t,rfl⟩:=r;exact ⟨_,.int i t⟩
 | _,_,_,.str z,r=>by obtain ⟨t,rfl⟩:=r;exact ⟨_,.str z t⟩
 | _,_,_,.lst h hs,r=>by
  cases r
  obtain ⟨its,ri,pl,_⟩:=I.list h
  obtain ⟨as,q⟩:=kU I hs ri
  obtain ⟨o,e,c,n,d⟩:=pl.isList
  exact ⟨_,.list e c d (by simpa using q)⟩
 | _,_,_,.tup h hs,r=>by
  cases r
  obtain ⟨its,ri,pl,_⟩:=I.tuple h
  obtain ⟨as,q⟩:=kU I hs ri
  obtain ⟨o,e,c,n,d⟩:=pl
  exact ⟨_,.tuple e c d (by simpa using q)⟩
theorem kU (I:Inv X pins σ H s) : ∀ {xs:List V} {ds:List PyData} {us:List Value},Dts X.K H xs ds->qE xs us -> ∃ as,ReadsAll s.heap us ds as
 | _,_,_,.nil,.nil=>⟨_,.nil⟩
 | _,_,_,.cons h hs,.cons r rs=>by
  obtain ⟨as,q⟩:=jP I h r
  obtain ⟨bs,qs⟩:=kU I hs rs
  exact ⟨_,.cons q qs⟩
end
mutual
theorem Dt.same (g:zW H H') : ∀ {x:V} {d:PyData},Dt K H x d->Dt K H' x d
 | _,_,.non=>.non
 | _,_,.bl b=>.bl b
 | _,_,.int i=>.int i
 | _,_,.str z=>.str z
 | _,_,.lst h hs=>.lst (g.seq h) (Dts.same g hs)
 | _,_,.tup h hs=>.tup (SqT.same h g) (Dts.same g hs)
theorem Dts.same (g:zW H H') : ∀ {xs:List V} {ds:List PyData},Dts K H xs ds->Dts K H' xs ds
 | _,_,.nil=>.nil
 | _,_,.cons h hs=>.cons (Dt.same g h) (Dts.same g hs)
end
def zJL (K:W.Frag):R2:=fun x y H Q=>∃ d,Dt K H x d/\Dt K H y d/\d.canLay0=true/\d.depth<=20/\Q (.bl false) H
theorem zHV (hu:X.A.units+20 < cLine):OpR X (compareOp .NotEq) (zJL X.K):=by
 intro pins s σ H x y v u Q I rx ry h
 obtain ⟨d,h1,h2,c,dp,q⟩:=h
 obtain ⟨as,r1⟩:=jP I h1 rx
 obtain ⟨bs,r2⟩:=jP I h2 ry
 refine SeqAt.compareNe_reads r1 r2 c c (by rw [Nat.min_self];omega) ⟨.bl _,H,I,rfl,?_⟩
 rw [SeqAt.eqv_refl d c];exact q
theorem zC1 (hr:jq k A):A.units+20 < cLine:=Nat.lt_of_le_of_lt (Nat.add_le_add_left (by decide:20<=64) _) hr.units
theorem zIN {x y:V} {d:PyData} (h1:Dt K H x d) (h2:Dt K H y d) (c:d.canLay0=true) (dp:d.depth<=20) (q:Q (.bl false) H):zJL K x y H Q:=⟨d,h1,h2,c,dp,q⟩
end
end L2
namespace L2
open PySem PySem.Spec PyProof.Rows
open List (append_assoc getElem?_eq_getElem length_append length_map length_singleton map_map mem_cons not_mem_nil)
open Nat (lt_or_ge ne_of_lt)
section
variable {X : Cx} {H : Hp} {Q : VK} {K : W.Frag}
def zBO:V->List V->Hp->VK->Prop:=fun x vs H Q=>∃ (l:Addr) (zs:List Str) (z:Str) (j:Nat),x = .ref l/\vs=[.str z]/\H l=some (.lst (zs.map V.str))/\zs[j]? = some z/\(∀ m,m < j->zs[m]? ≠ some z)/\j < 1000/\Q (.int j) H
theorem Qb:MtM X "list.index" zBO:=by
 intro pins s σ H x vs v us Q I rx rv h
 obtain ⟨l,zs,z,j,rfl,rfl,hH,hj,hno,hj1,q⟩:=h
 cases rx
 obtain ⟨u,rfl,ru⟩:=rv.one
 obtain ⟨_,its,n,r,hl,e⟩:=I.lstM hH
 have fl:(zs.map V.str).all JX=true:=by
  rw [List.all_eq_true];intro x hx
  obtain ⟨l,_,rfl⟩:=List.mem_map.mp hx
  rfl
 have it : ∀ (m:Nat) (hm:m < its.toArray.size),∃ (y:Str) (t:Tok),zs[m]? = some y/\its.toArray[m] = .str y t:=fun m hm=>by
  have hm':m < its.length:=by simpa using hm
  have hz:m < zs.length:=by have:=r.length;rw [length_map] at this;omega
  obtain ⟨w,hw,rw'⟩:=r.get (i:=m) (x:=.str zs[m]) (by rw [List.getElem?_map,getElem?_eq_getElem hz];rfl)
  obtain ⟨t,rfl⟩:=rw'
  refine ⟨zs[m],t,getElem?_eq_getElem hz,?_⟩
  rw [getElem?_eq_getElem hm'] at hw
  simpa using Option.some.inj hw
 have hjz:j < its.toArray.size:=by
  have:=r.length;rw [length_map] at this
  rcases lt_or_ge j zs.length with z1 | z1
  ·simp;omega
  ·rw [List.getElem?_eq_none z1] at hj;cases hj
 refine call_meets F.slot_list_index ⟨_,e,rfl⟩ F.entry_list_index (F.args_list_index_2 _ _) (SeqAt.list_indexAt l its.toArray n none #[] u (eqU (.str z)) j hjz (by omega) ?_ fun m hm hmj=>?_) ⟨e,fun y hy=>QQ ru rfl r fl y (by simpa using hy),⟨.int j,H,I.tok _,⟨_,rfl⟩,q⟩⟩
 ·obtain ⟨y,t,h1,h2⟩:=it j hjz
  rw [hj] at h1;cases h1
  rw [h2]
  show (z == z)=true
  simp
 ·obtain ⟨y,t,h1,h2⟩:=it m hm
  rw [h2]
  show (y == z)=false
  simpa using fun ee=>hno m hmj (by rw [h1,ee])
theorem Xg {l:Addr} {zs:List Str} {z:Str} (j:Nat) (h:H l=some (.lst (zs.map V.str))) (hj:zs[j]? = some z) (hno : ∀ m,m < j->zs[m]? ≠ some z) (hj1:j < 1000) (q:Q (.int j) H):zBO (.ref l) [.str z] H Q:=⟨l,zs,z,j,rfl,rfl,h,hj,hno,hj1,q⟩
end
def RsA (H:Hp) (v:V) (d:PyData):Prop:=(∃ z:Str,v = .str z/\d = .str z) \/ ∃ (q:Addr) (z:Str),v = .ref q/\H q=some (.tup [.str z])/\d = .tuple [.str z]
section
variable {H H' : Hp} {v : V} {d : PyData} {K : W.Frag}
theorem RsA.same (g:zW H H') (h:RsA H v d):RsA H' v d:=by
 rcases h with ⟨z,a,b⟩ | ⟨q,z,a,e,b⟩
 ·exact .inl ⟨z,a,b⟩
 ·exact .inr ⟨q,z,a,g _ _ e,b⟩
theorem RsA.dt (h:RsA H v d):Dt K H v d:=by
 rcases h with ⟨z,rfl,rfl⟩ | ⟨q,z,rfl,e,rfl⟩
 ·exact .str z
 ·exact .tup (SqT.of e) (.cons (.str z) .nil)
end
variable {l:List Nat}
theorem zIY (h:Asc l):PyData.strOk (T l)=true:=by
 unfold PyData.strOk
 show (l.toArray.all fun c=>decide (c < 0x110000))=true
 rw [Array.all_eq_true_iff_forall_mem]
 intro c hc
 have:=h c (by simpa using hc)
 exact decide_eq_true (by omega)
variable {a:List Nat}
theorem WD {s st:Int} (h0:0<=s) (h1:s < a.length) (h2:1<=st):Yd (T a) (some s) none st≠[]/\(∀ c ∈ Yd (T a) (some s) none st,c ∈ a)/\((Yd (T a) (some s) none st).length:Int)<=a.length+st:=by
 have e:Builtin.Str.strSliceIndices (some s) none st (T a).length=(List.range (((a.length:Int) - s+st - 1) / st).toNat).map fun k:Nat=>(s+st*(k:Int)).toNat:=by
  have l:((T a).length:Int)=a.length:=rfl
  unfold Builtin.Str.strSliceIndices
  dsimp only
  rw [l,if_neg (show ¬ s < 0 by omega),if_pos (show st > 0 by omega),if_pos (show st > 0 by omega),Int.min_eq_left (by omega),Int.max_eq_right h0]
  unfold sliceRange
  rw [if_pos (show st > 0 by omega),if_pos h1]
 have hc:1<=((a.length:Int) - s+st - 1) / st:=Int.le_ediv_of_mul_le (by omega) (by omega)
 have hc2:((a.length:Int) - s+st - 1) / st<=(a.length:Int) - s+st - 1:=Int.ediv_le_self _ (by omega)
 unfold Yd
 rw [e,JY]
 refine ⟨fun z=>?_,fun c hcm=>?_,?_⟩
 ·rw [List.filterMap_eq_nil_iff] at z
  have:=z (s+st*((0:Nat):Int)).toNat (List.mem_map.mpr ⟨0,List.mem_range.mpr (by omega),rfl⟩)
  rw [show (s+st*((0:Nat):Int)).toNat=s.toNat by simp,getElem?_eq_getElem (by omega)] at this
  cases this
 ·obtain ⟨i,_,hi⟩:=List.mem_filterMap.mp hcm
  exact List.mem_of_getElem? hi
 ·have:=List.length_filterMap_le (fun x=>a[x]?) ((List.range (((a.length:Int) - s+st - 1) / st).toNat).map fun k:Nat=>(s+st*(k:Int)).toNat)
  rw [length_map,List.length_range] at this
  omega
variable {X:Cx} {x:Str} {k:Nat} {ps:List Str} {sp:Sp} {pos:Pos}
theorem Qh {n:Nat} {p:Pos} (F:Has X.prog X.w X.K X.mg X.base x k ps sp) (hr:jq n X.A) (hg:Gl X x) (hk:k<=n:=by decide) (hdb:(x == ("__debug__" : Str))=false:=by decide) :
  PE X (.Call (.Name x p) [] [] pos) (Vb sp [] E0 zH1):=by
 obtain ⟨f,fd,G,hm,kp,hb⟩:=F
 exact zBW G (hr.mono hk) hg hm kp hb .nil qj hdb
section
variable {X : Cx} {pos : Pos}
def zFp (i j k:Nat) (ta:TA):TS:=fun D σ H=>ta σ H fun vs H1=>∃ v1 v2 v3,vs=[v1,v2,v3]/\D.nx (((σ.set k (some v3)).set j (some v2)).set i (some v1)) H1
variable {i j:Nat}
theorem zEa {y z:Str} {a b c:Expr} {ta:TA} {px py pz pt:Pos} {kt k2 pt2} (hc:X.calm=true) (hN:X.N.Nodup) (hi:X.N[i]? = some x) (hj:X.N[j]? = some y) (hk:X.N[k]? = some z)
  (hx:X.env.scope.names.lookup x=some .local) (hy:X.env.scope.names.lookup y=some .local) (hz:X.env.scope.names.lookup z=some .local) (ha:PA X [a,b,c] ta)
  (hw:swappedStores [.Tuple [.Name x px,.Name y py,.Name z pz] kt pt] (.Tuple [a,b,c] k2 pt2) X.env=pure (some [x,y,z]))
  (hs:swapsWithSole [.Tuple [.Name x px,.Name y py,.Name z pz] kt pt] (.Tuple [a,b,c] k2 pt2) pos.line X.env=pure false:=by rfl) :
  PS X (.Assign [.Tuple [.Name x px,.Name y py,.Name z pz] kt pt] (.Tuple [a,b,c] k2 pt2) pos) (zFp i j k ta):=by
 intro pins s σ H D I h
 rw [exec_Assign_arm]
 refine wpAny_bind (wpAny_standAt ?_)
 rw [hs]
 refine wpAny_bind (wpAny_pure ?_)
 rw [if_neg (by decide)]
 refine wpAny_bind (Tuple_ (thn (ha _ pins s σ H _ I h) fun us s1 zq=>?_))
 obtain ⟨vs,H1,I1,r1,q1⟩:=zq
 obtain ⟨v1,v2,v3,e1,q1⟩:=q1
 subst e1
 obtain ⟨u1,u2,u3,rfl,rv1,rv2,rv3⟩ : ∃ u1 u2 u3,us=[u1,u2,u3]/\jX v1 u1/\jX v2 u2/\jX v3 u3:=by
  cases r1 with
  | cons p q =>
   cases q with
   | cons p' q' =>
    cases q' with
    | cons p'' q'' =>
     cases q''
     exact ⟨_,_,_,rfl,p,p',p''⟩
 refine wpAny_newObj_type ?_ (by show 3<=sizeLine;decide)
 have I2:Inv X pins σ H1 { s1 with heap:=s1.heap.push { cls:=.type "tuple", data:=.seq [u1,u2,u3].toArray } }:=I1.kept (t':=s1.toks) fun b o e=>Heap.get?_push_of_some _ e
 rw [hw]
 refine wpAny_bind (wpAny_pure ?_)
 show wpAny (model X.prog X.w) X.A (do rule "assign.swapped-stores"; let items <- unpackItems (.ref s1.heap.objs.size) 3 none;assignInOrder [fun v=>bindName X.env z v,fun v=>bindName X.env y v,fun v=>bindName X.env x v] items.reverse;pure Flow.next) _ _ _
 refine wpAny_bind (wpAny_rule (wpAny_bind (unpackItems_tuple (items:=#[u1,u2,u3]) (I.ok.hd hc) (IsTup.new s1.heap _) fun h' hx'=>?_)))
 have I3:=I2.kept (h':=h') (t':=s1.toks) fun b o e=>hx' b o (ne_of_lt (Heap.lt_size e)) e
 show wpAny _ _ (assignInOrder [fun v=>bindName X.env z v,fun v=>bindName X.env y v,fun v=>bindName X.env x v] [u3,u2,u1] >>= fun _=>pure Flow.next) _ _ _
 refine wpAny_bind (assignInOrder_cons (wpAny_bindName (yC I3 hN hk (.inl hz) rv3 (fun s2 I4=>?_) (.inr hz))))
 refine assignInOrder_cons (wpAny_bindName (yC I4 hN hj (.inl hy) rv2 (fun s3 I5=>?_) (.inr hy)))
 refine assignInOrder_cons (wpAny_bindName (yC I5 hN hi (.inl hx) rv1 (fun s4 I6=>assignInOrder_nil (wpAny_pure ?_)) (.inr hx)))
 exact ⟨_,H1,I6,q1⟩
def zHF (i j k:Nat) (D:yr) (σ:St) (vs:List V) (H1:Hp):Prop:=∃ v1 v2 v3,vs=[v1,v2,v3]/\D.nx (((σ.set k (some v3)).set j (some v2)).set i (some v1)) H1
theorem zGA {ta:TA} {D:yr} {σ:St} {H:Hp} (h:ta σ H (zHF i j k D σ)):zFp i j k ta D σ H:=h
theorem zE7 {D:yr} {σ:St} {H:Hp} {v1 v2 v3:V} (h:D.nx (((σ.set k (some v3)).set j (some v2)).set i (some v1)) H):zHF i j k D σ [v1,v2,v3] H:=⟨v1,v2,v3,rfl,h⟩
end
section
variable {X : Cx} {H : Hp} {Q : VK}
def zF1:R2:=fun x y H Q=>∃ (c:Nat) (a:List Nat),x = .str (T [c])/\y = .str (T a)/\Q (.bl (!decide (c ∈ a))) H
theorem zDi:OpR X (compareOp .NotIn) zF1:=by
 intro pins s σ H x y v u Q I rx ry h
 obtain ⟨c,a,rfl,rfl,q⟩:=h
 refine YD pins s σ H _ _ v u Q I rx ry ⟨_,_,rfl,rfl,?_⟩
 have e:=PySem.StrLaws.found_one (T a) c
 rw [show (T [c])=(⟨#[c]⟩:Str) from rfl,e];exact q
theorem zFa {c:Nat} (q:Q (.bl (!decide (c ∈ a))) H):zF1 (.str (T [c])) (.str (T a)) H Q:=⟨c,a,rfl,rfl,q⟩
end
def low (b:Nat):Nat->Nat->List Nat
 | 0,_=>[]
 | p+1,n=>low b p (n / b)++[fc (n % b)]
theorem zA5 (b:Nat) : ∀ p n,(low b p n).length=p
 | 0,_=>rfl
 | p+1,n=>by unfold low;rw [length_append,zA5 b p];rfl
theorem fc0:fc 0=48:=by decide +kernel
theorem QL {b n:Nat} (h2:2<=b):1<=(yB b n).length:=by
 rcases lt_or_ge n b with h | h
 ·rw [ja h,length_singleton];exact Nat.le_refl _
 ·rw [kr h2 h,length_append,length_singleton];omega
variable {p:Nat}
theorem zCU {b n:Nat} (h2:2<=b):dgs b (p+1) n=dgs b p (n / b)++[fc (n % b)]:=by
 unfold dgs
 rcases lt_or_ge n b with h | h
 ·rw [ja h,Nat.div_eq_of_lt h,ja (by omega),Nat.mod_eq_of_lt h,fc0]
  rw [length_singleton,length_singleton,show p+1+1 - 1=p+1 by omega,show p+1 - 1=p by omega,List.replicate_succ']
 ·rw [kr h2 h,length_append,length_singleton,show p+1+1 - ((yB b (n / b)).length+1)=p+1 - (yB b (n / b)).length by omega,append_assoc]
theorem zA8 {b:Nat} (h2:2<=b) : ∀ p n,dgs b p n=yB b (n / b ^ p)++low b p n
 | 0,n=>by
  have:=QL (b:=b) (n:=n) h2
  unfold dgs low
  rw [show 0+1 - (yB b n).length=0 by omega,Nat.pow_zero,Nat.div_one,List.append_nil];rfl
 | p+1,n=>by
  rw [zCU h2,zA8 h2 p,Nat.div_div_eq_div_mul,Nat.pow_succ,Nat.mul_comm (b ^ p) b,append_assoc];rfl
theorem zBI {b n:Nat} (h2:2<=b):whl b p n=yB b (n / b ^ p)/\rst b p n=low b p n:=by
 have l:=zA5 b p n
 unfold whl rst
 rw [zA8 h2,length_append,l,Nat.add_sub_cancel]
 exact ⟨List.take_left' rfl,List.drop_left' rfl⟩
def pz (b p r:Nat):List Nat:=List.replicate (p - (yB b r).length) 48++yB b r
theorem zEr {b r:Nat} (h2:2<=b) (hp:0 < p):pz b (p+1) r=pz b p (r / b)++[fc (r % b)]:=by
 unfold pz
 rcases lt_or_ge r b with h | h
 ·rw [ja h,Nat.div_eq_of_lt h,ja (by omega),Nat.mod_eq_of_lt h,fc0]
  obtain ⟨q,rfl⟩ : ∃ q,p=q+1:=⟨p - 1,by omega⟩
  rw [length_singleton,length_singleton,show q+1+1 - 1=q+1 by omega,show q+1 - 1=q by omega,List.replicate_succ']
 ·rw [kr h2 h,length_append,length_singleton,show p+1 - ((yB b (r / b)).length+1)=p - (yB b (r / b)).length by omega,append_assoc]
theorem Wm {b:Nat} (h2:2<=b) : ∀ p n,low b p n=low b p (n % b ^ p)
 | 0,n=>rfl
 | p+1,n=>by
  unfold low
  rw [Wm h2 p (n / b)]
  have e1:n % b ^ (p+1) / b=n / b % b ^ p:=by rw [Nat.pow_succ,Nat.mul_comm,Nat.mod_mul_right_div_self]
  have e2:n % b ^ (p+1) % b=n % b:=Nat.mod_mod_of_dvd n (by rw [Nat.pow_succ];exact Nat.dvd_mul_left b (b ^ p))
  rw [e1,e2]
theorem zDV {b:Nat} (h2:2<=b) : ∀ p r,0 < p->r < b ^ p->low b p r=pz b p r
 | 1,r,_,h=>by
  rw [Nat.pow_one] at h
  unfold low pz low
  rw [ja h,Nat.mod_eq_of_lt h];rfl
 | p+2,r,_,h=>by
  rw [zEr h2 (by omega),<- zDV h2 (p+1) (r / b) (by omega) (Nat.div_lt_of_lt_mul (by rw [Nat.pow_succ,Nat.mul_comm] at h;exact h))]
  rfl
variable {z:Nat}
theorem zDm {b pt m n:Nat} (h2:2<=b):bdy b p pt z m n=if p=0 then gr z m (yB b (n / b ^ p)) else gr z m (yB b (n / b ^ p))++[pt]++pz b p (n % b ^ p):=by
 unfold bdy
 rw [(zBI h2).1,(zBI h2).2]
 split
 ·rfl
 ·rename_i hp
  rw [Wm h2,zDV h2 p _ (by omega) (Nat.mod_lt _ (Nat.pow_pos (by omega)))]
variable {K:W.Frag} {fd:FuncData} {it:Array Value}
theorem KN {t:Addr} {oc:Value} {od:Option Addr} {n:Nat} {osl:Array (Option Value)} (hl:K.lookup t=some ⟨oc,od,.seq it n,osl⟩) (hd:fd.defaults = .ref t)
  (h : ∀ us:List Value,us.length=ps.length -> ∃ k,bindArgs fd ⟨us,[]⟩=seqItems? fd.defaults >>= k/\k (some it)=pure (ps.zip us)):j9 K fd ps []:=fun s us hK hlen=>by
 rw [List.append_nil] at hlen ⊢
 obtain ⟨k,h1,h2⟩:=h us hlen
 exact .of_defaults hd (hK _ _ hl) rfl h1 h2
set_option maxHeartbeats 1000000
def C2 (h:Heap) (e:Addr):Prop:=∃ o vs,h.get? e=some o/\o.data = .fields vs/\vs[2]? = some .none
variable {h:Heap} {e:Addr} {oe:Obj} {vs:Array Value}
theorem jA {b:Addr} {o:Obj} (a:h.get? e=some oe) (d:oe.data = .fields vs) (q:h.get? b=some o) (n : ∀ us,o.data ≠ .fields us):b≠e:=by
 rintro rfl
 rw [a] at q
 cases q
 exact n vs d
variable {base:Heap} {a0 fl:Value}
theorem J8 {g:Heap} {l:List Env} {ob:Obj} {ts:Array Value} (FF:h.FunFrames base l) (sg:Heap.SlotsOnly (l.filterMap (·.frame)) h g) (a1:h.get? e=some oe)
  (a2:base.StaysIn h) (a3:base.get? e=none) (a4:oe.data = .fields vs) (a5:1 < vs.size) (a6:vs[0]? = some a0) (a7:vs[2]? = some .none) (b1:ob.data = .fields ts) (b2:ts[3]? = some fl) :
  Heap.NotedW base l e oe.cls a0 fl h ((g.push ob).update e (Obj.mapFields (·.setIfInBounds 1 (Value.ref g.objs.size))))/\C2 ((g.push ob).update e (Obj.mapFields (·.setIfInBounds 1 (Value.ref g.objs.size)))) e:=by
 have nf:e ∉ l.filterMap (·.frame):=fun m=>by
  obtain ⟨_,o,q,n⟩:=FF.mem m
  exact jA a1 a4 q n rfl
 have g1:g.get? e=some oe:=(sg.2.1 e nf).trans a1
 have ne:g.objs.size≠e:=fun z=>Nat.lt_irrefl _ (z ▸ Heap.lt_size g1)
 have d1:(Obj.mapFields (·.setIfInBounds 1 (Value.ref g.objs.size)) oe).data=_:=Obj.data_mapFields a4 _
 have self:((g.push ob).update e (Obj.mapFields (·.setIfInBounds 1 (Value.ref g.objs.size)))).get? e=some (Obj.mapFields (·.setIfInBounds 1 (Value.ref g.objs.size)) oe):=
  Heap.get?_update_self _ (Heap.get?_push_of_some _ g1) (Obj.isFreed_of_fields d1)
 have kp : ∀ {b:Addr} {o:Obj},b≠e->g.get? b=some o->((g.push ob).update e (Obj.mapFields (·.setIfInBounds 1 (Value.ref g.objs.size)))).get? b=some o:=fun {b o} n q=>by
  rw [Heap.get?_update_other _ _ (Ne.symm n)];exact Heap.get?_push_of_some _ q
 have new:((g.push ob).update e (Obj.mapFields (·.setIfInBounds 1 (Value.ref g.objs.size)))).get? g.objs.size=some ob:=by
  rw [Heap.get?_update_other _ _ (Ne.symm ne)];exact Heap.get?_push_size g (Obj.isFreed_of_fields b1)
 have bg:base.StaysIn g:=fun b o q=>(sg.2.1 b fun m=>by rw [(FF.mem m).1] at q;cases q).trans (a2 b o q)
 have oth : ∀ b o,h.get? b=some o->(∀ us,o.data ≠ .fields us) -> ∃ sl,((g.push ob).update e (Obj.mapFields (·.setIfInBounds 1 (Value.ref g.objs.size)))).get? b=some { o with slots:=sl }:=fun b o q n=>by
  obtain ⟨sl,q1⟩:=sg.2.2 b o q
  exact ⟨sl,kp (jA a1 a4 q n) q1⟩
 refine ⟨⟨fun b o q=>kp (fun z=>by rw [z,a3] at q;cases q) (bg b o q),FF.of_keeps fun b o q n=>?_,⟨_,_,g.objs.size,ob,ts,self,⟨Obj.cls_mapFields _ _,?_⟩,d1,?_,?_,ne,new,b1,b2⟩,oth⟩,⟨_,_,self,d1,?_⟩⟩
 ·obtain ⟨sl,q1⟩:=oth b o q n
  exact ⟨_,q1,rfl⟩
 ·rw [Array.getElem?_setIfInBounds_ne (by decide)];exact a6
 ·rw [Array.getElem?_setIfInBounds_self_of_lt a5]
 ·cases z:base.get? g.objs.size with
  | none=>rfl
  | some o=>exact absurd (Heap.lt_size (bg _ o z)) (Nat.lt_irrefl _)
 ·rw [Array.getElem?_setIfInBounds_ne (by decide)];exact a7
section
variable {M : Model} {A : Around} {E : Value -> Shared -> Prop} {s : Shared} {base : Heap} {env : Env} {outer : List Env} {L e : Addr} {Q : Unit -> Shared -> Prop}
theorem zCw {head:Value} {hadNext:Bool} (fr:A.frames=some (env::outer)) (FF:s.heap.FunFrames base (env::outer)) (ef:env.frame=some L) (a1:s.heap.get? e=some oe)
  (a2:base.StaysIn s.heap) (a3:base.get? e=none) (a4:oe.data = .fields vs) (a5:1 < vs.size) (a6:vs[0]? = some a0) (a7:vs[2]? = some .none)
  (k : ∀ h',Heap.NotedW base (env::outer) e oe.cls a0 (rawInt L) s.heap h'->C2 h' e->Q () { s with heap:=h' }) :
  wpAny M A (do let a <- frameOf env;let pl <- entryPlaceOf L hadNext;let b <- EntryCells.newEntry head a .none (rawInt L) .none pl;setField (.ref e) 1 b) Q E s:=by
 have nf:e ∉ (env::outer).filterMap (·.frame):=fun m=>by
  obtain ⟨_,o,q,n⟩:=FF.mem m
  exact jA a1 a4 q n rfl
 refine wpAny_bind (wpAny_frameOf_fun fr FF ef fun g sg=>wpAny_bind (wpAny_entryPlaceOf fun pl ip=>?_))
 unfold EntryCells.newEntry newFields
 refine wpAny_bind (wpAny_newObj_type (wpAny_setField (Heap.get?_push_of_some _ ((sg.2.1 e nf).trans a1)) a4 a5 ?_) (ip.sizeOk5 _ _ _ _ _))
 have nh:=J8 (ob:={ cls:=.type "traceback", dict:=none,data:=.fields ([head,.ref L,.none,rawInt L,.none]++(if pl.isEmpty then List.replicate 6 Value.none else pl)).toArray }) FF sg a1 a2 a3 a4 a5 a6 a7 rfl (fl:=rawInt L) (by simp)
 exact k _ nh.1 nh.2
variable {cls:Value}
theorem VL {l:List Env} (a2:base.StaysIn s.heap) (FF:s.heap.FunFrames base l) (tr:s.heap.TracedAtW base e cls a0 fl) (c2:C2 s.heap e)
  (k : ∀ h',base.StaysIn h'->h'.FunFrames base l->h'.TracedW base e cls a0->C2 h' e->s.heap.UpToSlots h'->Q () { s with heap:=h' }):wpAny M A (setFlight (.ref e) none) Q E s:=by
 obtain ⟨oe,vs,t,ot,ts,q1,q2,q3,q4,q5,q6,q7,q8,q9⟩:=tr
 obtain ⟨o',us,c1,c3,c4⟩:=c2
 rw [q1] at c1
 cases c1
 rw [q3] at c3
 cases c3
 unfold setFlight
 refine wpAny_bind (wpAny_field q1 q3 q4 ?_)
 have nn:(Value.ref t != Value.none)=true:=by simp
 rw [if_pos nn]
 have lt3:=(Array.getElem?_eq_some_iff.mp q9).1
 have ot' : ∀ {b:Addr},b≠t->(s.heap.update t (Obj.mapFields (·.setIfInBounds 3 ((none:Option Addr).elim Value.none fun f=>rawInt f)))).get? b=s.heap.get? b:=fun {b} n=>Heap.get?_update_other _ _ (Ne.symm n)
 have df:=Obj.data_mapFields q8 (·.setIfInBounds 3 ((none:Option Addr).elim Value.none fun f=>rawInt f))
 refine wpAny_setField q7 q8 lt3 (k _ (fun b o q=>(ot' fun z=>by rw [z,q5] at q;cases q).trans (a2 b o q)) (FF.of_keeps fun b o q n=>⟨o,(ot' (jA q7 q8 q n)).trans q,rfl⟩)
  ⟨oe,vs,t,_,_,(ot' (Ne.symm q6)).trans q1,q2,q3,q4,q5,q6,Heap.get?_update_self _ q7 (Obj.isFreed_of_fields df),df,?_⟩ ⟨oe,vs,(ot' (Ne.symm q6)).trans q1,q3,c4⟩ fun b o q n=>⟨o.slots,(ot' (jA q7 q8 q n)).trans q⟩)
 rw [Array.getElem?_setIfInBounds_self_of_lt lt3];rfl
theorem YK {args:List Value} (fr:A.frames=some (env::outer)) (ef:env.frame=some L) (a2:base.StaysIn h) (FF:h.FunFrames base (env::outer)) (mk:Heap.MadeExcOf h s.heap e cls args)
  (k : ∀ h' a0,Heap.FlyingW base outer e cls a0 h'->C2 h' e->s.heap.UpToSlots h'->Q () { s with heap:=h' }):wpAny M A (leaving env (.ref e)) Q E s:=by
 obtain ⟨t,m1,m2,m3⟩:=mk.there
 have out:base.get? e=none:=by
  cases z:base.get? e with
  | none=>rfl
  | some o=>have:=a2 e o z;rw [mk.new] at this;cases this
 have FF1:s.heap.FunFrames base (env::outer):=FF.of_keeps fun b o q _=>⟨o,mk.keeps b o q,rfl⟩
 unfold leaving noteFrame
 simp only [ef]
 refine wpAny_bind (wpAny_bind (wpAny_field m1 rfl (x:=.none) rfl ?_))
 have nn : ¬ ((Value.none != Value.none)=true):=by decide
 rw [if_neg nn]
 refine zCw fr FF1 ef m1 (fun b o q=>mk.keeps b o (a2 b o q)) out rfl (by show 1 < 6;decide) (a0:=.ref t) rfl rfl fun h1 nd c1=>?_
 obtain ⟨n1,n2,n3,n4⟩:=nd
 exact VL (s:={ s with heap:=h1 }) n1 n2 n3 c1 fun h2 w1 w2 w3 w4 w5=>k h2 _ ⟨w1,out,w2.2.2,w3⟩ w4 (Heap.UpToSlots.trans (h₂:=h1) n4 w5)
theorem zC3 (fr:A.frames=some (env::outer)) (ef:env.frame=some L) (fly:Heap.FlyingW base (env::outer) e cls a0 s.heap) (c2:C2 s.heap e)
  (k : ∀ h',Heap.HeldW base (env::outer) e cls a0 L h'->C2 h' e->s.heap.UpToSlots h'->Q () { s with heap:=h' }):wpAny M A (noteFrame (.ref e) env) Q E s:=by
 obtain ⟨f1,f2,f3,oe,vs,t,ot,ts,q1,⟨q2,q2'⟩,q3,q4,q5,q6,q7,q8,q9⟩:=fly
 obtain ⟨o',us,c1,c3,c4⟩:=c2
 rw [q1] at c1
 cases c1
 rw [q3] at c3
 cases c3
 subst q2
 unfold noteFrame
 simp only [ef]
 refine wpAny_bind (wpAny_field q1 q3 q4 ?_)
 have nn:(Value.ref t != Value.none)=true:=by simp
 have n3 : ¬ ((Value.none == rawInt L)=true):=by simp [rawInt]
 rw [if_pos nn]
 refine wpAny_bind (wpAny_field q7 q8 q9 ?_)
 rw [if_neg n3]
 have ot' : ∀ {b:Addr},b≠t->(s.heap.update t (Obj.mapFields (·.setIfInBounds 3 Value.none))).get? b=s.heap.get? b:=fun {b} n=>Heap.get?_update_other _ _ (Ne.symm n)
 refine wpAny_bind (wpAny_setField q7 q8 (Array.getElem?_eq_some_iff.mp q9).1 ?_)
 refine zCw fr (f3.of_keeps fun b o q n=>⟨o,(ot' (jA q7 q8 q n)).trans q,rfl⟩) ef ((ot' (Ne.symm q6)).trans q1) (fun b o q=>(ot' fun z=>by rw [z,q5] at q;cases q).trans (f1 b o q)) f2 q3 (Array.getElem?_eq_some_iff.mp q4).1 q2' c4 fun h1 nd cc=>?_
 exact k h1 ⟨nd.1,f2,nd.2.1,nd.2.2.1⟩ cc fun b o q n=>nd.2.2.2 b o ((ot' (jA q7 q8 q n)).trans q) n
theorem zCq {l:List Env} (hd:Heap.HeldW base l e cls a0 L s.heap) (c2:C2 s.heap e)
  (k : ∀ h',Heap.FlyingW base l e cls a0 h'->C2 h' e->s.heap.UpToSlots h'->Q () { s with heap:=h' }):wpAny M A (setFlight (.ref e) none) Q E s:=
 VL hd.1 hd.2.2.1 hd.2.2.2 c2 fun h' w1 w2 w3 w4 w5=>k h' ⟨w1,hd.2.1,w2,w3⟩ w4 w5
theorem zEP {l:List Env} (fl:Heap.FlyingW base l e cls a0 s.heap) (c2:C2 s.heap e)
  (k : ∀ h',Heap.FlyingW base l e cls a0 h'->C2 h' e->s.heap.UpToSlots h'->Q () { s with heap:=h' }):wpAny M A (setFlight (.ref e) none) Q E s:=
 VL fl.1 fl.2.2.1 fl.2.2.2.at c2 fun h' w1 w2 w3 w4 w5=>k h' ⟨w1,fl.2.1,w2,w3⟩ w4 w5
theorem Kq (fr:A.frames=some (env::outer)) (ef:env.frame=some L) (a1:s.heap.get? e=some oe) (a2:base.StaysIn s.heap) (FF:s.heap.FunFrames base (env::outer)) (a3:base.get? e=none)
  (a4:oe.data = .fields vs) (a5:vs[1]? = some .none) (a6:vs[0]? = some a0) (k : ∀ h',Heap.FlyingW base outer e oe.cls a0 h'->s.heap.UpToSlots h'->Q () { s with heap:=h' }):wpAny M A (leaving env (.ref e)) Q E s:=
 wpAny_leaving_firstW fr FF ef a1 a2 a3 a4 a5 a6 fun h' lf=>k h' ⟨lf.1,a3,lf.2.1.2.2,lf.2.2.1⟩ lf.2.2.2
end
theorem XU:entryFor table "proto.unchain" = some Builtin.«proto.unchain» := entryFor_of_tree (by kernel_rfl)
section
variable {prog : Program} {w : World} {A : Around} {E : Value -> Shared -> Prop} {s : Shared}
theorem KP {y:Addr} {Q:Value->Shared->Prop} (c2:C2 s.heap y) (k:Q .none s):wpAny (model prog w) A (runValue (.builtin "proto.unchain" ⟨[.ref e,.ref y,.ref y,.bool false],[]⟩)) Q E s:=by
 obtain ⟨o,vs,q1,q2,q3⟩:=c2
 refine wpAny_runValue (codeAny_builtin XU ?_)
 show wpAny _ _ (do let context <- field (.ref y) 2;_) _ _ _
 refine wpAny_bind (wpAny_field q1 q2 q3 ?_)
 have nn:((Value.none == Value.none)=true):=by decide
 rw [if_pos nn]
 exact wpAny_pure k
theorem QE {α:Type} {y:Addr} {Q:α->Shared->Prop} (hh:A.handled=some (.ref y)) (ne:y≠e) (c2:C2 s.heap y) (a1:s.heap.get? e=some oe) (a2:oe.data = .fields vs) (a3:2 < vs.size)
  (k:E (.ref e) { s with heap:=s.heap.update e (Obj.mapFields (·.setIfInBounds 2 (.ref y))) }):wpAny (model prog w) A (raiseNew (.ref e):Sem α) Q E s:=by
 unfold raiseNew
 refine wpAny_bind (wpAny_handled ?_)
 rw [hh]
 have nn:((Value.ref y != Value.ref e)=true):=by simp [ne]
 dsimp only
 rw [if_pos nn]
 refine wpAny_bind (wpAny_holding (KP c2 ?_))
 have up:wpAny (model prog w) A (setField (.ref e) 2 (.ref y)) (fun _ s'=>wpAny (model prog w) A (throw (.ref e):Sem α) Q E s') E s:=wpAny_setField a1 a2 a3 (wpAny_throw k)
 exact wpAny_bind up
end
section
variable {prog : Program} {w : World} {A : Around} {E : Value -> Shared -> Prop} {env : Env}
variable {nm q : Str} {C N : Addr} {bs bm : List Value} {hdct : Bool} {sn : List Str} {sub : List Value} {ab : Bool} {col : Option Bool} {dd : Option Addr} {k0 k1 k2 k3 k5 : Option Value} {newId : String}
theorem XH {s:Shared} {y:Addr} {x c:Sem Value} {Q:Flow->Shared->Prop} (hbase:bm.contains (.type "BaseException")=true) (hh:A.handled=some (.ref y))
  (h:wpAny (model prog w) A x (fun v s₁=>∃ e t,v = .ref e/\s₁.heap.get? C=some (excClassObj nm q C N bs bm hdct sn sub ab col dd k0 k1 k2 k3 k5 newId) /\
   s₁.heap.get? e=some { cls:=.ref C,data:=.fields #[.ref t,.none,.none,.none,.bool false,.none] }/\y≠e/\C2 s₁.heap y/\(∀ R:Value->Shared->Prop,R .none s₁->wpAny (model prog w) A c R E s₁) /\
   ∀ h',(∀ b,b≠e->h'.get? b=s₁.heap.get? b)->h'.get? e=some { cls:=.ref C,data:=.fields #[.ref t,.none,.ref y,.none,.bool true,.none] }->E (.ref e) { s₁ with heap:=h' }) E s) :
  wpAny (model prog w) A (raiseStmt env (some x) (some c)) Q E s:=by
 have cb:(Value.ref C::bm).contains (.type "BaseException")=true:=by rw [List.contains_cons,hbase,Bool.or_true]
 unfold raiseStmt
 refine wpAny_bind (wpAny_mono h (fun v s₁ h₁=>?_) fun _ _ z=>z)
 obtain ⟨e,t,rfl,hC,he,ne,c2,hc,k⟩:=h₁
 refine wpAny_bind (wpAny_holding (hc _ (wpAny_bind (wpAny_pure ?_))))
 obtain ⟨hp,g,d,tk,os⟩:=s₁
 repeat (first
  | with_reducible refine wpAny_loadPart_at he ?_
  | with_reducible refine wpAny_loadPart_at hC ?_
  | (with_reducible refine wpAny_isSubtype_exc hC ?_;rw [cb])
  | wp_step)
 have nC:C≠e:=by
  rintro rfl
  have z:=hC.symm.trans he
  simp [excClassObj] at z
 have u1:=Heap.get?_update_self (Obj.mapFields (·.setIfInBounds 3 Value.none)) he rfl
 have u2:=Heap.get?_update_self (Obj.mapFields (·.setIfInBounds 4 (Value.bool true))) u1 rfl
 have ot : ∀ b,b≠e->((hp.update e (Obj.mapFields (·.setIfInBounds 3 Value.none))).update e (Obj.mapFields (·.setIfInBounds 4 (Value.bool true)))).get? b=hp.get? b:=fun b n=>by
  rw [Heap.get?_update_other _ _ (Ne.symm n),Heap.get?_update_other _ _ (Ne.symm n)]
 have u3:=(ot C nC).trans hC
 have cy:C2 ((hp.update e (Obj.mapFields (·.setIfInBounds 3 Value.none))).update e (Obj.mapFields (·.setIfInBounds 4 (Value.bool true)))) y:=by
  obtain ⟨o,vs,z1,z2,z3⟩:=c2
  exact ⟨o,vs,(ot y ne).trans z1,z2,z3⟩
 generalize (hp.update e (Obj.mapFields (·.setIfInBounds 3 Value.none))).update e (Obj.mapFields (·.setIfInBounds 4 (Value.bool true)))=h2 at u2 ot u3 cy ⊢
 refine wpAny_loadPart_at u3 (wpAny_pure ?_)
 have ty:((excClassObj nm q C N bs bm hdct sn sub ab col dd k0 k1 k2 k3 k5 newId).cls == Value.type "type")=true:=by rfl
 rw [if_pos ty]
 refine wpAny_pure ?_
 unfold setFlight
 refine wpAny_bind (wpAny_bind (wpAny_field u2 rfl (x:=.none) rfl ?_))
 have nn : ¬ ((Value.none != Value.none)=true):=by decide
 rw [if_neg nn]
 refine wpAny_pure (QE hh ne cy u2 rfl (by show 2 < 6;decide) (k _ (fun b n=>?_) ?_))
 ·rw [Heap.get?_update_other _ _ (Ne.symm n)];exact ot b n
 ·exact Heap.get?_update_self (Obj.mapFields (·.setIfInBounds 2 (.ref y))) u2 rfl
end
structure zFE (h h':Heap) (e C:Addr):Prop where
 keeps : ∀ b o,h.get? b=some o->h'.get? b=some o
 new:h.get? e=none
 there : ∃ oe vs a0,h'.get? e=some oe/\oe.cls = .ref C/\oe.data = .fields vs/\vs[1]? = some .none/\vs[0]? = some a0
section
variable {prog : Program} {w : World} {A : Around} {E : Value -> Shared -> Prop} {env : Env}
variable {nm q : Str} {C N : Addr} {bs bm bmB : List Value} {hdct : Bool} {sn : List Str} {sub : List Value} {ab : Bool} {col : Option Bool} {dd : Option Addr} {k0 k1 k2 k3 k5 : Option Value} {B newId initId : String}
theorem zDa (F:ExcBaseFacts B newId initId bmB) {mN:Str->Option Value} {s:Shared} {m:Str} {np mp cpos cp:Pos} {j j':Nat} {y:Addr} {Q:Flow->Shared->Prop} (hb:bm.contains (.type "BaseException")=true) (hh:A.handled=some (.ref y)) (c2:C2 s.heap y)
  (hx : ∀ R:Value->Shared->Prop,R (.ref C) s->wpAny (model prog w) A (eval (.Name x np) env) R E s) (hC:s.heap.get? C=some (excClassObj nm q C N bs bm hdct sn sub ab col dd k0 k1 k2 k3 k5 newId)) (hN:s.heap.Ns N mN) (hni:mN "__init__" = none) (T:OwnTail s.heap bmB bm)
  (k : ∀ h' e tk,zFE s.heap h' e C->E (.ref e) { s with heap:=h',toks:=tk }) :
  wpAny (model prog w) A (exec (.Raise (some (.Call (.Name x np) [.Constant (.str m) j mp] [] cpos)) (some (.Constant .none j' cp)) pos) env) Q E s:=by
 rw [arm_exec_Raise]
 refine wpAny_bind (wpAny_standAt ?_)
 refine XH (y:=y) (C:=C) (nm:=nm) (q:=q) (N:=N) (bs:=bs) (bm:=bm) (hdct:=hdct) (sn:=sn) (sub:=sub) (ab:=ab) (col:=col) (dd:=dd) (k0:=k0) (k1:=k1) (k2:=k2) (k3:=k3) (k5:=k5) (newId:=newId) hb hh ?_
 refine wpAny_bind (wpAny_Call_ofName (hx _ ?_))
 unfold callWith
 refine wpAny_bind (wpAny_holding (Calls.evalArgs_plain (Calls.spliced_cons (Calls.Constant_str (k:=j) (pos:=mp) (Calls.spliced_nil ?_)))))
 refine wpAny_bind (wpAny_standAt ?_)
 have st:(((backTo cpos (starEach [Expr.Constant (Const.str m) j mp] env)).any fun x=>x.fst) || (backToKw cpos (keywordEach [] env)).any fun x=>x.fst.isNone)=false:=rfl
 simp only [st]
 obtain ⟨hp,g,d,tk,os⟩:=s
 refine wpAny_bind (wpAny_keeperOf_exc hC ?_)
 dsimp only
 have one:([]++[Value.str m tk]).length<=sizeLine:=by show 1<=sizeLine;decide
 refine wpAny_bind (wpAny_call_exc_subT (hrest:=one) F T hC hN hni fun h' e hm=>wpAny_bind (wpAny_holding (wpAny_point (wpAny_pure ?_))))
 refine wpAny_bind (wpAny_standAt (wpAny_pure ?_))
 obtain ⟨t,h1,h2,h3⟩:=hm.there
 have ny:y≠e:=by
  rintro rfl
  obtain ⟨o,vs,z1,_⟩:=c2
  have:=hm.new
  rw [z1] at this;cases this
 refine ⟨e,t,rfl,hm.keeps _ _ hC,h1,ny,?_,fun R hR=>wpAny_bind (wpAny_Constant_none (wpAny_bind (wpAny_standAt (wpAny_pure hR)))),fun h'' o1 o2=>?_⟩
 ·obtain ⟨o,vs,z1,z2,z3⟩:=c2
  exact ⟨o,vs,hm.keeps _ _ z1,z2,z3⟩
 ·refine k h'' e (tk+1) ⟨fun b o z=>?_,hm.new,⟨_,_,_,o2,rfl,rfl,rfl,rfl⟩⟩
  rw [o1 b (fun z1=>by have:=hm.new;rw [<- z1,z] at this;cases this)]
  exact hm.keeps b o z
end
def VO (P:Program) (w:World):CXT:=fun outer H s E e s'=>∃ (x C:Addr) (a0:Value) (H':Hp) (B:Heap),e = .ref x/\s'.os=s.os/\AllBare s'.gens/\Heap.FlyingW B outer x (.ref C) a0 s'.heap/\C2 s'.heap x /\
 (∀ h',B.StaysIn h'->s'.heap.UpToSlots h'->Un (frs outer) [] H H' s.heap h'/\HOk P w H' h')/\s.heap.get? x=none/\H' x=none/\E (.ref C) none H'
section
variable {P : Program} {w : World} {K : W.Frag} {mg : Str -> Option Value} {base : Heap} {N : List Str} {qual : Str} {scope : Scope} {f : Addr} {cd : Value} {A : Around} {outer : List Env} {s : Shared} {H : Hp} {E : XK} {CX : CXT}
variable {pins:List (Addr × Obj)} {σ:St} {H1:Hp} {s1:Shared} {h':Heap}
theorem Yx {h2:Heap} (I:Inv (yd CX P w K mg base N qual scope f cd A outer s H E) pins σ H1 s1) (kp : ∀ b o,s1.heap.get? b=some o->h'.get? b=some o) (f4:h'.UpToSlots h2) :
  ∀ h3,(W.hideAll s1.heap (frs (envOfC qual scope s.heap.objs.size f cd::outer))).StaysIn h3->h2.UpToSlots h3->Un (frs outer) [] H H1 s.heap h3/\HOk P w H1 h3:=by
 intro h3 st sm
 have hst : ∀ b ∈ frs (envOfC qual scope s.heap.objs.size f cd::outer),H1 b=none:=I.stkFree
 have FF:s1.heap.FunFrames base (envOfC qual scope s.heap.objs.size f cd::outer):=I.stack
 have old : ∀ b o,s.heap.get? b=some o->b≠s.heap.objs.size:=fun b o e=>ne_of_lt (Heap.lt_size e)
 have sub : ∀ b,b ∈ frs (envOfC qual scope s.heap.objs.size f cd::outer)->b=s.heap.objs.size\/b ∈ frs outer:=fun b hb=>List.mem_cons.mp (I.stkSub b hb)
 have here : ∀ b o,s1.heap.get? b=some o->b ∉ frs (envOfC qual scope s.heap.objs.size f cd::outer)->h3.get? b=some o:=fun b o e n=>st b o (W.hideAll_get _ e n)
 have fram : ∀ b o,s1.heap.get? b=some o->b ∈ frs (envOfC qual scope s.heap.objs.size f cd::outer) -> ∃ sl,h3.get? b=some { o with slots:=sl }:=fun b o e m=>by
  obtain ⟨_,o',e',nf⟩:=FF.mem m
  have z:o'=o:=Option.some.inj (e'.symm.trans e)
  subst z
  obtain ⟨sl,e2⟩:=f4 b o' (kp b o' e) nf
  obtain ⟨sl',e3⟩:=sm b _ e2 nf
  exact ⟨sl',e3⟩
 refine ⟨⟨fun b o e n hb hx=>?_,fun b o e n hb hx=>?_,fun b o e n hx=>I.base.free b o e n hx,fun b o e hx=>?_,I.base.tups,I.base.frzs,I.base.tbls⟩,fun a u e=>?_⟩
 ·exact here b o (I.base.keep b o e n hb hx) fun z=>(sub b z).elim (old b o e) hb
 ·obtain ⟨sl,e1⟩:=I.base.slot b o e n hb hx
  have mem:b ∈ frs (envOfC qual scope s.heap.objs.size f cd::outer):=by
   show b ∈ List.filterMap _ _
   rw [List.filterMap_cons]
   exact List.mem_cons_of_mem _ hb
  obtain ⟨sl',e2⟩:=fram b _ e1 mem
  exact ⟨sl',e2⟩
 ·obtain ⟨o',e1⟩:=I.base.there b o e hx
  by_cases mem:b ∈ frs (envOfC qual scope s.heap.objs.size f cd::outer)
  ·obtain ⟨sl,e2⟩:=fram b o' e1 mem
   exact ⟨_,e2⟩
  ·exact ⟨o',here b o' e1 mem⟩
 ·refine (I.hok a u e).stay (fun b ob hb eb=>here b ob eb fun z=>?_) (fun _ z=>z) (fun _ _ z=>z)
  have:=hst b z
  rcases hb with rfl | hb
  ·rw [e] at this;cases this
  ·rw [hb] at this;cases this
theorem WX {x:Addr} (I:Inv (yd CX P w K mg base N qual scope f cd A outer s H E) pins σ H1 s1) (nw:s1.heap.get? x=none):s.heap.get? x=none/\H1 x=none:=by
 constructor
 ·cases z:s.heap.get? x with
  | none=>rfl
  | some o =>
   obtain ⟨o',e1⟩:=I.base.there x o z (fun h=>nomatch h)
   rw [nw] at e1;cases e1
 ·cases z:H1 x with
  | none=>rfl
  | some o =>
   obtain ⟨ob,e1⟩:=(I.hok x o z).is
   rw [nw] at e1;cases e1
theorem ku (I:Inv (yd CX P w K mg base N qual scope f cd A outer s H E) pins σ H1 s1):s1.heap.FunFrames (W.hideAll s1.heap (frs (envOfC qual scope s.heap.objs.size f cd::outer))) (envOfC qual scope s.heap.objs.size f cd::outer):=by
 have FF:s1.heap.FunFrames base (envOfC qual scope s.heap.objs.size f cd::outer):=I.stack
 exact W.funFrames_hide FF fun env he b hb=>List.mem_filterMap.mpr ⟨env,he,hb⟩
theorem Zj {x C:Addr} {args:List Value}
  (I:Inv (yd (VO P w) P w K mg base N qual scope f cd A outer s H E) pins σ H1 s1) (hm:Heap.MadeExcOf s1.heap h' x (.ref C) args) (q:E (.ref C) none H1) :
  (yd (VO P w) P w K mg base N qual scope f cd A outer s H E).xe (.ref x) { s1 with heap:=h' }:=by
 have nw:=WX I hm.new
 refine YK (s:={ s1 with heap:=h' }) (base:=W.hideAll s1.heap (frs (envOfC qual scope s.heap.objs.size f cd::outer))) I.ok.frames rfl (fun b o e=>W.of_hideAll _ e) (ku I) hm fun h2 a0 f1 f2 f4=>?_
 exact ⟨x,C,a0,H1,_,rfl,I.os,I.bare,f1,f2,Yx I hm.keeps f4,nw.1,nw.2,q⟩
theorem zBj {x C:Addr} {tk:Nat}
  (I:Inv (yd (CXE P w) P w K mg base N qual scope f cd A outer s H E) pins σ H1 s1) (hm:zFE s1.heap h' x C) (q:E (.ref C) none H1) :
  (yd (CXE P w) P w K mg base N qual scope f cd A outer s H E).xe (.ref x) { s1 with heap:=h',toks:=tk }:=by
 have nw:=WX I hm.new
 obtain ⟨oe,vs,a0,m1,m2,m3,m4,m5⟩:=hm.there
 have FF:=ku I
 have bs:(W.hideAll s1.heap (frs (envOfC qual scope s.heap.objs.size f cd::outer))).StaysIn s1.heap:=fun b o e=>W.of_hideAll _ e
 have bx:(W.hideAll s1.heap (frs (envOfC qual scope s.heap.objs.size f cd::outer))).get? x=none:=by
  cases z:(W.hideAll s1.heap (frs (envOfC qual scope s.heap.objs.size f cd::outer))).get? x with
  | none=>rfl
  | some o=>have:=bs x o z;rw [hm.new] at this;cases this
 refine Kq (s:={ s1 with heap:=h',toks:=tk }) (base:=W.hideAll s1.heap (frs (envOfC qual scope s.heap.objs.size f cd::outer))) I.ok.frames rfl m1 (fun b o e=>hm.keeps b o (bs b o e)) (FF.of_keeps fun b o e _=>⟨o,hm.keeps b o e,rfl⟩) bx m3 m4 m5 fun h2 f1 f4=>?_
 rw [m2] at f1
 exact ⟨x,C,a0,H1,_,rfl,I.os,I.bare,f1,Yx I hm.keeps f4,nw.1,nw.2,q⟩
end
def zCf (X:Cx) (E:XK):Prop:=∀ (pins:List (Addr × Obj)) (σ:St) (H:Hp) (s:Shared) (h':Heap) (x C:Addr) (tk:Nat),Inv X pins σ H s->zFE s.heap h' x C->E (.ref C) none H->X.xe (.ref x) { s with heap:=h',toks:=tk }
variable {P:Program} {w:World} {mg:Str->Option Value} {N:List Str} {qual:Str} {A:Around} {s:Shared} {H:Hp} {E:XK}
theorem zEC {scope:Scope} {f:Addr} {cd:Value} {outer:List Env}:zCf (yd (CXE P w) P w K mg base N qual scope f cd A outer s H E) E:=
 fun pins σ H s h' x C tk I hm q=>zBj I hm q
variable {st:Stmt}
theorem Fun.okX2 {f:Addr} (F:Fun K x qual st f fd) (S:zO N ps (zG st)) (len : ∀ vs H Q E,sp vs H Q E->vs.length=ps.length)
  (hbody : ∀ (cdv:Value) (A:Around) (outer:List Env) (s:Shared) (H:Hp) (vs:List V) (Q:VK) (E:XK),jq k (A.deeper (envOfC qual (zG st) s.heap.objs.size f cdv))->sp vs H Q E ->
   WM (yd (VO P w) P w K mg base N qual (zG st) f cdv A outer s H E) E -> ∃ t,PSs (yd (VO P w) P w K mg base N qual (zG st) f cdv A outer s H E) (zu st) t/\t { nx:=fun _ H'=>Q .non H',rt:=Q } (start N vs) H):xG P w K mg base (VO P w) (k+1) f fd ps sp:=by
 obtain ⟨oc,od,kV,doc,pm,an,cdv,ct,osl,rfl,lk,hcd⟩:=F.ex
 exact VJ lk hcd S len fun A outer s H vs Q E hr hsp=>hbody cdv A outer s H vs Q E hr hsp fun pins σ H s h' x C args I hm q=>Zj I hm q
def zEs (P:Program) (w:World) (K:W.Frag) (mg:Str->Option Value) (base:Heap) (x:Str) (k:Nat) (ps:List Str) (sp:Sp):Prop:=
 ∃ (f:Addr) (fd:FuncData),xG P w K mg base (VO P w) k f fd ps sp/\mg x=some (.ref f)/\W.keepIn K (.ref f)=true/\j9 K fd ps []
def XP2 (X:Cx) (pins:List (Addr × Obj)) (σ:St) (E:XK) (e:Value) (s':Shared):Prop:=∃ H1 s1,Inv X pins σ H1 s1/\VO X.prog X.w X.stack H1 s1 E e s'
def Cx.tr2 (X:Cx) (pins:List (Addr × Obj)) (σc:St) (E:XK):Cx:={ X with pn:=X.pn++pins,xe:=XP2 X pins σc E }
section
variable {X : Cx} {pins pins0 : List (Addr × Obj)} {σ σc : St} {H : Hp} {s : Shared} {E : XK}
theorem Cx.Ok.tr2 (ok:X.Ok):(X.tr2 pins σc E).Ok:=⟨ok.mod,ok.kind,ok.glob,ok.blt,ok.above,ok.inj,ok.has,ok.cab,ok.hd,ok.frames,ok.stk,ok.exf,ok.bs,ok.bsz,ok.noex,ok.exfs,ok.funs,ok.frf⟩
theorem Cx.Ok.untr2 (ok:(X.tr2 pins σc E).Ok):X.Ok:=⟨ok.mod,ok.kind,ok.glob,ok.blt,ok.above,ok.inj,ok.has,ok.cab,ok.hd,ok.frames,ok.stk,ok.exf,ok.bs,ok.bsz,ok.noex,ok.exfs,ok.funs,ok.frf⟩
theorem Inv.tr2 (I:Inv X pins σ H s):Inv (X.tr2 pins σc E) [] σ H s:=⟨I.ok.tr2,I.os,I.bare,I.base,I.loc,I.cell,I.free,I.freeC,fun p hp=>I.pin p (by simpa [Cx.tr2] using hp),I.hok,I.len⟩
theorem Inv.untr2 (I:Inv (X.tr2 pins0 σc E) pins σ H s):Inv X pins0 σ H s:=⟨I.ok.untr2,I.os,I.bare,I.base,I.loc,I.cell,I.free,I.freeC,fun p hp=>I.pin p (List.mem_append_left _ hp),I.hok,I.len⟩
theorem SP.untr2 {D:yr} {f:Flow} {s':Shared} (h:SP (X.tr2 pins0 σc E) pins D f s'):SP X pins0 D f s':=by
 cases f with
 | next=>obtain ⟨σ',H',I,q⟩:=h;exact ⟨σ',H',I.untr2,q⟩
 | brk=>obtain ⟨σ',H',I,q⟩:=h;exact ⟨σ',H',I.untr2,q⟩
 | cont=>obtain ⟨σ',H',I,q⟩:=h;exact ⟨σ',H',I.untr2,q⟩
 | ret u=>obtain ⟨v,σ',H',I,r,q⟩:=h;exact ⟨v,σ',H',I.untr2,r,q⟩
end
section
variable {X : Cx} {pins0 : List (Addr × Obj)} {σc : St} {k n : Nat} {C : Addr} {ps : List Str} {sp : Sp} {E : XK} {x m : Str} {p np pos apos : Pos} {e o : Expr} {es : List Expr} {ta : TE} {t : TA}
theorem zCA {pins:List (Addr × Obj)} {σ:St} {Q:VK} {us:List Value} {vs:List V} {f:Addr} (F:xG X.prog X.w X.K X.mg X.base (VO X.prog X.w) k f fd ps sp) (hr:jq k X.A) (hb:j9 X.K fd ps [])
  (I:Inv (X.tr2 pins0 σc E) pins σ H s) (r:qE vs us) (wk:Wk σc σ) (h:sp (vs++[]) H Q E):wpAny (model X.prog X.w) X.A (call (.ref f) us) (EP (X.tr2 pins0 σc E) pins σ Q) (X.tr2 pins0 σc E).xe s:=by
 have r2:qE (vs++[]) (us++[]):=r.append .nil
 have hl:(us++[]).length=ps.length:=by rw [<- r2.length];exact F.len _ _ _ _ h
 have e0:Vy X.prog X.w X.K X.mg X.base X.A X.stack s H:=I.env0
 refine wpAny_call (codeAny_mono (F.run X.A X.stack s H ⟨us,[]⟩ (us++[]) (vs++[]) Q E hr e0 (hb s us I.kIn hl) r2 h) fun r s' hq=>?_)
 cases r with
 | error e=>exact ⟨H,s,I.untr2.weak wk.1 wk.2,hq⟩
 | ok fl =>
  cases fl with
  | ret u=>exact I.after hq
  | next=>exact False.elim hq
  | brk=>exact False.elim hq
  | cont=>exact False.elim hq
theorem Yb (F:zEs X.prog X.w X.K X.mg X.base x k ps sp) (hr:jq n X.A) (hg:Gl X x) (ha:PA (X.tr2 pins0 σc E) (e::es) t) (hk:k<=n:=by decide)
  (hdb:(x == ("__debug__" : Str))=false:=by decide) (he:starEach (e::es) X.env=(false,eval e X.env)::starEach es X.env:=by rfl) (hpl:(backTo pos (starEach es X.env)).any (·.1)=false:=by rfl) :
  PE (X.tr2 pins0 σc E) (.Call (.Name x p) (e::es) [] pos) (zBK sp E σc t):=by
 intro pins s σ H Q I h
 obtain ⟨f,fd,G,hm,kp,b⟩:=F
 refine wpAny_Call_Name_kw (qZ I hg hm ?_ hdb)
 refine W.callWith_K (h₀:=X.base) I.ok.mod.kin kp (thn (ha pos pins s σ H _ I h) fun us s1 ⟨vs,H1,I1,r,q⟩=>⟨I1.kIn,?_⟩) he hpl
 exact zCA (G.mono hk) hr b I1 r q.1 q.2
end
def zFz (K:W.Frag) (C1 C2 CR:Addr) (E:XK) (tb:St->XK->TS):TS:=fun D σ H=>∃ σc,tb σc (fun cls _ H2=>∃ C,cls = .ref C/\W.exmAny K (.ref C) [.ref C1,.ref C2]=some true/\E (.ref CR) none H2) D σ H
variable {C1:Addr} {j:Nat}
theorem zDh {c1 c2 cx msg:Str} {C2' CR:Addr} {p1 p2 tpos np mp cpos cp rpos hpos:Pos} {kk j':Nat} {body:List Stmt} {tb:St->XK->TS}
  (hst:X.stack=X.env::X.outer) (hfr:X.env.frame=some X.env.locals) (hc:X.calm=true) (ce:Exc X.K CR) (tk:zCf X E) (po : ∀ hd,PassesOwnAt (model X.prog X.w) (X.A.mark hd) X.A X.env X.xe)
  (g1:Gl X c1) (m1:X.mg c1=some (.ref C1)) (g2:Gl X c2) (m2:X.mg c2=some (.ref C2')) (gr:Gl X cx) (mr:X.mg cx=some (.ref CR)) (hb : ∀ pins σc E,PSs (X.tr2 pins σc E) body (tb σc E))
  (d1:(c1 == ("__debug__" : Str))=false:=by decide) (d2:(c2 == ("__debug__" : Str))=false:=by decide) (dr:(cx == ("__debug__" : Str))=false:=by decide) :
  PS X (.Try body [.ExceptHandler (some (.Tuple [.Name c1 p1,.Name c2 p2] kk tpos)) none [.Raise (some (.Call (.Name cx np) [.Constant (.str msg) j mp] [] cpos)) (some (.Constant .none j' cp)) rpos] hpos] [] [] pos) (zFz X.K C1 C2' CR E tb):=by
 intro pins s σ H D I h
 obtain ⟨σc,h⟩:=h
 refine wpAny_Try_except (wpAny_mono (hb pins σc _ [] s σ H D I.tr2 h) (fun f s1 q=>?_) fun er s' z=>?_)
 ·cases f with
  | next=>exact wpAny_execs_nil q.untr2
  | ret u=>exact q.untr2
  | brk=>exact q.untr2
  | cont=>exact q.untr2
 ·obtain ⟨H1,s1,I1,fl⟩:=z
  obtain ⟨y,C,a0,H2,B,rfl,hos,hbare,fly,cc,clo,hy0,hy2,C0,z0,exm,q⟩:=fl
  cases z0
  rw [hst] at fly
  refine zC3 (I.ok.frames.trans (congrArg some hst)) hfr fly cc fun h1 held cc1 sm1=>?_
  refine zCq held cc1 fun h2 fly2 cc2 sm2=>?_
  have cl : ∀ h',B.StaysIn h'->h2.UpToSlots h'->Inv X pins σc H2 { s' with heap:=h' }:=fun h' st sm=>by
   have c:=clo h' st ((sm1.trans sm2).trans sm)
   exact I1.call' (s':={ s' with heap:=h' }) hos c.1 c.2 hbare (fun b z=>nomatch z)
  have I2:Inv X pins σc H2 { s' with heap:=h2 }:=cl h2 fly2.1 (Heap.UpToSlots.refl _)
  have hhd:(X.A.mark (some (.ref y))).handled=some (.ref y):=rfl
  refine wpAny_handleBy_cons (codeAny_handlers_test ?_) (by intro q;cases q)
  refine wpAny_Tuple (wpAny_items_cons (qZ (I2.inExc y) g1 m1 (wpAny_items_cons (qZ (I2.inExc y) g2 m2 (wpAny_items_nil ⟨by size_fits,?_⟩) d2)) d1))
  have kp : ∀ b o,h2.get? b=some o->(h2.push { cls:=.type "tuple", data:=.seq [Value.ref C1,Value.ref C2'].toArray }).get? b=some o:=fun _ _ z=>Heap.get?_push_of_some _ z
  have ty2:W.Looks (model X.prog X.w) h2 (typeOf (.ref y)) (.ref C):=(isx fly2).ty
  refine (W.exm_tup2 (M:=model X.prog X.w) (I2.kIn.keeps kp) (ty2.keeps kp) (Heap.get?_push_size h2 rfl) exm).here ?_
  have up:h2.UpToSlots (h2.push { cls:=.type "tuple", data:=.seq [Value.ref C1,Value.ref C2'].toArray }):=Heap.UpToSlots.of_keeps kp
  have fly3:Heap.FlyingW B (X.env::X.outer) y (.ref C) a0 (h2.push { cls:=.type "tuple", data:=.seq [Value.ref C1,Value.ref C2'].toArray }):=by
   obtain ⟨f1,f2,f3,oe,vs,t,ot,ts,q1,q2,q3,q4,q5,q6,q7,q8,q9⟩:=fly2
   exact ⟨fun b o z=>kp b o (f1 b o z),f2,f3.of_keeps fun b o z _=>⟨o,kp b o z,rfl⟩,oe,vs,t,ot,ts,kp _ _ q1,q2,q3,q4,q5,q6,kp _ _ q7,q8,q9⟩
  have cc3:C2 (h2.push { cls:=.type "tuple", data:=.seq [Value.ref C1,Value.ref C2'].toArray }) y:=by
   obtain ⟨o,vs,z1,z2,z3⟩:=cc2
   exact ⟨o,vs,kp _ _ z1,z2,z3⟩
  refine codeAny_handlers_suite (zEP fly3 cc3 fun h4 fly4 cc4 sm4=>?_)
  have I4:Inv X pins σc H2 { s' with heap:=h4 }:=cl h4 fly4.1 (up.trans sm4)
  obtain ⟨tl,Nn,nm,qq,bs,hdct,sn,sub,ab,col,dd,k0,k1,k2,k3,k5,mN,hC,hN,hni,T⟩:=zAg I4.kIn ce
  refine wpAny_passesOwnAt (po (some (.ref y))) (wpAny_execs_cons ?_)
  refine zDa (s:={ s' with heap:=h4 }) (C:=CR) (bm:=tl) (mN:=mN) (N:=Nn) (nm:=nm) (q:=qq) (bs:=bs) (hdct:=hdct) (sn:=sn) (sub:=sub) (ab:=ab) (col:=col) (dd:=dd) (k0:=k0) (k1:=k1) (k2:=k2) (k3:=k3) (k5:=k5) PySem.F.excBase_ValueError (T.hasType PySem.F.excBase_ValueError.hasBase) hhd cc4 (fun R hR=>qZ (I4.inExc y) gr mr hR dr) hC hN hni T fun h5 e5 tk5 mr5=>?_
  exact tk pins σc H2 { s' with heap:=h4 } h5 e5 CR tk5 I4 mr5 q
variable {D:yr} {σ:St}
theorem zGy {C2 CR:Addr} {tb:St->XK->TS} (σc:St) (h:tb σc (fun cls _ H2=>∃ C,cls = .ref C/\W.exmAny K (.ref C) [.ref C1,.ref C2]=some true/\E (.ref CR) none H2) D σ H):zFz K C1 C2 CR E tb D σ H:=⟨σc,h⟩
theorem zCz {c d:Nat} (h:0<=fv c) (e:fv c=fv d):c=d:=by
 unfold fv at h e
 repeat' (split at h)
 all_goals repeat' (split at e)
 all_goals omega
theorem QJ {P:List Nat->Prop} (h0:P []) (hs : ∀ l c,P l->P (l++[c])) (l:List Nat):P l:=by
 have : ∀ n (l:List Nat),l.length=n->P l:=fun n=>by
  induction n with
  | zero=>intro l h;rw [List.length_eq_zero_iff.mp h];exact h0
  | succ n ih =>
   intro l h
   have ne:l≠[]:=fun z=>by rw [z] at h;cases h
   rw [<- List.dropLast_concat_getLast ne]
   exact hs _ _ (ih _ (by rw [List.length_dropLast];omega))
 exact this _ l rfl
theorem xR.left {b:Int} {m:List Nat} (h:xR b (l++m)):xR b l:=fun c hc=>h c (List.mem_append_left _ hc)
theorem xR.right {b:Int} {m:List Nat} (h:xR b (l++m)):xR b m:=fun c hc=>h c (List.mem_append_right _ hc)
theorem WZ {b:Int} (hb:2<=b) (l:List Nat):xR b l->0<=val b l/\val b l < b ^ l.length:=by
 refine QJ (P:=fun l=>xR b l->0<=val b l/\val b l < b ^ l.length) (fun _=>⟨Int.le_refl 0,by show (0:Int) < b ^ 0;rw [Int.pow_zero];decide⟩) (fun l c ih h=>?_) l
 obtain ⟨i1,i2⟩:=ih h.left
 obtain ⟨_,c1,c2⟩:=h.right c (List.mem_singleton.mpr rfl)
 rw [ZL,length_append,length_singleton,Int.pow_succ]
 have m1:=Int.mul_le_mul_of_nonneg_right (show val b l<=b ^ l.length - 1 by omega) (show 0<=b by omega)
 rw [Int.sub_mul,Int.one_mul] at m1
 have m2:=Int.mul_nonneg i1 (show 0<=b by omega)
 omega
theorem zD4 {b:Int} (hb:2<=b) (l:List Nat) : ∀ k,xR b l->xR b k->l.length=k.length->val b l=val b k->l=k:=by
 refine QJ (P:=fun l=>∀ k,xR b l->xR b k->l.length=k.length->val b l=val b k->l=k) (fun k _ _ h _=>(List.length_eq_zero_iff.mp h.symm).symm) (fun l c ih k hl hk he hv=>?_) l
 have ne:k≠[]:=fun z=>by rw [z,length_append] at he;cases he
 obtain ⟨k',d,rfl⟩ : ∃ k' d,k=k'++[d]:=⟨_,_,(List.dropLast_concat_getLast ne).symm⟩
 obtain ⟨_,c1,c2⟩:=hl.right c (List.mem_singleton.mpr rfl)
 obtain ⟨_,d1,d2⟩:=hk.right d (List.mem_singleton.mpr rfl)
 rw [ZL,ZL] at hv
 have q1:(val b l*b+fv c) / b=val b l:=by rw [Int.add_comm,Int.add_mul_ediv_right _ _ (by omega),Int.ediv_eq_zero_of_lt c1 c2,Int.zero_add]
 have q2:(val b k'*b+fv d) / b=val b k':=by rw [Int.add_comm,Int.add_mul_ediv_right _ _ (by omega),Int.ediv_eq_zero_of_lt d1 d2,Int.zero_add]
 have e1:val b l=val b k':=by rw [<- q1,hv,q2]
 have e2:fv c=fv d:=by rw [e1] at hv;omega
 rw [length_append,length_append,length_singleton,length_singleton] at he
 rw [ih k' hl.left hk.left (by omega) e1,zCz c1 e2]
theorem zCk {b:Int} (hb:2<=b) (l:List Nat):xR b l->1<=l.length->l.getD 0 0≠48->b ^ (l.length - 1)<=val b l:=by
 refine QJ (P:=fun l=>xR b l->1<=l.length->l.getD 0 0≠48->b ^ (l.length - 1)<=val b l) (fun _ h=>absurd h (by decide)) (fun l c ih h _ hn=>?_) l
 obtain ⟨_,c1,c2⟩:=h.right c (List.mem_singleton.mpr rfl)
 rw [ZL,length_append,length_singleton,Nat.add_sub_cancel]
 rcases Nat.eq_zero_or_pos l.length with z | z
 ·have z':=List.length_eq_zero_iff.mp z
  subst z'
  have nc:c≠48:=hn
  have:fv c≠fv 48:=fun e=>nc (zCz c1 e)
  have e48:fv 48=0:=by decide
  show b ^ 0<=(0:Int)*b+fv c
  rw [Int.pow_zero]
  omega
 ·have i:=ih h.left z (by rw [xr z] at hn;exact hn)
  have e:b ^ l.length=b ^ (l.length - 1)*b:=by rw [<- Int.pow_succ];congr 1;omega
  have m1:=Int.mul_le_mul_of_nonneg_right i (show 0<=b by omega)
  rw [e];omega
theorem zEV {b:Nat} (h2:2<=b) (h16:b<=16) (hp:p<=6) (hf:xR b l) (h1:p+1<=l.length) (h40:l.length<=40+p) (hz:l.getD 0 0=48->l.length=p+1):(val b l).toNat < b ^ (40+p)/\dgs b p (val b l).toNat=l:=by
 have hb:(2:Int)<=(b:Int):=by omega
 obtain ⟨v0,v1⟩:=WZ hb l hf
 have cp : ∀ k:Nat,((b ^ k:Nat):Int)=(b:Int) ^ k:=fun k=>by simp
 have mono : ∀ {j k:Nat},j<=k->(b:Int) ^ j<=(b:Int) ^ k:=fun {j k} h=>by
  rw [<- cp,<- cp];exact Int.ofNat_le.mpr (Nat.pow_le_pow_right (by omega) h)
 have nb:(val b l).toNat < b ^ (40+p):=by
  have a:=mono h40
  have c:=cp (40+p)
  omega
 obtain ⟨d1,d2,d3,d4,d5⟩:=QN h2 h16 hp nb
 refine ⟨nb,?_⟩
 have ev:val b (dgs b p (val b l).toNat)=val b l:=by rw [d2];omega
 obtain ⟨w0,w1⟩:=WZ hb _ d1
 refine zD4 hb _ _ d1 hf ?_ ev
 generalize dgs b p (val b l).toNat=D at *
 rcases Nat.lt_trichotomy D.length l.length with z | z | z
 ·have lo:=zCk hb l hf (by omega) (fun e=>by have:=hz e;omega)
  have m:=mono (show D.length<=l.length - 1 by omega)
  omega
 ·exact z
 ·have lo:=zCk hb D d1 (by omega) (fun e=>by have:=d5 e;omega)
  have m:=mono (show l.length<=D.length - 1 by omega)
  omega
def jO (p:Nat) (t:List Nat):List Nat:=if p=0 then t else t.take (t.length - p - 1)
def ZE (p:Nat) (t:List Nat):List Nat:=if p=0 then [] else t.drop (t.length - p)
def WE (p pt:Nat) (t:List Nat):Prop:=p=0\/(p+1<=t.length/\t.getD (t.length - p - 1) 0=pt)
def NZ (u:List Nat):Prop:=¬ (1 < u.length/\u.getD 0 0=48)
def IsB (b:Int) (p pt z m:Nat) (t:List Nat):Prop:=WE p pt t/\GG z m (jO p t)/\xR b (ug z (jO p t)++ZE p t)/\NZ (ug z (jO p t))
def KR (b:Int) (p z:Nat) (t:List Nat):Int:=val b (ug z (jO p t)++ZE p t)
variable {t:List Nat}
theorem YE {pt:Nat} (h:WE p pt t):(ZE p t).length=p:=by
 unfold ZE
 rcases h with h | h
 ·rw [if_pos h,h];rfl
 ·split
  ·rename_i z;rw [z];rfl
  ·rw [List.length_drop];omega
theorem zAO {pt:Nat} (h:WE p pt t):t=if p=0 then jO p t else jO p t++[pt]++ZE p t:=by
 rcases Nat.eq_zero_or_pos p with z | z
 ·rw [if_pos z];unfold jO;rw [if_pos z]
 ·rw [if_neg (by omega)]
  rcases h with h | ⟨h1,h2⟩
  ·omega
  ·unfold jO ZE
   rw [if_neg (by omega),if_neg (by omega)]
   have lt:t.length - p - 1 < t.length:=by omega
   have e1:t.drop (t.length - p - 1)=pt::t.drop (t.length - p):=by
    rw [List.drop_eq_getElem_cons lt,show t.length - p - 1+1=t.length - p by omega]
    rw [List.getD_eq_getElem?_getD,getElem?_eq_getElem lt] at h2
    rw [show t[t.length - p - 1]=pt from h2]
   rw [append_assoc,show [pt]++t.drop (t.length - p)=t.drop (t.length - p - 1) from e1.symm,List.take_append_drop]
theorem zBa {b pt m:Nat} (h2:2<=b) (h16:b<=16) (hp:p<=6) (h:IsB b p pt z m t):0<=KR b p z t/\(KR b p z t).toNat < b ^ (40+p)/\bdy b p pt z m (KR b p z t).toNat=t:=by
 obtain ⟨w,g,f,n⟩:=h
 have rl:=YE w
 have jn:=zAO w
 unfold KR
 generalize hU:ug z (jO p t)=u at *
 generalize ZE p t=r at *
 have g1:=g.1;have g2:=g.2.1;have g3:=g.2.2
 rw [hU] at g1 g2 g3
 obtain ⟨v1,v2⟩:=zEV h2 h16 hp f (by rw [length_append];omega) (by rw [length_append];omega) (fun e=>by
  rw [xr (by omega)] at e
  rw [length_append]
  have : ¬ 1 < u.length:=fun z=>n ⟨z,e⟩
  omega)
 refine ⟨(WZ (by omega) _ f).1,v1,?_⟩
 have ew:whl b p (val b (u++r)).toNat=u:=by
  unfold whl;rw [v2,length_append,show u.length+r.length - p=u.length by omega,List.take_left]
 have er:rst b p (val b (u++r)).toNat=r:=by
  unfold rst;rw [v2,length_append,show u.length+r.length - p=u.length by omega,List.drop_left]
 unfold bdy
 rw [ew,er,g3]
 exact jn.symm
theorem zHe {c:Nat} (h:c ∈ ug z t):c ∈ t:=by
 unfold ug at h
 split at h
 ·exact h
 ·rename_i hz
  have key : ∀ l:List Nat,c ∈ UJ z l->c ∈ l:=fun l=>by
   refine QJ (P:=fun l=>c ∈ UJ z l->c ∈ l) (fun h=>by rw [xy] at h;exact h) (fun l x ih h=>?_) l
   rw [W6 (by omega) l.length l (Nat.le_refl _)] at h
   rcases List.mem_append.mp h with h | h
   ·exact List.mem_append_left _ (ih h)
   ·split at h
    ·cases h
    ·exact List.mem_append_right _ h
  have:=key _ (List.mem_reverse.mp h)
  exact List.mem_reverse.mp this
theorem K6:t.take (jO p t).length=jO p t:=by
 unfold jO
 split
 ·exact List.take_length
 ·rw [List.length_take,Nat.min_def]
  split
  ·rfl
  ·rw [List.take_length,List.take_of_length_le (by omega)]
theorem Kb {pt:Nat} (h:WE p pt t):t.drop ((jO p t).length+1)=ZE p t:=by
 unfold jO ZE
 split
 ·exact List.drop_of_length_le (by omega)
 ·rename_i n
  rcases h with h | h
  ·exact absurd h n
  ·rw [List.length_take,Nat.min_eq_left (by omega),show t.length - p - 1+1=t.length - p by omega]
theorem Wh:(jO p t).length<=t.length:=by
 unfold jO;split
 ·exact Nat.le_refl _
 ·rw [List.length_take];omega
theorem zBp (h:Asc t):Asc (ug z (jO p t)++ZE p t):=by
 intro c hc
 rcases List.mem_append.mp hc with hc | hc
 ·have:=zHe hc
  unfold jO at this
  split at this
  ·exact h c this
  ·exact h c (List.mem_of_mem_take this)
 ·unfold ZE at hc
  split at hc
  ·cases hc
  ·exact h c (List.mem_of_mem_drop hc)
section
variable {X : Cx} {H : Hp} {Q : VK} {K : W.Frag}
theorem isStrOf_shape {k:Str} {v:Value} (h:Value.isStrOf k v=true) : ∃ t,v = .str k t:=by
 rcases qN (k:=Sum.inr k) h with ⟨i,t,z,_⟩ | ⟨x,t,z,e⟩
 ·cases z
 ·cases z;exact ⟨t,e⟩
end
def wfs (L:Addr) (n:Nat):List (Str × V):=[("words", .ref L),("at", .int n)]
def Wr (K:W.Frag) (C:Addr) (H:Hp) (a:Addr) (Zo:List (List Nat)):Prop:=∃ (dx L:Addr) (ws:List (List Nat)) (n:Nat),H a=some (.ins C dx (wfs L n))/\SqL K H L (tsV ws)/\n<=ws.length/\ws.drop n=Zo/\ws.length<=100
section
variable {K : W.Frag} {C : Addr} {H H' : Hp} {a L dx : Addr} {n : Nat} {Zo : List (List Nat)}
theorem Wr.same (g:zW H H') (h:Wr K C H a Zo):Wr K C H' a Zo:=let ⟨d,L,ws,n,e1,e2,e3,e4,e5⟩:=h;⟨d,L,ws,n,g.at e1,g.seq e2,e3,e4,e5⟩
theorem SB.tup {xs:List V} {p:Addr} (s:SB a H H') (w:Wr K C H a Zo) (h:H p=some (.tup xs)):H' p=some (.tup xs):=by
 obtain ⟨d,L,ws,n,e1,_⟩:=w
 exact s p _ (fun z=>by subst z;rw [e1] at h;cases h) h
theorem SB.lst {xs:List V} {p:Addr} (s:SB a H H') (w:Wr K C H a Zo) (h:H p=some (.lst xs)):H' p=some (.lst xs):=by
 obtain ⟨d,L,ws,n,e1,_⟩:=w
 exact s p _ (fun z=>by subst z;rw [e1] at h;cases h) h
theorem SB.trans {F:Hp} (s:SB a H H') (t:SB a H' F):SB a H F:=fun b o n e=>t b o n (s b o n e)
theorem SB.of (g:zW H H'):SB a H H':=fun b o _ e=>g _ _ e
end
def zFZ:R2:=fun x y H Q=>y = .non/\Q (.bl (!decide (x = .non))) H
theorem V2:OpR X (compareOp .IsNot) zFZ:=zFA
variable {Q:VK}
theorem zDn {i:Int} (q:Q (.bl true) H):zFZ (.int i) .non H Q:=⟨rfl,by rw [decide_eq_false (fun z=>nomatch z)];exact q⟩
section
variable {X : Cx} {tg : Expr}
end
section
variable {σ : St} {H : Hp} {Q : VK} {D : yr} {K : W.Frag}
def zJW:R2:=fun x y H Q=>∃ i j,x = .str i/\y = .str j/\Q (.bl (decide (i.cps.toList < j.cps.toList))) H
def ltT (a b:List Nat):Bool:=decide ((T a).cps.toList < (T b).cps.toList)
theorem zID {b:List Nat} (q:Q (.bl (ltT a b)) H):zJW (.str (T a)) (.str (T b)) H Q:=⟨_,_,rfl,rfl,q⟩
theorem zGD:OpR X (compareOp .Lt) zJW:=zAZ
end
def zBg (t1 t2:TE):TE:=fun σ H Q=>t1 σ H Q\/t2 σ H Q
section
variable {X : Cx} {σ : St} {H : Hp} {Q : VK} {K : W.Frag} {w : World}
variable {t1 t2:TE}
theorem yV {e:Expr} (h1:PE X e t1) (h2:PE X e t2):PE X e (zBg t1 t2):=fun pins s σ H Q I h=>h.elim (h1 pins s σ H Q I) (h2 pins s σ H Q I)
theorem K9 (h:t1 σ H Q):zBg t1 t2 σ H Q:=.inl h
theorem XE (h:t2 σ H Q):zBg t1 t2 σ H Q:=.inr h
end
section
variable {X : Cx} {CX : CXT} {k : Nat} {f : Addr} {fd : FuncData} {ps : List Str} {sp : Sp} {dvs : List V} {ds : List Value} {E : XK} {x : Str} {p pos : Pos} {e a : Expr} {es : List Expr} {te ta : TE} {t : TA}
structure zDq (P:Program) (w:World) (K:W.Frag) (mg:Str->Option Value) (base:Heap) (CX:CXT) (k:Nat) (f:Addr) (fd:FuncData) (ps:List Str) (sp:Sp):Prop where
 len : ∀ vs H Q E,sp vs H Q E->vs.length=ps.length
 run : ∀ (A:Around) (outer:List Env) (s:Shared) (H:Hp) (args:Args) (us:List Value) (vs:List V) (Q:VK) (E:XK),0 < s.toks->jq k A->Vy P w K mg base A outer s H->BindsTo s fd args (ps.zip us)->qE vs us->sp vs H Q E ->
  codeAny (model P w) A (.call (.ref f) args) (CR CX outer P w H s Q E) s
end
def zIC (X:Cx) (st:List Stmt) (t:TS):Prop:=
 ∀ (pins:List (Addr × Obj)) (s:Shared) (σ:St) (H:Hp) (D:yr),0 < s.toks->Inv X pins σ H s->t D σ H->wpAny (model X.prog X.w) X.A (execs st X.env) (SP X pins D) X.xe s
theorem zIC.nox {st:List Stmt} {t:TS} (h:zIC X.nox st t):zIC X st t:=fun pins s σ H D l I hw =>
 wpAny_mono (h pins s σ H D l (I.wish _) hw) (fun _ _ q=>q.unwish) fun _ _ z=>False.elim z
theorem zDq.mono {CX:CXT} {f:Addr} (F:zDq P w K mg base CX j f fd ps sp) (h:j<=k) :
  zDq P w K mg base CX k f fd ps sp:=⟨F.len,fun A outer s H args us vs Q E l hr=>F.run A outer s H args us vs Q E l (hr.mono h)⟩
def Df (K:W.Frag) (x:Str) (st:Stmt) (f:Addr):Prop:=∃ (oc:Value) (od:Option Addr) (kV dc pm:Value) (an:Option Addr) (cd ct:Value) (sl:Array (Option Value)),W.nsIn K mainGlobals x=some (some (.ref f)) /\
 K.lookup f=some ⟨oc,od,.func (W.fnOf x x (qG st) (zu st) (zG st) .none kV dc pm an cd ct),sl⟩/\W.codeIn K cd x=true/\W.keepIn K (.ref f)=true
def Dm (K:W.Frag) (q m:Str) (st:Stmt) (dV:Value) (C f:Addr):Prop:=∃ (oc:Value) (od:Option Addr) (kV dc pm:Value) (an:Option Addr) (cd ct:Value) (sl:Array (Option Value)),W.findIn K (.ref C) m=some (some (.ref f)) /\
 K.lookup f=some ⟨oc,od,.func (W.fnOf m q (qG st) (zu st) (zG st) dV kV dc pm an cd ct),sl⟩/\W.codeIn K cd q=true/\W.keepIn K (.ref f)=true/\W.isFn K (.ref f)=true
section
variable {K : W.Frag} {x q m : Str} {st : Stmt} {f C t : Addr} {oc dV : Value} {od : Option Addr} {kV dc pm : Value} {an : Option Addr} {cd ct : Value} {sl : Array (Option Value)}
theorem zI4 (a:W.nsIn K mainGlobals x=some (some (.ref f))) (l:K.lookup f=some ⟨oc,od,.func (W.fnOf x x (qG st) (zu st) (zG st) .none kV dc pm an cd ct),sl⟩) (c:W.codeIn K cd x=true) (k:W.keepIn K (.ref f)=true):Df K x st f:=⟨oc,od,kV,dc,pm,an,cd,ct,sl,a,l,c,k⟩
theorem zED (a:W.findIn K (.ref C) m=some (some (.ref f))) (l:K.lookup f=some ⟨oc,od,.func (W.fnOf m q (qG st) (zu st) (zG st) dV kV dc pm an cd ct),sl⟩) (c:W.codeIn K cd q=true) (k:W.keepIn K (.ref f)=true) (n:W.isFn K (.ref f)=true):Dm K q m st dV C f:=⟨oc,od,kV,dc,pm,an,cd,ct,sl,a,l,c,k,n⟩
variable {h : Heap} {mg : Str -> Option Value} {P : Program} {w : World} {base : Heap} {k : Nat} {ps : List Str} {sp : Sp} {CX : CXT}
def Gd (P:Program) (w:World) (K:W.Frag) (mg:Str->Option Value) (base:Heap) (CX:CXT) (f:Addr) (k:Nat) (ps:List Str) (sp:Sp):Prop:=∃ fd,xG P w K mg base CX k f fd ps sp/\W.keepIn K (.ref f)=true/\W.isFn K (.ref f)=true/\j9 K fd ps []
theorem zFf (d:Dm K q m st .none C f) (ok : ∀ fd,Yu K m q st f fd->xG P w K mg base CX k f fd ps sp)
  (hb : ∀ (kV dc pm:Value) (an:Option Addr) (cd ct:Value) (us:List Value),us.length=ps.length->bindArgs (W.fnOf m q (qG st) (zu st) (zG st) .none kV dc pm an cd ct) ⟨us,[]⟩=pure (ps.zip us)):Gd P w K mg base CX f k ps sp:=by
 obtain ⟨_,_,_,_,_,_,_,_,_,a,l,c,k',n⟩:=d
 exact ⟨_,ok _ (zAs l c k'),k',n,.all (hb _ _ _ _ _ _)⟩
theorem zGW {oc':Value} {od':Option Addr} {n':Nat} {osl:Array (Option Value)} (d:Dm K q m st (.ref t) C f) (hl:K.lookup t=some ⟨oc',od',.seq it n',osl⟩) (ok : ∀ fd,Yu K m q st f fd->xG P w K mg base CX k f fd ps sp)
  (hb : ∀ (kV dc pm:Value) (an:Option Addr) (cd ct:Value) (us:List Value),us.length=ps.length -> ∃ k,bindArgs (W.fnOf m q (qG st) (zu st) (zG st) (.ref t) kV dc pm an cd ct) ⟨us,[]⟩=seqItems? (.ref t) >>= k/\k (some it)=pure (ps.zip us)):Gd P w K mg base CX f k ps sp:=by
 obtain ⟨_,_,_,_,_,_,_,_,_,a,l,c,k',n⟩:=d
 exact ⟨_,ok _ (zAs l c k'),k',n,KN hl rfl (hb _ _ _ _ _ _)⟩
theorem zJ4 (g:Gd P w K mg base CX f k ps sp) (a:W.findIn K (.ref C) m=some (some (.ref f))):zHw P w K mg base CX C m k ps sp:=let ⟨fd,o,kp,fn,b⟩:=g;⟨f,fd,o,⟨a,fn,kp⟩,b⟩
theorem zKA (g:Gd P w K mg base CX f k ps sp) (i1:W.makesIn K C=true) (i2:W.findIn K (.ref C) "__init__" = some (some (.ref f))) (i4:W.keepIn K (.ref C)=true):zIA P w K mg base CX C k ps sp:=let ⟨fd,o,kp,fn,b⟩:=g;⟨f,fd,o,⟨i1,i2,fn,i4⟩,b⟩
theorem zJ8 (g:Gd P w K mg base CX f k ps sp) (c1:W.specialIn K (.ref C) "__getattribute__" = some (some (.builtin "type.__getattribute__"))) (c2:W.readsIn K C (.type "type")=true) (c3:W.findCls K (.ref C) (.type "type") m=some (.val (.ref f))):zHv P w K mg base CX C m k ps sp:=let ⟨fd,o,kp,fn,b⟩:=g;⟨f,fd,o,⟨c1,c2,c3,kp⟩,b⟩
end
section
variable {K : W.Frag} {σ : St} {H : Hp} {Q : VK} {is : List Nat} {tt : TT} {te : TE}
theorem qX {a:Addr} {xs:List V} (hx:SqL K H a xs) (hz:xs.length<=sizeLine) (Pv:Nat->List V->Hp->Prop) (h0:Pv 0 [] H) (hl : ∀ i ys H,i<=xs.length->Pv i ys H->SqL K H a xs/\ys.length<=i)
  (hs : ∀ i x ys H,xs[i]? = some x->i < xs.length->Pv i ys H->tt (some x::is.map fun j=>(σ[j]?).getD none) H fun ok H2=>if ok=true then te (some x::is.map fun j=>(σ[j]?).getD none) H2 fun y H3=>NxC xs.length Pv i (ys++[y]) H3 else NxC xs.length Pv i ys H2)
  (hd : ∀ ys H,Pv xs.length ys H -> ∀ p H',zW H H'->H p=none->H' p=some (.lst ys)->Q (.ref p) H'):zCy K is tt te σ Q (.ref a) H:=by
 refine ⟨a,rfl,⟨xs,hx⟩,fun i m ys H=>m=xs.length - i/\i<=xs.length/\Pv i ys H,⟨xs.length,by simp,Nat.zero_le _,h0⟩,?_⟩
 rintro i m ys H ⟨rfl,hi,p⟩
 obtain ⟨q,ly⟩:=hl i ys H hi p
 refine ⟨by omega,?_⟩
 by_cases hlt:i < xs.length
 ·refine .inr ⟨⟨xs,xs[i],q,by simp [hlt]⟩,by omega,fun x H' y=>?_⟩
  obtain ⟨e,y⟩:=y
  subst e
  exact hs i x ys _ (y xs q) hlt p
 ·have e:i=xs.length:=by omega
  subst e
  exact .inl ⟨⟨xs,q,Nat.le_refl _⟩,fun p' hp=>hd ys H p p' _ (jd hp _) hp zS⟩
end
set_option maxHeartbeats 400000
def tHd (K:W.Frag) (C1 C2:Addr) (ts:TS):Addr->TS:=fun C D σ H=>W.exmAny K (.ref C) [.ref C1,.ref C2]=some true/\ts D σ H
section
variable {X : Cx} {c1 c2 : Str} {C1 C2' : Addr} {ts : TS} {th : Addr -> TS} {p1 p2 tpos hpos : Pos} {kk : Nat} {b₀ : Stmt} {suite : List Stmt} {Zo : List ExceptHandler}
theorem zBZ (g1:Gl X c1) (m1:X.mg c1=some (.ref C1)) (g2:Gl X c2) (m2:X.mg c2=some (.ref C2')) (hs : ∀ y,PSs (X.inExc y) (b₀::suite) ts)
  (d1:(c1 == ("__debug__" : Str))=false:=by decide) (d2:(c2 == ("__debug__" : Str))=false:=by decide) :
  PHs X (.ExceptHandler (some (.Tuple [.Name c1 p1,.Name c2 p2] kk tpos)) none (b₀::suite) hpos::Zo) (tHd X.K C1 C2' ts):=by
 intro pins s σ H D y C B a0 fly I clo h
 obtain ⟨exm,q⟩:=h
 refine wpAny_handleBy_cons (codeAny_handlers_test ?_) (by intro q;cases q)
 refine wpAny_Tuple (wpAny_items_cons (qZ (I.inExc y) g1 m1 (wpAny_items_cons (qZ (I.inExc y) g2 m2 (wpAny_items_nil ⟨by size_fits,?_⟩) d2)) d1))
 have kp : ∀ b o,s.heap.get? b=some o->(s.heap.push { cls:=.type "tuple", data:=.seq [Value.ref C1,Value.ref C2'].toArray }).get? b=some o:=fun _ _ z=>Heap.get?_push_of_some _ z
 have ty2:W.Looks (model X.prog X.w) s.heap (typeOf (.ref y)) (.ref C):=(isx fly).ty
 refine (W.exm_tup2 (M:=model X.prog X.w) (I.kIn.keeps kp) (ty2.keeps kp) (Heap.get?_push_size s.heap rfl) exm).here ?_
 have up:s.heap.UpToSlots (s.heap.push { cls:=.type "tuple", data:=.seq [Value.ref C1,Value.ref C2'].toArray }):=Heap.UpToSlots.of_keeps kp
 have fly3:Heap.FlyingW B (X.env::X.outer) y (.ref C) a0 (s.heap.push { cls:=.type "tuple", data:=.seq [Value.ref C1,Value.ref C2'].toArray }):=by
  obtain ⟨f1,f2,f3,oe,vs,t,ot,ts,q1,q2,q3,q4,q5,q6,q7,q8,q9⟩:=fly
  exact ⟨fun b o z=>kp b o (f1 b o z),f2,f3.of_keeps fun b o z _=>⟨o,kp b o z,rfl⟩,oe,vs,t,ot,ts,kp _ _ q1,q2,q3,q4,q5,q6,kp _ _ q7,q8,q9⟩
 refine codeAny_handlers_suite (lands_againW fly3 fun h3 fly3' sm3=>?_)
 have I3:=clo h3 fly3'.1 (up.trans sm3)
 exact wpAny_mono (hs y pins _ σ H D (I3.inExc y) q) (fun f s6 sp6=>sp6.outExc I.ok) fun _ _ z=>z.elim
theorem zJY {C C2:Addr} (e:W.exmAny K (.ref C) [.ref C1,.ref C2]=some true) (h:ts D σ H):tHd K C1 C2 ts C D σ H:=⟨e,h⟩
end
set_option maxHeartbeats 4000000
section
variable {X : Cx}
theorem Zi : ∀ {us:List Value} {ss:List Str},StrsAre us ss->qE (ss.map V.str) us
 | _,_,.nil=>.nil
 | _,_,.cons n t h=>.cons ⟨t,rfl⟩ (Zi h)
theorem Jy : ∀ {us:List Value} {ss:List Str},qE (ss.map V.str) us->StrsAre us ss
 | _,[],.nil=>.nil
 | _,s::ss,.cons ⟨t,e⟩ h=>by subst e;exact .cons s t (Jy h)
theorem zFg {ms:List Str} {cs:List (List Nat)} (h:ms.Perm (cs.map T)) : ∃ ds:List (List Nat),ds.Perm cs/\ms=ds.map T:=by
 refine ⟨ms.map Lt,?_,?_⟩
 ·have:=h.map Lt
  rwa [map_map,show (Lt ∘ T)=id from funext fun l=>JY l,List.map_id] at this
 ·rw [map_map]
  have hm : ∀ s ∈ ms,(T ∘ Lt) s=s:=fun s hs=>by
   obtain ⟨c,_,rfl⟩:=List.mem_map.mp (h.mem_iff.mp hs)
   show T (Lt (T c))=T c
   rw [JY]
  conv=>lhs;rw [<- List.map_id ms]
  exact (List.map_congr_left hm).symm
end
set_option maxHeartbeats 1000000
theorem zEB {b:List Nat}:ltT a b=true↔a < b:=by
 unfold ltT
 rw [decide_eq_true_iff]
 exact Iff.rfl
section
variable {M : Model} {A : Around} {E : Value -> Shared -> Prop} {s : Shared} {base : Heap} {env : Env} {outer : List Env} {L e : Addr} {Q : Unit -> Shared -> Prop}
theorem Kk {cls:Value} (fr:A.frames=some (env::outer)) (ef:env.frame=some L) (fly:Heap.FlyingW base (env::outer) e cls a0 s.heap) (c2:C2 s.heap e)
  (k : ∀ h',Heap.FlyingW base outer e cls a0 h'->C2 h' e->s.heap.UpToSlots h'->Q () { s with heap:=h' }):wpAny M A (leaving env (.ref e)) Q E s:=by
 unfold leaving
 refine wpAny_bind (zC3 fr ef fly c2 fun h1 held c1 sm1=>?_)
 exact zCq (s:={ s with heap:=h1 }) held c1 fun h2 fl c3 sm2=>k h2 ⟨fl.1,fl.2.1,fl.2.2.1.2.2,fl.2.2.2⟩ c3 (sm1.trans sm2)
end
section
variable {P : Program} {w : World} {K : W.Frag} {mg : Str -> Option Value} {base : Heap} {N : List Str} {qual : Str} {scope : Scope} {f : Addr} {cd : Value} {A : Around} {outer : List Env} {s : Shared} {H : Hp} {E : XK}
theorem Ka:jv (VO P w) (yd (VO P w) P w K mg base N qual scope f cd A outer s H E) E:=by
 intro pins σ H1 s1 e s' I1 fl
 obtain ⟨x,C,a0,H',B,rfl,hos,hbare,fly,c2,clo,hx1,hx2,q⟩:=fl
 refine Kk I1.ok.frames rfl fly c2 fun h2 fly2 c3 sm=>?_
 refine ⟨x,C,a0,H',B,rfl,hos.trans I1.os,hbare,fly2,c3,fun h3 st sm3=>?_,?_,hx2,q⟩
 ·have cl:=clo h3 st (sm.trans sm3)
  have I3:=I1.call' (s':={ s' with heap:=h3 }) hos cl.1 cl.2 hbare (fun b z=>nomatch z)
  exact ⟨I3.base,I3.hok⟩
 ·cases z:s.heap.get? x with
  | none=>rfl
  | some o =>
   obtain ⟨o',e1⟩:=I1.base.there x o z (fun h=>nomatch h)
   rw [hx1] at e1;cases e1
end
variable {h':Heap}
theorem C2.keep {x:Addr} (c:C2 h x) (k : ∀ o,h.get? x=some o->h'.get? x=some o):C2 h' x:=let ⟨o,vs,a,r⟩:=c;⟨o,vs,k o a,r⟩
structure Xv (k:Nat) (y:Addr) (A:Around):Prop where
 hd:A.handled=some (.ref y)
 dp:A.depth+3*k+5 < recursionLimit
 un:A.units+16*k+200 < cLine
variable {y:Addr}
theorem Xv.mono (r:Xv k y A) (h:j<=k):Xv j y A:=⟨r.hd,by have:=r.dp;omega,by have:=r.un;omega⟩
theorem Xv.deeper (r:Xv (k+1) y A) (env:Env):Xv k y (A.deeper env):=
 ⟨r.hd,by have:=r.dp;show A.depth+1+3*k+5 < _;omega,by have:=r.un;show A.units+3+16*k+200 < _;omega⟩
theorem Xv.depth (r:Xv k y A):A.depth < recursionLimit:=by have:=r.dp;omega
set_option maxHeartbeats 4000000
set_option maxHeartbeats 1000000
theorem Yu.okX2 {f:Addr} (F:Yu K x qual st f fd) (S:zO N ps (zG st)) (len : ∀ vs H Q E,sp vs H Q E->vs.length=ps.length)
  (hbody : ∀ (cdv:Value) (A:Around) (outer:List Env) (s:Shared) (H:Hp) (vs:List V) (Q:VK) (E:XK),jq k (A.deeper (envOfC qual (zG st) s.heap.objs.size f cdv))->sp vs H Q E ->
   WM (yd (VO P w) P w K mg base N qual (zG st) f cdv A outer s H E) E->jv (VO P w) (yd (VO P w) P w K mg base N qual (zG st) f cdv A outer s H E) E -> ∃ t,PSs (yd (VO P w) P w K mg base N qual (zG st) f cdv A outer s H E) (zu st) t/\t { nx:=fun _ H'=>Q .non H',rt:=Q } (start N vs) H):xG P w K mg base (VO P w) (k+1) f fd ps sp:=by
 obtain ⟨oc,od,dV,kV,doc,pm,an,cdv,ct,osl,rfl,lk,hcd⟩:=F.ex
 exact VJ lk hcd S len fun A outer s H vs Q E hr hsp=>hbody cdv A outer s H vs Q E hr hsp (fun pins σ H s h' x C args I hm q=>Zj I hm q) Ka
theorem n0N {α:Type} {P:List α->Prop} (h:P []) : ∀ us:List α,us.length=0->P us
 | [],_=>h
theorem nSN {α:Type} {P:List α->Prop} {n:Nat} (h : ∀ (a:α) (us:List α),us.length=n->P (a::us)) : ∀ us:List α,us.length=n+1->P us
 | a::us,e=>h a us (Nat.succ.inj e)
section
variable {α : Type} {P : List α -> Prop}
theorem l0N (h:P []) : ∀ us:List α,us.length=0->P us:=n0N h
theorem l1N (h : ∀ a,P [a]) : ∀ us:List α,us.length=1->P us:=nSN fun a=>n0N (h a)
theorem l2N (h : ∀ a b,P [a,b]) : ∀ us:List α,us.length=2->P us:=nSN fun a=>nSN fun b=>n0N (h a b)
theorem l3N (h : ∀ a b c,P [a,b,c]) : ∀ us:List α,us.length=3->P us:=nSN fun a=>nSN fun b=>nSN fun c=>n0N (h a b c)
theorem l4N (h : ∀ a b c d,P [a,b,c,d]) : ∀ us:List α,us.length=4->P us:=nSN fun a=>nSN fun b=>nSN fun c=>nSN fun d=>n0N (h a b c d)
theorem l5N (h : ∀ a b c d e,P [a,b,c,d,e]) : ∀ us:List α,us.length=5->P us:=nSN fun a=>l4N fun b c d e=>h a b c d e
theorem l6N (h : ∀ a b c d e f,P [a,b,c,d,e,f]) : ∀ us:List α,us.length=6->P us:=nSN fun a=>l5N fun b c d e f=>h a b c d e f
theorem l8N (h : ∀ a b c d e f g i,P [a,b,c,d,e,f,g,i]) : ∀ us:List α,us.length=8->P us:=nSN fun a=>nSN fun b=>l6N fun c d e f g i=>h a b c d e f g i
theorem zI5 (h : ∀ a b c d e f g i j k,P [a,b,c,d,e,f,g,i,j,k]) : ∀ us:List α,us.length=10->P us:=nSN fun a=>nSN fun b=>l8N fun c d e f g i j k=>h a b c d e f g i j k
theorem zJj (h : ∀ a b c d e f g i j k l m n,P [a,b,c,d,e,f,g,i,j,k,l,m,n]) : ∀ us:List α,us.length=13->P us:=nSN fun a=>nSN fun b=>nSN fun c=>zI5 fun d e f g i j k l m n=>h a b c d e f g i j k l m n
end
def Kn (K:W.Frag) (mg:Str->Option Value):Prop:=∃ h:Heap,K.In h/\h.Ns mainGlobals mg
def Dfx (K:W.Frag) (x:Str) (st:Stmt):Prop:=∃ f,Df K x st f
def zBd (K:W.Frag) (m:Str) (f:Addr):List Addr->Prop
 | []=>True
 | C::r=>W.findIn K (.ref C) m=some (some (.ref f))/\zBd K m f r
theorem zBd.at {K:W.Frag} {m:Str} {f C:Addr} : ∀ {l:List Addr},zBd K m f l->C ∈ l->W.findIn K (.ref C) m=some (some (.ref f))
 | _::_,h,.head _=>h.1
 | _::_,h,.tail _ k=>zBd.at h.2 k
theorem in0 {α:Type} {a:α} {l:List α}:a ∈ a::l:=.head _
theorem in1 {α:Type} {a b:α} {l:List α}:b ∈ a::b::l:=.tail _ (.head _)
theorem in2 {α:Type} {a b c:α} {l:List α}:c ∈ a::b::c::l:=.tail _ (.tail _ (.head _))
def Dmx (K:W.Frag) (q m:Str) (st:Stmt) (C:Addr) (Cs:List Addr):Prop:=∃ f,Dm K q m st .none C f/\zBd K m f Cs
def Ddx (K:W.Frag) (q m:Str) (st:Stmt) (C:Addr) (Cs:List Addr) (n:Nat):Prop:=∃ (f t:Addr) (oc:Value) (od:Option Addr) (vs:List Value) (nn:Nat) (sl:Array (Option Value)),vs.length=n/\Dm K q m st (.ref t) C f/\K.lookup t=some ⟨oc,od,.seq vs.toArray nn,sl⟩/\zBd K m f Cs
def Dcx (K:W.Frag) (q m:Str) (st:Stmt) (C:Addr):Prop:=∃ f,Dm K q m st .none C f/\W.specialIn K (.ref C) "__getattribute__" = some (some (.builtin "type.__getattribute__"))/\W.readsIn K C (.type "type")=true/\W.findCls K (.ref C) (.type "type") m=some (.val (.ref f))
def MkI (K:W.Frag) (C:Addr):Prop:=W.makesIn K C=true/\W.keepIn K (.ref C)=true
section
variable {K : W.Frag} {x q m : Str} {st : Stmt} {f C t : Addr} {oc dV : Value} {od : Option Addr} {kV dc pm : Value} {an : Option Addr} {cd ct : Value} {sl : Array (Option Value)} {Cs : List Addr}
theorem dfx_mk (a:W.nsIn K mainGlobals x=some (some (.ref f))) (l:K.lookup f=some ⟨oc,od,.func (W.fnOf x x (qG st) (zu st) (zG st) .none kV dc pm an cd ct),sl⟩) (c:W.codeIn K cd x=true) (k:W.keepIn K (.ref f)=true):Dfx K x st:=⟨f,zI4 a l c k⟩
theorem dmx_mk (a:W.findIn K (.ref C) m=some (some (.ref f))) (l:K.lookup f=some ⟨oc,od,.func (W.fnOf m q (qG st) (zu st) (zG st) .none kV dc pm an cd ct),sl⟩) (c:W.codeIn K cd q=true) (k:W.keepIn K (.ref f)=true) (n:W.isFn K (.ref f)=true) (i:zBd K m f Cs):Dmx K q m st C Cs:=⟨f,zED a l c k n,i⟩
theorem ddx_mk {oc':Value} {od':Option Addr} {nn n':Nat} {sl':Array (Option Value)} (a:W.findIn K (.ref C) m=some (some (.ref f))) (l:K.lookup f=some ⟨oc,od,.func (W.fnOf m q (qG st) (zu st) (zG st) (.ref t) kV dc pm an cd ct),sl⟩) (c:W.codeIn K cd q=true) (k:W.keepIn K (.ref f)=true) (n:W.isFn K (.ref f)=true)
  (d:K.lookup t=some ⟨oc',od',.seq it nn,sl'⟩) (s:it.size=n') (i:zBd K m f Cs):Ddx K q m st C Cs n':=⟨f,t,oc',od',it.toList,nn,sl',by simpa using s,zED a l c k n,by simpa using d,i⟩
theorem dcx_mk (a:W.findIn K (.ref C) m=some (some (.ref f))) (l:K.lookup f=some ⟨oc,od,.func (W.fnOf m q (qG st) (zu st) (zG st) .none kV dc pm an cd ct),sl⟩) (c:W.codeIn K cd q=true) (k:W.keepIn K (.ref f)=true) (n:W.isFn K (.ref f)=true) (c1:W.specialIn K (.ref C) "__getattribute__" = some (some (.builtin "type.__getattribute__"))) (c2:W.readsIn K C (.type "type")=true) (c3:W.findCls K (.ref C) (.type "type") m=some (.val (.ref f))):Dcx K q m st C:=⟨f,zED a l c k n,c1,c2,c3⟩
variable {mg : Str -> Option Value} {P : Program} {w : World} {base : Heap} {k : Nat} {ps : List Str} {sp : Sp} {CX : CXT}
theorem jm (z:Kn K mg) (d:Dfx K x st) (hb : ∀ us:List Value,us.length=ps.length -> ∀ (kV doc pm:Value) (an:Option Addr) (cdv ct:Value),bindArgs (W.fnOf x x (qG st) (zu st) (zG st) .none kV doc pm an cdv ct) ⟨us,[]⟩=pure (ps.zip us))
  (ok : ∀ fq fd,Fun K x x st fq fd->xG P w K mg base CX k fq fd ps sp) : ∃ (f:Addr) (fd:FuncData),xG P w K mg base CX k f fd ps sp/\mg x=some (.ref f)/\W.keepIn K (.ref f)=true/\j9 K fd ps []:=by
 obtain ⟨h,X,G⟩:=z
 obtain ⟨f,_,_,_,_,_,_,_,_,_,a,l,c,k'⟩:=d
 have F:=zCu l c k'
 exact ⟨f,_,ok _ _ F,W.mg_of X G a,k',F.binds fun _ _ _ _ _ _ us hl=>hb us hl _ _ _ _ _ _⟩
def Gx (P:Program) (w:World) (K:W.Frag) (mg:Str->Option Value) (base:Heap) (CX:CXT) (m:Str) (Cs:List Addr) (k:Nat) (ps:List Str) (sp:Sp):Prop:=∃ f,Gd P w K mg base CX f k ps sp/\zBd K m f Cs
theorem WR (d:Dmx K q m st C Cs) (hb : ∀ us:List Value,us.length=ps.length -> ∀ (kV dc pm:Value) (an:Option Addr) (cd ct:Value),bindArgs (W.fnOf m q (qG st) (zu st) (zG st) .none kV dc pm an cd ct) ⟨us,[]⟩=pure (ps.zip us))
  (ok : ∀ fq fd,Yu K m q st fq fd->xG P w K mg base CX k fq fd ps sp):Gx P w K mg base CX m Cs k ps sp:=by
 obtain ⟨f,d,i⟩:=d
 exact ⟨f,zFf d (ok f) fun _ _ _ _ _ _ us hl=>hb us hl _ _ _ _ _ _,i⟩
theorem zDw {n:Nat} (d:Ddx K q m st C Cs n) (hb : ∀ vs:List Value,vs.length=n -> ∀ us:List Value,us.length=ps.length -> ∀ (t:Addr) (kV dc pm:Value) (an:Option Addr) (cd ct:Value),∃ k,bindArgs (W.fnOf m q (qG st) (zu st) (zG st) (.ref t) kV dc pm an cd ct) ⟨us,[]⟩=seqItems? (.ref t) >>= k/\k (some vs.toArray)=pure (ps.zip us))
  (ok : ∀ fq fd,Yu K m q st fq fd->xG P w K mg base CX k fq fd ps sp):Gx P w K mg base CX m Cs k ps sp:=by
 obtain ⟨f,t,oc,od,vs,nn,sl,hn,d,hl,i⟩:=d
 exact ⟨f,zGW d hl (ok f) fun _ _ _ _ _ _ us hu=>hb vs hn us hu _ _ _ _ _ _ _,i⟩
theorem zJo (d:Dcx K q m st C) (hb : ∀ us:List Value,us.length=ps.length -> ∀ (kV dc pm:Value) (an:Option Addr) (cd ct:Value),bindArgs (W.fnOf m q (qG st) (zu st) (zG st) .none kV dc pm an cd ct) ⟨us,[]⟩=pure (ps.zip us))
  (ok : ∀ fq fd,Yu K m q st fq fd->xG P w K mg base CX k fq fd ps sp):zHv P w K mg base CX C m k ps sp:=by
 obtain ⟨f,d,c1,c2,c3⟩:=d
 exact zJ8 (zFf d (ok f) fun _ _ _ _ _ _ us hl=>hb us hl _ _ _ _ _ _) c1 c2 c3
theorem ZJ (g:Gx P w K mg base CX m Cs k ps sp) (h:C ∈ Cs):zHw P w K mg base CX C m k ps sp:=let ⟨_,g,i⟩:=g;zJ4 g (i.at h)
theorem zIX (g:Gx P w K mg base CX "__init__" [C] k ps sp) (h:MkI K C):zIA P w K mg base CX C k ps sp:=let ⟨_,g,i⟩:=g;zKA g h.1 i.1 h.2
end
set_option maxHeartbeats 4000000
def YL (K:W.Frag):List V->Hp->VK->Prop:=fun xs H Q=>∃ (p:Addr) (ss:List Str),xs=[.ref p]/\SqL K H p (ss.map V.str)/\ss.length < 64 /\
 ∀ (ms:List Str) (q:Addr) (H':Hp),ms.Perm ss->sortedS ms=true->zW H H'->H q=none->H' q=some (.lst (ms.map V.str))->Q (.ref q) H'
theorem XR:yE X (.builtin "sorted") (YL X.K):=by
 intro pins s σ H xs us Q I r h
 obtain ⟨p,ss,rfl,hq,h64,q⟩:=h
 obtain ⟨u,rfl,rx⟩:=KO r
 cases rx
 obtain ⟨its,r',pl,hz⟩:=I.list hq
 have hl:=r'.length
 rw [length_map] at hl hz
 refine sorted_strs pl.isList (Jy r') (by omega) fun out ms hi hp hs=>?_
 obtain ⟨e,he⟩:=sortedAll_at s.heap its out
 have hms:ms.length=ss.length:=hp.length_eq
 have hf:H (s.heap.objs.size+1)=none:=I.hok.fresh (Nat.le_succ _)
 refine ⟨.ref (s.heap.objs.size+1),upd H (s.heap.objs.size+1) (.lst (ms.map V.str)),I.laid (t':=s.toks) (fun _ _=>sortedAll_old) (Nat.le_succ _) ⟨by rw [length_map,hms];exact hz,out.toList,e,Zi hi,?_⟩,rfl,q _ _ _ hp hs (jd hf _) hf zS⟩
 rw [he,Array.toArray_toList]
def SrT (ds:List (List Nat)):Prop:=sortedS (ds.map T)=true
section
variable {K : W.Frag} {H : Hp} {Q : VK}
theorem WK {p:Addr} {cs:List (List Nat)} (h:H p=some (.lst (tsV cs))) (h64:cs.length < 64) (q : ∀ (ds:List (List Nat)) (q:Addr) (H':Hp),ds.Perm cs->SrT ds->zW H H'->H q=none->H' q=some (.lst (tsV ds))->Q (.ref q) H'):YL K [.ref p] H Q:=by
 have e:tsV cs=(cs.map T).map V.str:=by unfold tsV;rw [map_map];rfl
 refine ⟨p,cs.map T,rfl,SqL.of (e ▸ h),by rw [length_map];exact h64,fun ms q' H' hp so g n e'=>?_⟩
 obtain ⟨ds,hd,rfl⟩:=zFg hp
 exact q ds q' H' hd so g n (by rw [e'];unfold tsV;rw [map_map];rfl)
end
theorem Xt : ∀ {l:List Str} {p:Str} {i:Nat} {a b:Str},risingS p l=true->(p::l)[i]? = some a->l[i]? = some b->ltCps b.cps.toList a.cps.toList=false
 | x::r,p,0,a,b,h,ha,hb=>by
  cases ha;cases hb
  have h:(!ltCps x.cps.toList p.cps.toList && risingS x r)=true:=h
  rw [Bool.and_eq_true,Bool.not_eq_true'] at h;exact h.1
 | x::r,p,i+1,a,b,h,ha,hb=>by
  have h:(!ltCps x.cps.toList p.cps.toList && risingS x r)=true:=h
  rw [Bool.and_eq_true] at h
  exact Xt h.2 (by simpa using ha) (by simpa using hb)
 | [],_,_,_,_,_,_,hb=>by simp at hb
theorem W0 {ds:List (List Nat)} {i:Nat} {b:List Nat} (h:SrT ds) (ha:ds[i]? = some a) (hb:ds[i+1]? = some b) (ne:a≠b):a < b:=by
 cases ds with
 | nil=>simp at ha
 | cons x r =>
  have k:=Xt (l:=r.map T) (p:=T x) (i:=i) (a:=T a) (b:=T b) h (by
   rw [<- List.map_cons,List.getElem?_map,ha];rfl) (by rw [List.getElem?_map,show r[i]? = some b by simpa using hb];rfl)
  rw [ltCps_eq] at k
  have k':a<=b:=fun q=>by
   have z:decide ((T b).cps.toList < (T a).cps.toList)=true:=decide_eq_true (by simpa [T] using q)
   rw [z] at k;cases k
  exact Classical.byContradiction fun q=>ne (List.le_antisymm k' (List.not_lt.mp q))
section
variable {X : Cx} {pins : List (Addr × Obj)} {σ : St} {H : Hp} {s : Shared}
theorem Inv.turnedL {t':Nat} {ch:List Addr} (I:Inv X pins σ H s) (k : ∀ b o,b ∉ ch->s.heap.get? b=some o->h'.get? b=some o) (hf : ∀ b ∈ ch,Kh X pins H b):Inv X pins σ H { s with heap:=h',toks:=t' }:=by
 have nit : ∀ b u,H b=some u->b ∉ ch:=fun b u e z=>by rw [(hf b z).1] at e;cases e
 refine I.step (g':=s.gens) (d':=s.drawn) (ch:=ch) (fun b hb=>⟨(hf b hb).2.2.2.1,(hf b hb).2.1,(hf b hb).2.2.2.2.1,(hf b hb).2.2.2.2.2⟩) (fun b o _ _ hc e _=>k b o hc e) (fun b o _ _ hc e _=>⟨o.slots,k b o hc e⟩) (fun _ _ _ _ n=>n)
  (fun b o hc e=>⟨o,k b o hc e⟩) (fun _ _ e=>e) (fun _ _ _ e=>e) (fun b ps e=>⟨#[],by rw [e];simp⟩) (fun m hm=>?_) (fun b u e=>?_) I.bare
 ·obtain ⟨o,es,ep,ho,r⟩:=hm
  exact ⟨o,es,ep,k _ o (fun z=>(hf _ z).2.1 rfl) ho,r⟩
 ·refine (I.hok b u e).stay (fun c v hc q=>k c v ?_ q) (fun _ q=>q) fun _ _ q=>q
  rcases hc with z | z
  ·rw [z];exact nit b u e
  ·exact nit c _ z
end
def Itz (l m : Addr) : It :=
  ⟨fun i H => ∃ xs ys x y, H l = some (.lst xs) /\ H m = some (.lst ys) /\ xs[i]? = some x /\ ys[i]? = some y,
   fun i H v H' => ∃ t xs ys x y, v = .ref t /\ H l = some (.lst xs) /\ H m = some (.lst ys) /\ xs[i]? = some x /\ ys[i]? = some y /\ H t = none /\ H' = upd H t (.tup [x, y]),
   fun i H => ∃ xs ys, H l = some (.lst xs) /\ H m = some (.lst ys) /\ (xs.length <= i \/ ys.length <= i)⟩
def zJt (z TI TO i1 i2 l1 l2:Addr) (i:Nat) (h:Heap):Prop:=IsZip h z TI TO .none/\IsPair h TI (.ref i1) (.ref i2)/\(∃ a b,IsPair h TO a b)/\h.IsListIter i1 l1 i/\h.IsListIter i2 l2 i
variable {v:Value}
theorem jQ.tup2 {t:Addr} {x y:V} {u:Value} (rx:jX x u) (ry:jX y v) (e:IsPair h t u v):jQ P w H h t (.tup [x,y]):=
 ⟨by show 2<=sizeLine;decide,[u,v],.cons rx (.cons ry .nil),⟨_,e,rfl,_,rfl⟩⟩
theorem zCX {elts:List Expr} {z TI TO i1 i2 l1 l2:Addr} (D:ZipApart z TI TO i1 i2 l1 l2):zEN P w K (.Tuple elts k pos) (Itz l1 l2) [z,TI,TO,i1,i2] z (zJt z TI TO i1 i2 l1 l2) where
 mem:=by simp
 obj:=fun i h st b hb=>by
  obtain ⟨a1,a2,⟨a,c,a3⟩,⟨o4,e4,c4,d4⟩,⟨o5,e5,c5,d5⟩⟩:=st
  simp only [mem_cons,not_mem_nil,or_false] at hb
  rcases hb with rfl | rfl | rfl | rfl | rfl
  ·exact ⟨_,a1,fun v q=>nomatch q⟩
  ·exact ⟨_,a2,fun v q=>nomatch q⟩
  ·exact ⟨_,a3,fun v q=>nomatch q⟩
  ·exact ⟨o4,e4,fun v q=>by rw [d4] at q;cases q⟩
  ·exact ⟨o5,e5,fun v q=>by rw [d5] at q;cases q⟩
 keep:=fun i h h' st k=>by
  obtain ⟨a1,a2,⟨a,c,a3⟩,a4,a5⟩:=st
  exact ⟨k z (by simp) _ a1,k TI (by simp) _ a2,⟨a,c,k TO (by simp) _ a3⟩,a4.at fun o e=>k i1 (by simp) o e,a5.at fun o e=>k i2 (by simp) o e⟩
 item:=by
  intro X hP hw hK hc i pins s σ H E I hf st hg
  subst hP hw hK
  obtain ⟨xs,ys,x,y,e1,e2,hx,hy⟩:=hg
  obtain ⟨a1,a2,⟨a,c,a3⟩,a4,a5⟩:=st
  obtain ⟨its1,r1,p1,z1⟩:=I.list (SqL.of e1)
  obtain ⟨its2,r2,p2,z2⟩:=I.list (SqL.of e2)
  obtain ⟨u,hu,ru⟩:=r1.get hx
  obtain ⟨v,hv,rv⟩:=r2.get hy
  refine wpAny_pyNext_zip_item D a1 a2 a3 a4 a5 p1.isList p2.isList (x:=u) (y:=v) (by simpa using hu) (by simpa using hv) fun h' b1 b2 b3 b4 b5 b6 hk=>?_
  refine ⟨_,rfl,wpAny_letOwnedTupleGo_zip b1 fun h'' c1 sb=>?_⟩
  have up : ∀ b o,b≠z->h'.get? b=some o->h''.get? b=some o:=fun b o n q=>sb.extBut _ _ n q
  have nw : ∀ b ∈ [z,TI,TO,i1,i2],s.heap.objs.size≠b:=fun b hb=>by
   have lt : ∀ {c o},s.heap.get? c=some o->s.heap.objs.size≠c:=fun e=>Nat.ne_of_gt (Heap.lt_size e)
   obtain ⟨o4,q4,_⟩:=a4
   obtain ⟨o5,q5,_⟩:=a5
   simp only [mem_cons,not_mem_nil,or_false] at hb
   rcases hb with rfl | rfl | rfl | rfl | rfl
   ·exact lt a1
   ·exact lt a2
   ·exact lt a3
   ·exact lt q4
   ·exact lt q5
  have I1:Inv X pins σ H { s with heap:=h'' }:=I.turnedL (t':=s.toks) (ch:=[z,TI,TO,i1,i2]) (fun b o hb q=>by
   simp only [mem_cons,not_mem_nil,or_false,not_or] at hb
   exact up b o hb.1 (hk b o hb.1 hb.2.2.1 hb.2.2.2.1 hb.2.2.2.2 q)) hf
  have fr:H s.heap.objs.size=none:=I.hok.fresh (Nat.le_refl _)
  obtain ⟨f0,f1,f2,f3,f4,f5⟩:=I.fpOk (H':=H) (Nat.le_refl s.heap.objs.size) fr
  have b5':=up _ _ (nw z (by simp)) b5
  have I2:Inv X pins σ (upd H s.heap.objs.size (.tup [x,y])) { s with heap:=h'' }:=I1.track2 fr f1 (fun ob q=>absurd (Heap.lt_size q) (Nat.not_lt.mpr I.sz)) f4 f5 (jQ.tup2 ru rv b5')
  refine ⟨.ref s.heap.objs.size,_,I2,rfl,⟨_,xs,ys,x,y,rfl,e1,e2,hx,hy,fr,rfl⟩,⟨c1,up _ _ D.TIz (hk _ _ D.TIz D.TITO D.TIi1 D.TIi2 a2),⟨_,_,up _ _ D.TOz b2⟩,b3.at fun o q=>up _ o D.i1z q,b4.at fun o q=>up _ o D.i2z q⟩,fun b hb=>?_⟩
  rw [ze (nw b hb).symm];exact (hf b hb).1
 done:=by
  intro X hP hw hK hc i pins s σ H E I hf st hg
  subst hP hw hK
  obtain ⟨xs,ys,e1,e2,hx⟩:=hg
  obtain ⟨a1,a2,⟨a,c,a3⟩,a4,a5⟩:=st
  obtain ⟨its1,r1,p1,z1⟩:=I.list (SqL.of e1)
  obtain ⟨its2,r2,p2,z2⟩:=I.list (SqL.of e2)
  have hl1:=r1.length
  have hl2:=r2.length
  refine wpAny_pyNext_zip_end (I.ok.hd hc) D a1 a2 a3 a4 a5 p1.isList p2.isList (hx.elim (fun q=>.inl (by simp;omega)) fun q=>.inr (by simp;omega)) fun h' hk=>⟨rfl,I.turnedL (t':=s.toks) (ch:=[z,TI,TO,i1,i2]) (fun b o hb q=>by
   simp only [mem_cons,not_mem_nil,or_false,not_or] at hb
   exact hk b o hb.1 hb.2.2.1 hb.2.2.2.1 hb.2.2.2.2 q) hf⟩
 self:=fun _ _ _ _ _ st h=>wpAny_pyIter_zip st.1 h
section
variable {X : Cx} {elts : List Expr} {k : Nat} {tpos : Pos}
def zJU (ta:TA):TI:=fun σ H R=>ta σ H fun vs H1=>∃ l m xs ys,vs=[.ref l,.ref m]/\H1 l=some (.lst xs)/\H1 m=some (.lst ys)/\R (Itz l m) H1
theorem zGZ {a b:Expr} {ta:TA} {p:Pos} (hg:Gl X "zip") (hm:X.mg "zip" = none) (ha:PA X [a,b] ta) (hs:starEach [a,b] X.env=[(false,eval a X.env),(false,eval b X.env)]:=by rfl) (hs2:starEach [b] X.env=[(false,eval b X.env)]:=by rfl) :
  PI X (.Tuple elts k tpos) (.Call (.Name "zip" p) [a,b] [] pos) (zJU ta):=by
 intro pins s σ H R I h
 refine Call_ (J3 I hg hm boot_zip (PyProof.Rows.callWith_type1 (thn (ha pos pins s σ H _ I h) fun us s1 zq=>?_) (by rw [hs,hs2]) (by rw [hs2];rfl)))
 obtain ⟨vs,H1,I1,r1,l,m,xs,ys,e,e1,e2,q⟩:=zq
 subst e
 obtain ⟨v1,v2,rfl,rl,rm⟩:=Wo r1
 cases rl;cases rm
 obtain ⟨its1,q1,p1,z1⟩:=I1.list (SqL.of e1)
 obtain ⟨its2,q2,p2,z2⟩:=I1.list (SqL.of e2)
 have lt1:l < s1.heap.objs.size:=(I1.hok l _ e1).lt
 have lt2:m < s1.heap.objs.size:=(I1.hok m _ e2).lt
 refine call_zip_2 p1.isList p2.isList fun h' a1 a2 a3 a4 a5 sz hk=>?_
 refine wpAny_pyIter_zip a1 ?_
 refine ⟨_,_,_,_,H1,rfl,I1.kept (t':=s1.toks) hk,zCX (zipApart_new lt1 lt2),⟨a1,a2,⟨_,_,a3⟩,a4,a5⟩,fun b hb=>?_,q⟩
 have le:s1.heap.objs.size<=b:=by
  simp only [mem_cons,not_mem_nil,or_false] at hb
  rcases hb with rfl | rfl | rfl | rfl | rfl <;> first | exact Nat.le_add_right _ _ | exact Nat.le_refl _
 exact I1.fpOk le (I1.hok.fresh le)
end
section
variable {K : W.Frag} {σ : St} {H : Hp} {D : yr}
def zFU (g:TG) (tb:TS) (D:yr) (σ:St) (vs:List V) (H:Hp):Prop:=∃ l m xs ys,vs=[.ref l,.ref m]/\H l=some (.lst xs)/\H m=some (.lst ys) /\ ∃ W:Nat->Nat->St->Hp->Prop,(∃ m,W 0 m σ H) /\ ∀ i n σ H,W i n σ H ->
 ((Itz l m).stop i H/\D.nx σ H)\/((Itz l m).go i H /\ ∃ N:St->Hp->Prop,(∀ σ' H',N σ' H' -> ∃ m',m' < n/\W (i+1) m' σ' H') /\ ∀ x H',(Itz l m).yld i H x H'->g x σ H' fun σ2 H2=>tb { D with nx:=N,ct:=N,bk:=D.nx } σ2 H2)
theorem zFy {ta:TA} {g:TG} {tb:TS} (h:ta σ H (zFU g tb D σ)):zEq (zJU ta) g tb D σ H:=h
theorem zE1 {g:TG} {tb:TS} {l m:Addr} {xs ys:List V} (h1:H l=some (.lst xs)) (h2:H m=some (.lst ys)) (hm:ys.length<=xs.length) (Pv:Nat->St->Hp->Prop) (h0:Pv 0 σ H) (hl : ∀ i σ H,i<=ys.length->Pv i σ H->H l=some (.lst xs)/\H m=some (.lst ys))
  (hs : ∀ i x y t σ H H',xs[i]? = some x->ys[i]? = some y->Pv i σ H->zW H H'->H' t=some (.tup [x,y])->g (.ref t) σ H' fun σ2 H2=>tb { D with nx:=Pv (i+1),ct:=Pv (i+1),bk:=D.nx } σ2 H2) (hd : ∀ σ H,Pv ys.length σ H->D.nx σ H):zFU g tb D σ [.ref l,.ref m] H:=by
 refine ⟨l,m,xs,ys,rfl,h1,h2,fun i n σ H=>n=ys.length - i/\i<=ys.length/\Pv i σ H,⟨ys.length,by simp,Nat.zero_le _,h0⟩,?_⟩
 rintro i n σ H ⟨rfl,hi,p⟩
 obtain ⟨q1,q2⟩:=hl i σ H hi p
 by_cases hlt:i < ys.length
 ·refine .inr ⟨⟨xs,ys,xs[i],ys[i],q1,q2,getElem?_eq_getElem (by omega),getElem?_eq_getElem hlt⟩,Pv (i+1),fun σ' H' p'=>⟨ys.length - (i+1),by omega,rfl,hlt,p'⟩,fun x H' y=>?_⟩
  obtain ⟨t,xs',ys',x',y',rfl,e1,e2,hx,hy,fr,rfl⟩:=y
  rw [q1] at e1;cases e1
  rw [q2] at e2;cases e2
  exact hs i x' y' t σ H _ hx hy p (jd fr _) zS
 ·have e:i=ys.length:=by omega
  subst e
  exact .inl ⟨⟨xs,ys,q1,q2,.inr (Nat.le_refl _)⟩,hd σ H p⟩
end
set_option maxHeartbeats 1000000
structure ExcB (K:W.Frag) (C:Addr):Prop where
 h1:W.findIn K (.ref C) "__getattribute__" = some (some (.builtin "BaseException.__getattribute__"))
 h2:W.findIn K (.ref C) "__getattr__" = some none
 hb:W.mroIn K C (.type "BaseException")=some true
 hd:W.hasDictIn K C=true
 ha:W.findIn K (.ref C) "__class__" = some (some (.builtin "object.__class__"))
 hn:W.specialIn K (.builtin "object.__class__") "__get__" = some (some (.builtin "getset_descriptor.__get__"))
 ht:W.takesIn K (.builtin "object.__class__")=some true
 hm:W.mroIn K C (.type "object")=some true
variable {C:Addr}
theorem Exc.b (c:Exc K C):ExcB K C:=⟨c.h1,c.h2,c.hb,c.hd,c.ha,c.hn,c.ht,c.hm⟩
section
open PySem.W PySem.Calls Builtin Builtin.ObjectAttr Builtin.Getset_descriptor
variable {K : Frag} {x C : Addr} {M : Model} {h : Heap} {prog : Program} {w : World} {A : Around} {E : Value -> Shared -> Prop} {s : Shared}
theorem zD6 {z:Str} {tk:Tok} {R:Result->Shared->Prop} (X:K.In s.heap) (e:zAm x C s.heap) (c:ExcB K C) (q:R (.ok (.ret v)) s)
  (go : ∀ A',wpAny (model prog w) A' (Builtin.«object.__getattribute__» ⟨[.ref x,.str z tk],[]⟩) (fun fin s'=>match fin with | .done (.ret u)=>u=v/\s'=s | _=>False) (fun _ _=>False) s) :
  codeAny (model prog w) A (.call (.builtin "BaseException.__getattribute__") ⟨[.ref x,.str z tk],[]⟩) R s:=by
 refine codeAny_call_builtin PySem.F.attrBase_ValueError.ga.plain PySem.F.entry_bexc_ga ?_
 have k0:builtinKind "BaseException.__getattribute__" = some .slot:=by decide +kernel
 have k1:splitId "BaseException.__getattribute__" = some ("BaseException", "__getattribute__"):=by decide +kernel
 have k2:=PySem.F.args_bexc_ga (.ref x) (.str z tk)
 have T0:=e.ty (M:=model prog w)
 have T1:=looks_mroIn (M:=model prog w) X c.hb
 have T4:Looks (model prog w) s.heap (isInstance (.ref x) (.type "BaseException")) true:=T0.andThen T1
 simp only [checkBuiltinCall,k0,k1]
 refine wpAny_bind (T4.here ?_)
 rw [if_neg (by decide)]
 unfold argsOk at k2
 generalize Manifest.signature? "BaseException.__getattribute__" = sg at k2 ⊢
 have go':=wpAny_mono (E':=fun e s'=>R (.error e) s') (go A.in1) (Q':=fun fin s'=>match fin with | .done f=>R (.ok f) s' | .again c'=>c'.quiet=true/\codeAny (model prog w) A c' R s') (fun fin s' z=>by
  rcases fin with (_ | _ | _ | _) | _ <;> first | exact z.elim | (obtain ⟨rfl,rfl⟩:=z;exact q)) fun _ _ z=>z.elim
 cases sg with
 | none=>exact wpAny_pure go'
 | some sig =>
  dsimp only at k2 ⊢
  rw [k2]
  exact wpAny_pure go'
end
def ExN (x C:Addr) (h:Heap):Prop:=∃ v0 v1 v2 v3 v4 v5:Value,h.get? x=some { cls:=.ref C,data:=.fields #[v0,v1,v2,v3,v4,v5] }
def ExD (x C dx:Addr) (h:Heap):Prop:=dx≠x /\ ∃ v0 v1 v2 v3 v4 v5:Value,h.get? x=some { cls:=.ref C,dict:=some dx,data:=.fields #[v0,v1,v2,v3,v4,v5] }
def XD (dx:Addr) (fs:List (Str × V)) (h:Heap):Prop:=∃ mA,h.Ns1 dx mA/\(∀ f,K3 (fs.lookup f) (mA f))/\PySem.Within mA (fs.map (·.1))
def zGm (H:Hp) (x C:Addr):Prop:=∃ φ:Heap->Prop,H x=some (.ext φ) /\ ∀ h,φ h->zAm x C h
theorem ExN.at {x:Addr} (e:ExN x C h):zAm x C h:=let ⟨_,_,_,_,_,_,z⟩:=e;⟨_,z,rfl,_,rfl⟩
variable {dx:Addr}
theorem ExD.at {x:Addr} (e:ExD x C dx h):zAm x C h:=let ⟨_,_,_,_,_,_,_,z⟩:=e;⟨_,z,rfl,_,rfl⟩
theorem zGm.n {x:Addr} (e:H x=some (.ext (ExN x C))):zGm H x C:=⟨_,e,fun _ z=>z.at⟩
theorem zGm.same {H':Hp} {x:Addr} (g:zW H H') (e:zGm H x C):zGm H' x C:=let ⟨φ,a,b⟩:=e;⟨φ,g _ _ a,b⟩
variable {pins:List (Addr × Obj)}
theorem Inv.laidN {a:Addr} {o:HO} {t':Nat} (I:Inv X pins σ H s) (k : ∀ b u,s.heap.get? b=some u->h'.get? b=some u) (hn:s.heap.get? a=none) (new:jQ X.prog X.w (upd H a o) h' a o) :
  H a=none/\Inv X pins σ (upd H a o) { s with heap:=h',toks:=t' }:=by
 have fr:H a=none:=by
  cases z:H a with
  | none=>rfl
  | some u =>
   obtain ⟨ob,e⟩:=(I.hok a u z).is
   rw [hn] at e;cases e
 refine ⟨fr,I.un ⟨fun b u q _ _ _=>k b u q,fun b u q _ _ _=>⟨u.slots,k b u q⟩,fun b u q n _=>?_,fun b u q _=>⟨u,k b u q⟩,fun b xs q=>by rw [ze (za q fr)];exact q,fun b u xs q=>by rw [ze (za q fr)];exact q,fun b ps q=>⟨#[],by rw [ze (za q fr),q];simp⟩⟩ fun b u e=>?_⟩
 ·have nb:b≠a:=fun z=>by subst z;rw [hn] at q;cases q
  rw [ze nb];exact n
 ·by_cases hb:b=a
  ·subst hb;rw [zS] at e;cases e;exact new
  ·rw [ze hb] at e
   exact (I.hok b u e).stay (fun c v _ q=>k c v q) (fun c q=>by rw [ze (za q fr)];exact q) fun c xs q=>by rw [ze (za q fr)];exact q
theorem XN {x:Addr} {φ:Heap->Prop} (e:φ h) (t : ∃ o,h.get? x=some o) (k : ∀ h1 h2:Heap,φ h1->(∀ o,h1.get? x=some o->h2.get? x=some o)->φ h2):jQ P w H h x (.ext φ):=⟨e,t,k⟩
theorem ExN.keep {x:Addr} : ∀ h1 h2:Heap,ExN x C h1->(∀ o,h1.get? x=some o->h2.get? x=some o)->ExN x C h2:=fun _ _ ⟨_,_,_,_,_,_,z⟩ k=>⟨_,_,_,_,_,_,k _ z⟩
theorem ExD.keep {x:Addr} : ∀ h1 h2:Heap,ExD x C dx h1->(∀ o,h1.get? x=some o->h2.get? x=some o)->ExD x C dx h2:=fun _ _ ⟨n,_,_,_,_,_,_,z⟩ k=>⟨n,_,_,_,_,_,_,k _ z⟩
theorem XD.keep {fs:List (Str × V)} : ∀ h1 h2:Heap,XD dx fs h1->(∀ o,h1.get? dx=some o->h2.get? dx=some o)->XD dx fs h2:=fun _ _ ⟨mA,a,b,c⟩ k=>⟨mA,a.at k,b,c⟩
def wZ (K:W.Frag) (C f:Addr):Bool:=match K.lookup C with
 | some ⟨.type "type", _,.cls cd,sl⟩=>(match cd.mro,sl.toList with
  | .ref C'::bm,[_,_,_,_,some (.builtin n),_]=>C' == C && n == "ValueError.__new__" && !cd.hasDel && W.tailIn K VEB bm && W.nsOkIn K cd.ns && W.nsIn K cd.ns "__init__" == some (some (.ref f))
  | _,_=>false)
 | _=>false
structure zIF (K:W.Frag) (C f:Addr):Prop where
 ex:wZ K C f=true
 fn:W.isFn K (.ref f)=true
 kp:W.keepIn K (.ref C)=true
theorem Kt {N:Addr} {n:Str} (X:K.In h) (G:h.Ns N mg) (e:W.nsIn K N n=some (some v)):mg n=some v:=by
 obtain ⟨o,es,ep,ho,hd,_,hf⟩:=G
 unfold W.nsIn at e
 split at e
 ·rename_i c d es' n' sl q
  have z:=(X _ _ q).symm.trans ho
  cases z
  cases hd
  split at e
  ·rename_i en he
   cases e
   rw [<- hf]
   unfold nsFind findBy
   rw [<- Array.find?_toList,he]
   rfl
  ·split at e <;> cases e
 ·cases e
theorem XQ {f:Addr} (X:K.In h) (c:wZ K C f=true) : ∃ tl N nm q bs hdct sn sub ab col dd k0 k1 k2 k3 k5 mN,
  h.get? C=some (excClassObj nm q C N bs tl hdct sn sub ab col dd k0 k1 k2 k3 k5 "ValueError.__new__")/\h.Ns N mN/\mN "__init__" = some (.ref f)/\OwnTail h VEB tl:=by
 have q:=c
 unfold wZ at q
 split at q
 ·rename_i dd cd sl ho
  split at q
  ·rename_i C' bm k0 k1 k2 k3 n k5 hm hs
   simp only [Bool.and_eq_true,beq_iff_eq,Bool.not_eq_true'] at q
   obtain ⟨⟨⟨⟨⟨z1,z2⟩,hdel⟩,ht⟩,hok⟩,hi⟩:=q
   subst z1 z2
   obtain ⟨nm,bs,mro,ns,qn,hdc,sn,sub,ab,col,del⟩:=cd
   dsimp only at hm hdel hok hi
   subst hm hdel
   have hsl:sl = #[k0,k1,k2,k3,some (.builtin "ValueError.__new__"),k5]:=by
    cases sl with
    | mk l=>simp only at hs;rw [hs]
   subst hsl
   have G:h.Ns ns (h.nsMap ns):=.of_isNs (W.isNs_of_in X hok)
   exact ⟨bm,ns,nm,qn,bs,hdc,sn,sub,ab,col,dd,k0,k1,k2,k3,k5,h.nsMap ns,X _ _ ho,G,Kt X G hi,W.tail_of_in X ht⟩
  ·cases q
 ·cases q
section
variable {prog : Program} {w : World} {A : Around} {E : Value -> Shared -> Prop} {h : Heap} {g : Array GenState} {d : Drawn} {t : Nat} {os : OsState}
variable {nm q : Str} {C N : Addr} {bs bm bmB : List Value} {hdct : Bool} {sn : List Str} {sub : List Value} {ab : Bool} {col : Option Bool} {dd : Option Addr} {k0 k1 k2 k3 k5 : Option Value} {B newId initId : String}
theorem VC (F:ExcBaseFacts B newId initId bmB) (T:OwnTail h bmB bm) {mN:Str->Option Value} {us:List Value} {f:Addr} {of:Obj} {Q:Fin->Shared->Prop}
  (hC:h.get? C=some (excClassObj nm q C N bs bm hdct sn sub ab col dd k0 k1 k2 k3 k5 newId)) (hN:h.Ns N mN) (hi:mN "__init__" = some (.ref f)) (hf:h.get? f=some of) (hfc:of.cls = .type "function")
  (go : ∀ h' y,Heap.MadeExcOf h h' y (.ref C) us->wpAny (model prog w) A (call (.ref f) (.ref y::us)) (fun r s'=>r = .none/\Q (.done (.ret (.ref y))) s') E ⟨h',g,d,t,os⟩) (hz:us.length<=sizeLine) :
  wpAny (model prog w) A (Builtin.«type.__call__» ⟨.ref C::us,[]⟩) Q E ⟨h,g,d,t,os⟩:=by
 repeat (first | with_reducible refine wpAny_loadPart_at hC ?_ | with_reducible refine wpAny_madeBy_exc hC ?_ | wp_step)
 refine codeAny_call_builtin_code (Code.quiet_builtin _ F.quiet) (wpAny_check_new_subT F T hC (codeAny_exc_new_subT F T hC ?_ hz))
 show wpAny _ _ _ _ _ _
 generalize hb1:({ cls:=.type "tuple", data:=.seq us.toArray }:Obj)=b1
 generalize hb2:({ cls:=.ref C,data:=.fields #[.ref h.objs.size,.none,.none,.none,.bool false,.none] }:Obj)=b2
 have kp : ∀ b o,h.get? b=some o->((h.push b1).push b2).get? b=some o:=fun b o e=>Heap.get?_push_of_some _ (Heap.get?_push_of_some _ e)
 have hC':=kp _ _ hC
 have hf':=kp _ _ hf
 have hN':=hN.keeps kp
 have hy:((h.push b1).push b2).get? (h.objs.size+1)=some b2:=by
  subst hb1 hb2;heap_get
 have hcC:(Value.ref C::bm).contains (.ref C)=true:=by simp
 have T':=T.keeps kp
 have hy2:b2.cls = .ref C:=by rw [<- hb2]
 unfold isInstance
 repeat (first | (with_reducible refine wpAny_loadPart_at hy ?_;rw [hy2]) | (with_reducible refine wpAny_isSubtype_exc hC' ?_;rw [hcC]) | wp_step)
 show wpAny _ _ (typeLookup (.ref C) _) _ _ _
 refine wpAny_typeLookup_tail hC' hN' T' F.mroIs F.init.lookup ?_
 rw [hi]
 refine wpAny_holding (wpAny_bind ?_)
 unfold bindSpecial
 refine wpAny_bind (wpAny_typeOf (T:="function") ⟨_,hf',hfc⟩ ?_)
 rw [if_pos (by decide)]
 have made:Heap.MadeExcOf h ((h.push b1).push b2) (h.objs.size+1) (.ref C) us:=by
  refine ⟨kp,Heap.get?_none_of_le (Nat.le_succ _),h.objs.size,by rw [hy,<- hb2],Heap.get?_none_of_le (Nat.le_refl _),?_⟩
  subst hb1
  exact Heap.get?_push_of_some _ (Heap.get?_push_at rfl rfl)
 refine wpAny_pure (wpAny_bind (wpAny_mono (go _ _ made) (fun r s' hr=>?_) fun _ _ z=>z))
 obtain ⟨rfl,hQ⟩:=hr
 wp_walk
 exact hQ
theorem Kf (F:ExcBaseFacts B newId initId bmB) (T:OwnTail h bmB bm) {mN:Str->Option Value} {us:List Value} {f:Addr} {of:Obj} {Q:Value->Shared->Prop}
  (hC:h.get? C=some (excClassObj nm q C N bs bm hdct sn sub ab col dd k0 k1 k2 k3 k5 newId)) (hN:h.Ns N mN) (hi:mN "__init__" = some (.ref f)) (hf:h.get? f=some of) (hfc:of.cls = .type "function")
  (go : ∀ h' y,Heap.MadeExcOf h h' y (.ref C) us->wpAny (model prog w) (A.under (.builtin "type.__call__" ⟨.ref C::us,[]⟩)) (call (.ref f) (.ref y::us)) (fun r s'=>r = .none/\Q (.ref y) s') E ⟨h',g,d,t,os⟩) (hz:us.length<=sizeLine) :
  wpAny (model prog w) A (call (.ref C) us) Q E ⟨h,g,d,t,os⟩:=by
 have f1:=tc_lookup
 have f2:=tc_bind (.ref C)
 have ty:(⟨h,g,d,t,os⟩:Shared).TypeIs (.ref C) "type" := ⟨_,hC,rfl⟩
 refine wpAny_call (codeAny_of_tree (show wpAny _ _ (callAny (.ref C) _) _ _ _ from ?_))
 repeat (any_goals (first | assumption | with_reducible refine wpAny_loadPart_at hC ?_ | wp_step))
 exact ⟨rfl,codeAny_call_builtin_at (Code.quiet_builtin _ (by decide +kernel)) entry_typeCall (wpAny_check_type_call_sub hC (VC F T hC hN hi hf hfc (fun h' y hm=>go h' y hm) hz))⟩
end
section
variable {prog : Program} {w : World} {A : Around} {E : Value -> Shared -> Prop} {h : Heap} {g : Array GenState} {d : Drawn} {t : Nat} {os : OsState}
variable {nm q : Str} {C N : Addr} {bs bm bmB : List Value} {hdct : Bool} {sn : List Str} {sub : List Value} {ab : Bool} {col : Option Bool} {dd : Option Addr} {k0 k1 k2 k3 k5 : Option Value} {B newId initId : String}
theorem Xm (F:ExcBaseFacts B newId initId bmB) (T:OwnTail h bmB bm) {us:List Value} {v0 v1 v2 v3 v4 v5:Value} {Q:Value->Shared->Prop}
  (hC:h.get? C=some (excClassObj nm q C N bs bm hdct sn sub ab col dd k0 k1 k2 k3 k5 newId)) (hy:h.get? y=some { cls:=.ref C,data:=.fields #[v0,v1,v2,v3,v4,v5] }) (hz:us.length<=sizeLine)
  (go : ∀ h',(∀ b o,b≠y->h.get? b=some o->h'.get? b=some o)->(∃ u0:Value,h'.get? y=some { cls:=.ref C,data:=.fields #[u0,v1,v2,v3,v4,v5] })->Q .none ⟨h',g,d,t,os⟩) :
  wpAny (model prog w) A (call (.builtin initId) (.ref y::us)) Q E ⟨h,g,d,t,os⟩:=by
 refine wpAny_call (codeAny_call_builtin F.init.plain F.initEntry (wpAny_check_init_subT F T hC hy rfl ?_))
 wp_walk
 have fin:=go ((h.push { cls:=.type "tuple", data:=.seq us.toArray }).update y (Obj.mapFields fun x=>x.setIfInBounds 0 (.ref h.objs.size))) (fun b o hb e=>?_) ⟨.ref h.objs.size,?_⟩
 ·show wpAny _ _ (match v0 with | .ref a=>letGo [v0] | x=>pure ()) _ _ _
  split
  ·refine wpAny_letGo ?_
   wp_walk
   exact fin
  ·refine wpAny_pure ?_
   wp_walk
   exact fin
 ·rw [Heap.get?_update_other _ _ (Ne.symm hb)]
  exact Heap.get?_push_of_some _ e
 ·rw [Heap.get?_update_self _ (Heap.get?_push_of_some _ hy) rfl]
  rfl
end
structure PIni (K:W.Frag) (P:Addr):Prop where
 sp:W.specialIn K (.ref P) "__getattribute__" = some (some (.builtin "type.__getattribute__"))
 rd:W.readsIn K P (.type "type")=true
 fc:W.findCls K (.ref P) (.type "type") "__init__" = some (.val (.builtin "ValueError.__init__"))
theorem zGR {a:Addr} {o:HO} (e:H a=some o):upd H a o=H:=by
 funext b
 by_cases z:b=a
 ·subst z;rw [zS,e]
 ·rw [ze z]
theorem Va {tl:List Value} (T:OwnTail h VEB tl) (self:Value):refuseLoop self "__setattr__" tl=pure ():=by
 induction T with
 | base=>exact PySem.F.store_ValueError.passes self
 | _=>rw [refuseLoop_ref];assumption
theorem KZ {f:Addr} (X:K.In h) (c:wZ K C f=true) : ∃ cd bm,W.clsIn K C=some cd/\cd.mro = .ref C::bm/\OwnTail h VEB bm:=by
 have q:=c
 unfold wZ at q
 unfold W.clsIn
 split at q
 ·rename_i dd cd sl ho
  rw [ho]
  split at q
  ·rename_i C' bm k0 k1 k2 k3 n k5 hm hs
   simp only [Bool.and_eq_true,beq_iff_eq,Bool.not_eq_true'] at q
   obtain ⟨⟨⟨⟨⟨z1,z2⟩,hdel⟩,ht⟩,hok⟩,hi⟩:=q
   subst z1
   exact ⟨cd,bm,rfl,hm,W.tail_of_in X ht⟩
  ·cases q
 ·cases q
structure ExF (K:W.Frag) (C f:Addr) (z:Str):Prop where
 ex:wZ K C f=true
 b:ExcB K C
 sa:W.findIn K (.ref C) "__setattr__" = some (some (.builtin "object.__setattr__"))
 na:W.findIn K (.ref C) z=some none
section
open PySem.W Builtin Builtin.ObjectAttr
variable {prog : Program} {w : World} {A : Around} {E : Value -> Shared -> Prop} {s : Shared} {K : Frag} {x C f : Addr}
theorem zAc {R:Result->Shared->Prop} {ox:Obj} {od:Option Obj} {name:Str} {tk:Tok} (X:K.In s.heap) (I:InstAt s.heap x ox C od) (c:ExF K C f name)
  (go : ∀ b,wpAny (model prog w) A.in1 (storeInOwnDict (.ref x) (.ref C) (.str name tk) name v b) (fun fin s'=>match fin with | .done z=>R (.ok z) s' | .again c'=>c'.quiet=true/\codeAny (model prog w) A c' R s') (fun e s'=>R (.error e) s') s) :
  codeAny (model prog w) A (.call (.builtin "object.__setattr__") ⟨[.ref x,.str name tk,v],[]⟩) R s:=by
 have SF:=PySem.F.store_object
 obtain ⟨cd,bm,hc,hmro,T⟩:=KZ X c.ex
 have isO:Looks (model prog w) s.heap (isInstance (.ref x) (.type "object")) true:=I.type.andThen (looks_mroIn X c.b.hm)
 refine codeAny_call_builtin SF.slot.plain SF.entry (@check_slot (model prog w) _ _ s "object.__setattr__" "object" "__setattr__" (.ref x) [.str name tk,v] [] _ SF.kind SF.split isO (SF.args (.ref x) (.str name tk) v) ?_)
 have L1:Looks (model prog w) s.heap (mroOf (.ref C)) cd.mro:=(looks_clsIn X hc).andThen .now
 have L2:Looks (model prog w) s.heap (storeTaker? none) none:=.now
 rw [osa_eq,refuse_eq]
 refine wpAny_bind (wpAny_bind (I.type.here (wpAny_bind (L1.here ?_))))
 rw [hmro,refuseLoop_ref,Va T]
 exact wpAny_pure (wpAny_bind (I.type.here (wpAny_bind ((looks_findIn X c.na).here (wpAny_bind (L2.here (go _)))))))
end
section
variable {prog : Program} {w : World} {A : Around} {E : Value -> Shared -> Prop} {s : Shared} {K : W.Frag} {x dx C f : Addr} {mA : Str -> Option Value} {name : Str} {v : Value}
theorem Km {Q:Unit->Shared->Prop} (X:K.In s.heap) (hx:s.heap.get? x=some { cls:=.ref C,data:=.fields vs }) (c:ExF K C f name)
  (go : ∀ h' t',(∀ b o,b≠x->s.heap.get? b=some o->h'.get? b=some o)->h'.get? x=some { cls:=.ref C,dict:=some s.heap.objs.size,data:=.fields vs }->h'.Ns1 s.heap.objs.size (fun y=>if y=name then some v else none)->Q () { s with heap:=h',toks:=t' }) :
  wpAny (model prog w) A (setAttr (.ref x) name v) Q E s:=by
 have J:W.InstAt s.heap x { cls:=.ref C,data:=.fields vs } C none:=⟨hx,rfl,rfl,trivial⟩
 refine W.set_plain X J c.sa (zAc (s:={ s with toks:=s.toks+1 }) X J c fun b=>?_)
 obtain ⟨cd,hc,hd'⟩:=W.any_some c.b.hd
 refine wpAny_bind (wpAny_pure (wpAny_bind (wpAny_bind (wpAny_loadPart hx (wpAny_bind (W.Looks.here (s:={ s with toks:=s.toks+1 }) (W.looks_clsIn X hc) ?_))))))
 rw [hd']
 have hx1:(s.heap.push { cls:=.type "dict", data:=.dict #[] }).get? x=some { cls:=.ref C,data:=.fields vs }:=Heap.get?_push_of_some _ hx
 have ne:x≠s.heap.objs.size:=ne_of_lt (Heap.lt_size hx)
 show wpAny _ _ (alloc { cls:=.type "dict", data:=.dict #[] } >>= fun d=>update x (fun o=>{ cls:=o.cls,dict:=some d,data:=o.data,slots:=o.slots }) >>= fun _=>pure (some d)) _ _ _
 refine wpAny_bind (wpAny_alloc' (wpAny_bind (wpAny_update' hx1 (wpAny_pure ?_))))
 have hgd:((s.heap.push { cls:=.type "dict", data:=.dict #[] }).update x fun o=>{ cls:=o.cls,dict:=some s.heap.objs.size,data:=o.data,slots:=o.slots }).get? s.heap.objs.size=some { cls:=.type "dict", data:=.dict #[] }:=
  (Heap.get?_update_ne _ _ _ _ ne.symm).trans (Heap.get?_push_at rfl rfl)
 have hnd:((s.heap.push { cls:=.type "dict", data:=.dict #[] }).update x fun o=>{ cls:=o.cls,dict:=some s.heap.objs.size,data:=o.data,slots:=o.slots }).Ns s.heap.objs.size (fun _=>none):=
  ⟨_,#[],_,hgd,rfl,(fun e he=>absurd he (by simp)),fun _=>rfl⟩
 have hxd:((s.heap.push { cls:=.type "dict", data:=.dict #[] }).update x fun o=>{ cls:=o.cls,dict:=some s.heap.objs.size,data:=o.data,slots:=o.slots }).get? x=some { cls:=.ref C,dict:=some s.heap.objs.size,data:=.fields vs }:=Heap.get?_update_self _ hx1 rfl
 refine wpAny_bind (wpAny_pure (wpAny_bind ?_))
 refine wpAny_nsSet1 (Heap.Ns1.of_empty hnd) fun h' hn2 hs2=>?_
 obtain ⟨oD,esD,epD,hoD,hdD,hcD⟩:=hn2.count (Within.cons name v Within.nil)
 refine wpAny_bind (wpAny_lookBehind hoD (by rw [hdD];exact pastItsLine_dict (Nat.le_trans hcD (by rw [List.length_cons,List.length_nil,sizeLine_eq];omega))) ?_)
 exact wpAny_pure (go h' _ (fun b o hb e=>(hs2.2 b (ne_of_lt (Heap.lt_size e))).trans ((Heap.get?_update_ne _ _ _ _ hb).trans (Heap.get?_push_of_some _ e))) ((hs2.2 x ne).trans hxd) hn2)
end
section
open PySem.W PySem.Calls Builtin Builtin.ObjectAttr
variable {K : Frag} {x C dx : Addr} {prog : Program} {w : World} {A : Around} {E : Value -> Shared -> Prop} {s : Shared}
theorem zJr {z:Str} {mA:Str->Option Value} {b:Bool} {Q:Value->Shared->Prop} (X:K.In s.heap) (hx:s.heap.get? x=some { cls:=.ref C,dict:=some dx,data:=.fields vs }) (hns:s.heap.Ns1 dx mA) (c:ExcB K C)
  (na:findIn K (.ref C) z=some none) (hv:mA z=some v) (hh:handedIn v=true) (q:Q v { s with toks:=s.toks+1 }):wpAny (model prog w) A (getAttr (.ref x) z b) Q E s:=by
 obtain ⟨od,hod,hl⟩:=Qe hns
 have J:InstAt s.heap x { cls:=.ref C,dict:=some dx,data:=.fields vs } C (some od):=⟨hx,rfl,rfl,hod⟩
 have e:zAm x C s.heap:=⟨_,hx,rfl,_,rfl⟩
 have T2:=looks_find (M:=model prog w) X J (findObj_own c.hd na rfl (by rw [hl,hv]))
 obtain ⟨hp,gn,dw,tk,os⟩:=s
 have T0:=e.ty (M:=model prog w)
 have T1:=looks_findIn (M:=model prog w) X c.h1
 have T3:=looks_findIn (M:=model prog w) X c.h2
 have B0:=PySem.F.attrBase_ValueError.ga.bind (.ref x)
 unfold getAttr getAttrBy
 refine wpAny_bind (wpAny_mkText (wpAny_holding (wpAny_bind (T0.at (wpAny_bind (T1.at ?_))))))
 show wpAny _ _ (getAttrByItsOwn (.ref x) (.str z tk) (.ref C) (.builtin "BaseException.__getattribute__") true b) _ _ _
 unfold getAttrByItsOwn
 refine wpAny_bind ((show Looks (model prog w) hp (hookBefore (.ref C)) none from T3).at ?_)
 unfold callGetattribute
 rw [show (b && onTheHeap (Value.builtin "BaseException.__getattribute__"))=false from by cases b <;> rfl,if_neg (by decide)]
 unfold boundAndCalled
 rw [B0]
 have go : ∀ A',wpAny (model prog w) A' (Builtin.«object.__getattribute__» ⟨[.ref x,.str z tk],[]⟩) (fun fin s'=>match fin with | .done (.ret u)=>u=v/\s'=⟨hp,gn,dw,tk+1,os⟩ | _=>False) (fun _ _=>False) ⟨hp,gn,dw,tk+1,os⟩:=fun A'=>by
  unfold Builtin.«object.__getattribute__»
  refine wpAny_bind (wpAny_pure (wpAny_bind (wpAny_pure (wpAny_bind (T0.at (wpAny_bind (T2.at ?_)))))))
  exact wpAny_pure ⟨rfl,rfl⟩
 refine wpAny_bind (wpAny_attempt (wpAny_holding (wpAny_bind (wpAny_pure (wpAny_call (zD6 X e c ?_ go))))))
 show wpAny _ _ (handedOut v) _ _ _
 rw [handedOut_of hh]
 exact wpAny_pure q
end
set_option exponentiation.threshold 2000
def zHQ (P:Program) (w:World) (K:W.Frag) (mg:Str->Option Value) (base:Heap) (CX:CXT) (C:Addr) (k:Nat) (ps:List Str) (sp:Sp):Prop:=∃ f fd,xG P w K mg base CX k f fd ps sp/\zIF K C f/\j9 K fd ps []
def Fl (H:Hp) (x C:Addr) (z:Str) (v:V):Prop:=∃ dx fs,H x=some (.ext (ExD x C dx))/\H dx=some (.ext (XD dx fs))/\fs.lookup z=some v
theorem Fl.same {H':Hp} {x:Addr} {z:Str} {v:V} (g:zW H H') (h:Fl H x C z v):Fl H' x C z v:=let ⟨d,fs,a,b,c⟩:=h;⟨d,fs,g _ _ a,g _ _ b,c⟩
inductive El (H:Hp):V->PyData->Prop
 | int (i:Int):El H (.int i) (.int i)
 | str {z:Str} (ok:PyData.strOk z=true):El H (.str z) (.str z)
 | tup {t:Addr} {n:Int} (e:H t=some (.tup [.int n,.int 7])):El H (.ref t) (.tuple [.int n,.int 7])
inductive Els (H:Hp):List V->List PyData->Prop
 | nil:Els H [] []
 | cons {x:V} {d:PyData} {xs:List V} {ds:List PyData}:El H x d->Els H xs ds->Els H (x::xs) (d::ds)
section
variable {K : W.Frag} {H H' : Hp}
theorem El.keep (g : ∀ b xs,H b=some (.tup xs)->H' b=some (.tup xs)) {x:V} {d:PyData} (h:El H x d):El H' x d:=by
 cases h with
 | int i=>exact .int i
 | str ok=>exact .str ok
 | tup e=>exact .tup (g _ _ e)
theorem Els.keep (g : ∀ b xs,H b=some (.tup xs)->H' b=some (.tup xs)) : ∀ {xs:List V} {ds:List PyData},Els H xs ds->Els H' xs ds
 | _,_,.nil=>.nil
 | _,_,.cons a t=>.cons (a.keep g) (t.keep g)
theorem Els.same (g:zW H H') {xs:List V} {ds:List PyData} (h:Els H xs ds):Els H' xs ds:=h.keep fun b xs e=>g _ _ e
theorem Els.snoc {y:V} {e:PyData} (hy:El H y e) : ∀ {xs:List V} {ds:List PyData},Els H xs ds->Els H (xs++[y]) (ds++[e])
 | _,_,.nil=>.cons hy .nil
 | _,_,.cons a t=>.cons a (t.snoc hy)
theorem El.dt {x:V} {d:PyData} (h:El H x d):Dt K H x d/\d.canLay0=true/\d.depth<=3:=by
 cases h with
 | int i=>exact ⟨.int i,by simp [PyData.canLay0],by simp [PyData.depth]⟩
 | str ok=>exact ⟨.str _,by simp [PyData.canLay0,ok],by simp [PyData.depth]⟩
 | tup e=>exact ⟨.tup (SqT.of e) (.cons (.int _) (.cons (.int _) .nil)),by simp [PyData.canLay0,PyData.canLayAll0],by simp [PyData.depth,PyData.depthAll]⟩
theorem Els.dts : ∀ {xs:List V} {ds:List PyData},Els H xs ds->Dts K H xs ds/\PyData.canLayAll0 ds=true/\PyData.depthAll ds<=3
 | _,_,.nil=>⟨.nil,by simp [PyData.canLayAll0],by simp [PyData.depthAll]⟩
 | _,_,.cons a t=>by
  obtain ⟨a1,a2,a3⟩:=a.dt (K:=K)
  obtain ⟨t1,t2,t3⟩:=t.dts
  exact ⟨.cons a1 t1,by simp [PyData.canLayAll0,a2,t2],by simp only [PyData.depthAll];omega⟩
theorem Els.list {p:Addr} {xs:List V} {ds:List PyData} (h:Els H xs ds) (e:H p=some (.lst xs)):Dt K H (.ref p) (.list ds)/\(PyData.list ds).canLay0=true/\(PyData.list ds).depth<=20:=by
 obtain ⟨a,b,c⟩:=h.dts (K:=K)
 exact ⟨.lst (SqL.of e) a,by simp [PyData.canLay0,b],by simp only [PyData.depth];omega⟩
end
def CD (C:Addr) (od:Option Addr) (h:Heap) (e:Addr):Prop:=∃ vs:Array Value,h.get? e=some { cls:=.ref C,dict:=od,data:=.fields vs }/\vs[2]? = some .none
section
variable {M : Model} {A : Around} {E : Value -> Shared -> Prop} {s : Shared} {base : Heap} {env : Env} {outer : List Env} {L e C : Addr} {od : Option Addr} {Q : Unit -> Shared -> Prop}
theorem zDT {head:Value} {hadNext:Bool} (fr:A.frames=some (env::outer)) (FF:s.heap.FunFrames base (env::outer)) (ef:env.frame=some L) (a1:s.heap.get? e=some { cls:=.ref C,dict:=od,data:=.fields vs })
  (a2:base.StaysIn s.heap) (a3:base.get? e=none) (a5:1 < vs.size) (a6:vs[0]? = some a0) (a7:vs[2]? = some .none)
  (k : ∀ h',Heap.NotedW base (env::outer) e (.ref C) a0 (rawInt L) s.heap h'->CD C od h' e->Q () { s with heap:=h' }) :
  wpAny M A (do let a <- frameOf env;let pl <- entryPlaceOf L hadNext;let b <- EntryCells.newEntry head a .none (rawInt L) .none pl;setField (.ref e) 1 b) Q E s:=by
 have nf:e ∉ (env::outer).filterMap (·.frame):=fun m=>by
  obtain ⟨_,o,q,n⟩:=FF.mem m
  exact jA a1 rfl q n rfl
 refine wpAny_bind (wpAny_frameOf_fun fr FF ef fun g sg=>wpAny_bind (wpAny_entryPlaceOf fun pl ip=>?_))
 unfold EntryCells.newEntry newFields
 have g1:=(sg.2.1 e nf).trans a1
 refine wpAny_bind (wpAny_newObj_type (wpAny_setField (Heap.get?_push_of_some _ g1) rfl a5 ?_) (ip.sizeOk5 _ _ _ _ _))
 have nh:=J8 (ob:={ cls:=.type "traceback", dict:=none,data:=.fields ([head,.ref L,.none,rawInt L,.none]++(if pl.isEmpty then List.replicate 6 Value.none else pl)).toArray }) FF sg a1 a2 a3 rfl a5 a6 a7 rfl (fl:=rawInt L) (by simp)
 refine k _ nh.1 ⟨_,Heap.get?_update_self _ (Heap.get?_push_of_some _ g1) rfl,?_⟩
 rw [Array.getElem?_setIfInBounds_ne (by decide)];exact a7
theorem Y8 {l:List Env} (a2:base.StaysIn s.heap) (FF:s.heap.FunFrames base l) (tr:s.heap.TracedAtW base e (.ref C) a0 fl) (c2:CD C od s.heap e)
  (k : ∀ h',base.StaysIn h'->h'.FunFrames base l->h'.TracedW base e (.ref C) a0->CD C od h' e->s.heap.UpToSlots h'->Q () { s with heap:=h' }):wpAny M A (setFlight (.ref e) none) Q E s:=by
 obtain ⟨oe,vs,t,ot,ts,q1,q2,q3,q4,q5,q6,q7,q8,q9⟩:=tr
 obtain ⟨us,c1,c4⟩:=c2
 unfold setFlight
 refine wpAny_bind (wpAny_field q1 q3 q4 ?_)
 have nn:(Value.ref t != Value.none)=true:=by simp
 rw [if_pos nn]
 have lt3:=(Array.getElem?_eq_some_iff.mp q9).1
 have ot' : ∀ {b:Addr},b≠t->(s.heap.update t (Obj.mapFields (·.setIfInBounds 3 ((none:Option Addr).elim Value.none fun f=>rawInt f)))).get? b=s.heap.get? b:=fun {b} n=>Heap.get?_update_other _ _ (Ne.symm n)
 have df:=Obj.data_mapFields q8 (·.setIfInBounds 3 ((none:Option Addr).elim Value.none fun f=>rawInt f))
 refine wpAny_setField q7 q8 lt3 (k _ (fun b o q=>(ot' fun z=>by rw [z,q5] at q;cases q).trans (a2 b o q)) (FF.of_keeps fun b o q n=>⟨o,(ot' (jA q7 q8 q n)).trans q,rfl⟩)
  ⟨oe,vs,t,_,_,(ot' (Ne.symm q6)).trans q1,q2,q3,q4,q5,q6,Heap.get?_update_self _ q7 (Obj.isFreed_of_fields df),df,?_⟩ ⟨us,(ot' (Ne.symm q6)).trans c1,c4⟩ fun b o q n=>⟨o.slots,(ot' (jA q7 q8 q n)).trans q⟩)
 rw [Array.getElem?_setIfInBounds_self_of_lt lt3];rfl
theorem zAi {b3 b4 b5:Value} (fr:A.frames=some (env::outer)) (ef:env.frame=some L) (a1:s.heap.get? e=some { cls:=.ref C,dict:=od,data:=.fields #[a0,.none,.none,b3,b4,b5] }) (a2:base.StaysIn s.heap) (FF:s.heap.FunFrames base (env::outer)) (a3:base.get? e=none)
  (k : ∀ h',Heap.FlyingW base outer e (.ref C) a0 h'->CD C od h' e->s.heap.UpToSlots h'->Q () { s with heap:=h' }):wpAny M A (leaving env (.ref e)) Q E s:=by
 unfold leaving noteFrame
 simp only [ef]
 refine wpAny_bind (wpAny_bind (wpAny_field a1 rfl (x:=.none) rfl ?_))
 have nn : ¬ ((Value.none != Value.none)=true):=by decide
 rw [if_neg nn]
 refine zDT fr FF ef a1 a2 a3 (by show 1 < 6;decide) (a0:=a0) rfl rfl fun h1 nd c1=>?_
 obtain ⟨n1,n2,n3,n4⟩:=nd
 exact Y8 (s:={ s with heap:=h1 }) n1 n2 n3 c1 fun h2 w1 w2 w3 w4 w5=>k h2 ⟨w1,a3,w2.2.2,w3⟩ w4 (Heap.UpToSlots.trans (h₂:=h1) n4 w5)
theorem zF4 (fr:A.frames=some (env::outer)) (ef:env.frame=some L) (fly:Heap.FlyingW base (env::outer) e (.ref C) a0 s.heap) (c2:CD C od s.heap e)
  (k : ∀ h',Heap.HeldW base (env::outer) e (.ref C) a0 L h'->CD C od h' e->s.heap.UpToSlots h'->Q () { s with heap:=h' }):wpAny M A (noteFrame (.ref e) env) Q E s:=by
 obtain ⟨f1,f2,f3,oe,vs,t,ot,ts,q1,⟨q2,q2'⟩,q3,q4,q5,q6,q7,q8,q9⟩:=fly
 obtain ⟨us,c1,c4⟩:=c2
 rw [c1] at q1
 cases q1
 cases q3
 unfold noteFrame
 simp only [ef]
 refine wpAny_bind (wpAny_field c1 rfl q4 ?_)
 have nn:(Value.ref t != Value.none)=true:=by simp
 have n3 : ¬ ((Value.none == rawInt L)=true):=by simp [rawInt]
 rw [if_pos nn]
 refine wpAny_bind (wpAny_field q7 q8 q9 ?_)
 rw [if_neg n3]
 have ot' : ∀ {b:Addr},b≠t->(s.heap.update t (Obj.mapFields (·.setIfInBounds 3 Value.none))).get? b=s.heap.get? b:=fun {b} n=>Heap.get?_update_other _ _ (Ne.symm n)
 refine wpAny_bind (wpAny_setField q7 q8 (Array.getElem?_eq_some_iff.mp q9).1 ?_)
 refine zDT fr (f3.of_keeps fun b o q n=>⟨o,(ot' (jA q7 q8 q n)).trans q,rfl⟩) ef ((ot' (Ne.symm q6)).trans c1) (fun b o q=>(ot' fun z=>by rw [z,q5] at q;cases q).trans (f1 b o q)) f2 (Array.getElem?_eq_some_iff.mp q4).1 q2' c4 fun h1 nd cc=>?_
 exact k h1 ⟨nd.1,f2,nd.2.1,nd.2.2.1⟩ cc fun b o q n=>nd.2.2.2 b o ((ot' (jA q7 q8 q n)).trans q) n
theorem zGH {l:List Env} (hd:Heap.HeldW base l e (.ref C) a0 L s.heap) (c2:CD C od s.heap e)
  (k : ∀ h',Heap.FlyingW base l e (.ref C) a0 h'->CD C od h' e->s.heap.UpToSlots h'->Q () { s with heap:=h' }):wpAny M A (setFlight (.ref e) none) Q E s:=
 Y8 hd.1 hd.2.2.1 hd.2.2.2 c2 fun h' w1 w2 w3 w4 w5=>k h' ⟨w1,hd.2.1,w2,w3⟩ w4 w5
theorem zDj {l:List Env} (fl:Heap.FlyingW base l e (.ref C) a0 s.heap) (c2:CD C od s.heap e)
  (k : ∀ h',Heap.FlyingW base l e (.ref C) a0 h'->CD C od h' e->s.heap.UpToSlots h'->Q () { s with heap:=h' }):wpAny M A (setFlight (.ref e) none) Q E s:=
 Y8 fl.1 fl.2.2.1 fl.2.2.2.at c2 fun h' w1 w2 w3 w4 w5=>k h' ⟨w1,fl.2.1,w2,w3⟩ w4 w5
end
def unt (H:Hp) (x:Addr):Hp:=fun b=>if b=x then none else H b
theorem Ve {x:Addr}:unt H x x=none:=if_pos rfl
theorem kT {x b:Addr} (h:b≠x):unt H x b=H b:=if_neg h
def WP (P:Program) (w:World):CXT:=fun outer H s E e s'=>∃ (x C:Addr) (a0:Value) (H':Hp) (B:Heap) (od:Option Addr),e = .ref x/\s'.os=s.os/\AllBare s'.gens/\Heap.FlyingW B outer x (.ref C) a0 s'.heap/\CD C od s'.heap x /\
 (∀ h',B.StaysIn h'->s'.heap.UpToSlots h'->Un (frs outer) [] H H' s.heap h'/\HOk P w H' h')/\s.heap.get? x=none/\H' x=none/\E (.ref C) od H'
def KH (x C:Addr) (h:Heap):Prop:=∃ v0 b3 b4 b5:Value,h.get? x=some { cls:=.ref C,data:=.fields #[v0,.none,.none,b3,b4,b5] }
def WQ (x C dx:Addr) (h:Heap):Prop:=dx≠x /\ ∃ v0 b3 b4 b5:Value,h.get? x=some { cls:=.ref C,dict:=some dx,data:=.fields #[v0,.none,.none,b3,b4,b5] }
def ExQ (x C dx:Addr) (h:Heap):Prop:=∃ vs:Array Value,h.get? x=some { cls:=.ref C,dict:=some dx,data:=.fields vs }
theorem KH.keep {x:Addr} : ∀ h1 h2:Heap,KH x C h1->(∀ o,h1.get? x=some o->h2.get? x=some o)->KH x C h2:=fun _ _ ⟨_,_,_,_,z⟩ k=>⟨_,_,_,_,k _ z⟩
theorem WQ.keep {x:Addr} : ∀ h1 h2:Heap,WQ x C dx h1->(∀ o,h1.get? x=some o->h2.get? x=some o)->WQ x C dx h2:=fun _ _ ⟨n,_,_,_,_,z⟩ k=>⟨n,_,_,_,_,k _ z⟩
theorem ExQ.keep {x:Addr} : ∀ h1 h2:Heap,ExQ x C dx h1->(∀ o,h1.get? x=some o->h2.get? x=some o)->ExQ x C dx h2:=fun _ _ ⟨_,z⟩ k=>⟨_,k _ z⟩
section
variable {P : Program} {w : World} {K : W.Frag} {mg : Str -> Option Value} {base : Heap} {N : List Str} {qual : Str} {scope : Scope} {f : Addr} {cd : Value} {A : Around} {outer : List Env} {s : Shared} {H : Hp} {E : XK}
theorem YJ {H1:Hp} {s1:Shared} {x:Addr} {args:List Value}
  (I:Inv (yd (WP P w) P w K mg base N qual scope f cd A outer s H E) pins σ H1 s1) (hm:Heap.MadeExcOf s1.heap h' x (.ref C) args) (q:E (.ref C) none H1) :
  (yd (WP P w) P w K mg base N qual scope f cd A outer s H E).xe (.ref x) { s1 with heap:=h' }:=by
 have nw:=WX I hm.new
 obtain ⟨t,m1,m2,m3⟩:=hm.there
 have FF:=ku I
 have bs:(W.hideAll s1.heap (frs (envOfC qual scope s.heap.objs.size f cd::outer))).StaysIn s1.heap:=fun b o e=>W.of_hideAll _ e
 have bx:(W.hideAll s1.heap (frs (envOfC qual scope s.heap.objs.size f cd::outer))).get? x=none:=by
  cases z:(W.hideAll s1.heap (frs (envOfC qual scope s.heap.objs.size f cd::outer))).get? x with
  | none=>rfl
  | some o=>have:=bs x o z;rw [hm.new] at this;cases this
 refine zAi (s:={ s1 with heap:=h' }) (base:=W.hideAll s1.heap (frs (envOfC qual scope s.heap.objs.size f cd::outer))) I.ok.frames rfl m1 (fun b o e=>hm.keeps b o (bs b o e)) (FF.of_keeps fun b o e _=>⟨o,hm.keeps b o e,rfl⟩) bx fun h2 f1 f2 f4=>?_
 exact ⟨x,C,_,H1,_,none,rfl,I.os,I.bare,f1,f2,Yx I hm.keeps f4,nw.1,nw.2,q⟩
theorem Wx {H1:Hp} {s1:Shared} {x:Addr}
  (I:Inv (yd (WP P w) P w K mg base N qual scope f cd A outer s H E) pins σ H1 s1) (hx:H1 x=some (.ext (WQ x C dx))) (h0:H x=none) (q:E (.ref C) (some dx) (unt H1 x)) :
  (yd (WP P w) P w K mg base N qual scope f cd A outer s H E).xe (.ref x) s1:=by
 have ne : ∀ {b:Addr} {o:HO},H1 b=some o->(∀ φ,o ≠ .ext φ)->b≠x:=fun {b o} e n z=>by
  rw [z,hx] at e;cases e;exact n _ rfl
 obtain ⟨nd,v0,b3,b4,b5,ex⟩:=(I.hok x _ hx).1
 have nw:s.heap.get? x=none:=by
  cases z:s.heap.get? x with
  | none=>rfl
  | some o=>have:=I.base.free x o z h0 (fun h=>nomatch h);rw [hx] at this;cases this
 have hst : ∀ b ∈ frs (envOfC qual scope s.heap.objs.size f cd::outer),H1 b=none:=I.stkFree
 have FF0:s1.heap.FunFrames base (envOfC qual scope s.heap.objs.size f cd::outer):=I.stack
 have FF:s1.heap.FunFrames (W.hideAll s1.heap (x::frs (envOfC qual scope s.heap.objs.size f cd::outer))) (envOfC qual scope s.heap.objs.size f cd::outer):=
  W.funFrames_hide FF0 fun env he b hb=>List.mem_cons_of_mem _ (List.mem_filterMap.mpr ⟨env,he,hb⟩)
 refine zAi (s:=s1) (base:=W.hideAll s1.heap (x::frs (envOfC qual scope s.heap.objs.size f cd::outer))) I.ok.frames rfl ex (fun b o e=>W.of_hideAll _ e) FF (W.hideAll_none _ (List.mem_cons_self ..)) fun h2 f1 f2 f4=>?_
 refine ⟨x,C,_,unt H1 x,_,some dx,rfl,I.os,I.bare,f1,f2,fun h3 st sm=>?_,nw,Ve,q⟩
 have old : ∀ b o,s.heap.get? b=some o->b≠s.heap.objs.size:=fun b o e=>ne_of_lt (Heap.lt_size e)
 have nx : ∀ b o,s.heap.get? b=some o->b≠x:=fun b o e z=>by rw [z,nw] at e;cases e
 have sub : ∀ b,b ∈ frs (envOfC qual scope s.heap.objs.size f cd::outer)->b=s.heap.objs.size\/b ∈ frs outer:=fun b hb=>List.mem_cons.mp (I.stkSub b hb)
 have here : ∀ b o,s1.heap.get? b=some o->b ∉ frs (envOfC qual scope s.heap.objs.size f cd::outer)->b≠x->h3.get? b=some o:=fun b o e n m=>st b o (W.hideAll_get _ e fun z=>(List.mem_cons.mp z).elim m n)
 have fram : ∀ b o,s1.heap.get? b=some o->b ∈ frs (envOfC qual scope s.heap.objs.size f cd::outer) -> ∃ sl,h3.get? b=some { o with slots:=sl }:=fun b o e m=>by
  obtain ⟨_,o',e',nf⟩:=FF0.mem m
  have z:o'=o:=Option.some.inj (e'.symm.trans e)
  subst z
  obtain ⟨sl,e2⟩:=f4 b o' e nf
  obtain ⟨sl',e3⟩:=sm b _ e2 nf
  exact ⟨sl',e3⟩
 refine ⟨⟨fun b o e n hb hx'=>?_,fun b o e n hb hx'=>?_,fun b o e n hx'=>?_,fun b o e hx'=>?_,fun b xs e=>?_,fun b o u e=>?_,fun b ps e=>?_⟩,fun a u e=>?_⟩
 ·exact here b o (I.base.keep b o e n hb hx') (fun z=>(sub b z).elim (old b o e) hb) (nx b o e)
 ·obtain ⟨sl,e1⟩:=I.base.slot b o e n hb hx'
  have mem:b ∈ frs (envOfC qual scope s.heap.objs.size f cd::outer):=by
   show b ∈ List.filterMap _ _
   rw [List.filterMap_cons]
   exact List.mem_cons_of_mem _ hb
  obtain ⟨sl',e2⟩:=fram b _ e1 mem
  exact ⟨sl',e2⟩
 ·rw [kT (nx b o e)];exact I.base.free b o e n hx'
 ·obtain ⟨o',e1⟩:=I.base.there b o e hx'
  by_cases mem:b ∈ frs (envOfC qual scope s.heap.objs.size f cd::outer)
  ·obtain ⟨sl,e2⟩:=fram b o' e1 mem
   exact ⟨_,e2⟩
  ·exact ⟨o',here b o' e1 mem (nx b o e)⟩
 ·have k:=I.base.tups b xs e
  rw [kT (ne k fun φ z=>nomatch z)];exact k
 ·have k:=I.base.frzs b o u e
  rw [kT (ne k fun φ z=>nomatch z)];exact k
 ·obtain ⟨m,k⟩:=I.base.tbls b ps e
  exact ⟨m,by rw [kT (ne k fun φ z=>nomatch z)];exact k⟩
 ·have ax:a≠x:=fun z=>by rw [z,Ve] at e;cases e
  rw [kT ax] at e
  refine (I.hok a u e).stay (fun b ob hb eb=>here b ob eb (fun z=>?_) ?_) (fun b z=>?_) (fun b xs z=>?_)
  ·have:=hst b z
   rcases hb with rfl | hb
   ·rw [e] at this;cases this
   ·rw [hb] at this;cases this
  ·rcases hb with rfl | hb
   ·exact ax
   ·exact ne hb fun φ z=>nomatch z
  ·rw [kT (ne z fun φ z=>nomatch z)];exact z
  ·rw [kT (ne z fun φ z=>nomatch z)];exact z
end
def zCn (X:Cx) (E:XK):Prop:=∀ (pins:List (Addr × Obj)) (σ:St) (H:Hp) (s:Shared) (x C dx:Addr),Inv X pins σ H s->H x=some (.ext (WQ x C dx))->X.H₀ x=none->E (.ref C) (some dx) (unt H x)->X.xe (.ref x) s
theorem Yu.okX3 {f:Addr} (F:Yu K x qual st f fd) (S:zO N ps (zG st)) (len : ∀ vs H Q E,sp vs H Q E->vs.length=ps.length)
  (hbody : ∀ (cdv:Value) (A:Around) (outer:List Env) (s:Shared) (H:Hp) (vs:List V) (Q:VK) (E:XK),jq k (A.deeper (envOfC qual (zG st) s.heap.objs.size f cdv))->sp vs H Q E ->
   WM (yd (WP P w) P w K mg base N qual (zG st) f cdv A outer s H E) E->zCn (yd (WP P w) P w K mg base N qual (zG st) f cdv A outer s H E) E -> ∃ t,PSs (yd (WP P w) P w K mg base N qual (zG st) f cdv A outer s H E) (zu st) t/\t { nx:=fun _ H'=>Q .non H',rt:=Q } (start N vs) H):xG P w K mg base (WP P w) (k+1) f fd ps sp:=by
 obtain ⟨oc,od,dV,kV,doc,pm,an,cdv,ct,osl,rfl,lk,hcd⟩:=F.ex
 exact VJ lk hcd S len fun A outer s H vs Q E hr hsp=>hbody cdv A outer s H vs Q E hr hsp (fun pins σ H s h' x C args I hm q=>YJ I hm q) fun pins σ H s x C dx I hx h0 q=>Wx I hx h0 q
def zIf (C:Addr) (sp:Sp) (E:XK) (Q:VK):List V->Hp->Prop:=fun vs H1=>vs.length<=1000 /\ ∀ y,H1 y=none->sp (.ref y::(vs++[])) (upd H1 y (.ext (KH y C))) (fun v H2=>v = .non/\Q (.ref y) H2) E
def zDH (C:Addr) (sp:Sp) (E:XK) (t:TA):TE:=fun σ H Q=>t σ H (zIf C sp E Q)
section
variable {X : Cx} {CX : CXT} {k n : Nat} {f C : Addr} {fd : FuncData} {ps : List Str} {sp : Sp} {E : XK} {x : Str} {p pos : Pos} {e : Expr} {es : List Expr} {t : TA}
theorem Wl {us:List Value} {vs:List V} (M:zIF X.K C f) (F:xG X.prog X.w X.K X.mg X.base CX k f fd ps sp) (hr:jq (k+1) X.A) (hb:j9 X.K fd ps [])
  (hx:jv CX X E) (I:Inv X pins σ H s) (r:qE vs us) (hq0:zIf C sp E Q vs H) :
  wpAny (model X.prog X.w) X.A (call (.ref C) us) (EP X pins σ Q) X.xe s:=by
 obtain ⟨hl,h⟩:=hq0
 obtain ⟨tl,N,nm,q',bs,hdct,sn,sub,ab,col,dd,k0,k1,k2,k3,k5,mN,hC,hN,hi,T⟩:=XQ I.kIn M.ex
 have fo : ∃ of:Obj,s.heap.get? f=some of/\of.cls = .type "function" := by
  have z:=beq_iff_eq.mp M.fn
  unfold W.typeIn at z
  dsimp only at z
  cases lk:X.K.lookup f with
  | none=>rw [lk] at z;cases z
  | some o=>rw [lk] at z;exact ⟨o,I.kIn f _ lk,by simpa using z⟩
 obtain ⟨of,hf,hfc⟩:=fo
 refine Kf PySem.F.excBase_ValueError T hC hN hi hf hfc (fun h' y hm=>?_) (by rw [<- r.length];exact qm hl)
 obtain ⟨t0,e1,e2,e3⟩:=hm.there
 obtain ⟨fr,I2⟩:=I.laidN (a:=y) (o:=.ext (KH y C)) (t':=s.toks) hm.keeps hm.new (XN ⟨_,_,_,_,e1⟩ ⟨_,e1⟩ KH.keep)
 have hq:=h y fr
 have r2:qE (V.ref y::(vs++[])) (Value.ref y::(us++[])):=.cons rfl (r.append .nil)
 have hl2:(Value.ref y::us++[]).length=ps.length:=by
  have e:=r2.length
  rw [F.len _ _ _ _ hq] at e
  exact e.symm
 refine wpAny_call (codeAny_mono (F.run _ X.stack _ _ ⟨Value.ref y::us,[]⟩ (Value.ref y::(us++[])) _ _ E (hr.make C us []) (I2.env0.make C us []) (by rw [<- List.cons_append];exact hb _ (Value.ref y::us) I2.kIn hl2) r2 hq) fun r s' hq'=>?_)
 cases r with
 | error e=>exact hx pins σ _ _ e s' I2 hq'
 | ok fl =>
  cases fl with
  | ret u =>
   obtain ⟨v,H',I3,rv,ev,q3⟩:=I2.after hq'
   subst ev
   exact ⟨rv,⟨V.ref y,H',I3,rfl,q3⟩⟩
  | next=>exact False.elim hq'
  | brk=>exact False.elim hq'
  | cont=>exact False.elim hq'
theorem zB5 (F:zHQ X.prog X.w X.K X.mg X.base CX C k ps sp) (hx:jv CX X E) (hr:jq n X.A) (hg:Gl X x) (hm:X.mg x=some (.ref C)) (ha:PA X (e::es) t) (hk:k+1<=n:=by decide)
  (hdb:(x == ("__debug__" : Str))=false:=by decide) (he:starEach (e::es) X.env=(false,eval e X.env)::starEach es X.env:=by rfl) (hpl:(backTo pos (starEach es X.env)).any (·.1)=false:=by rfl) :
  PE X (.Call (.Name x p) (e::es) [] pos) (zDH C sp E t):=by
 obtain ⟨f,fd,G,M,b⟩:=F
 intro pins s σ H Q I h
 refine wpAny_Call_Name_kw (qZ I hg hm ?_ hdb)
 exact W.callWith_K (h₀:=X.base) I.ok.mod.kin M.kp (thn (ha pos pins s σ H _ I h) fun us s1 zq=>by
  obtain ⟨vs,H1,I1,r,q⟩:=zq
  exact ⟨I1.kIn,Wl M G (hr.mono hk) b hx I1 r q⟩) he hpl
end
def V5 (K:W.Frag) (Q:VK):List V->Hp->Prop:=fun vs H1=>∃ y C f u,vs=[.ref y,u]/\H1 y=some (.ext (KH y C))/\wZ K C f=true/\Q .non H1
def zDJ (K:W.Frag) (t:TA):TE:=fun σ H Q=>t σ H (V5 K Q)
section
variable {X : Cx} {x : Str} {P : Addr} {np apos pos : Pos} {e : Expr} {es : List Expr} {t : TA}
theorem W7 {us:List Value} {vs:List V} (I:Inv X pins σ H s) (r:qE vs us) (h:V5 X.K Q vs H) :
  wpAny (model X.prog X.w) X.A (call (.builtin "ValueError.__init__") us) (EP X pins σ Q) X.xe s:=by
 obtain ⟨y,C,f,u,rfl,hy,ex,q⟩:=h
 obtain ⟨v1,v2,rfl,r1,r2⟩:=Wo r
 cases r1
 obtain ⟨w0,w3,w4,w5,ho⟩:=(I.hok y _ hy).1
 obtain ⟨tl,N,nm,q',bs,hdct,sn,sub,ab,col,dd,k0,k1,k2,k3,k5,mN,hC,hN,hi,T⟩:=XQ I.kIn ex
 refine Xm PySem.F.excBase_ValueError T hC ho (qm (show 1<=1000 by decide)) fun h' kp zq=>?_
 obtain ⟨u0,hn⟩:=zq
 have I':=I.write (x:=y) (e:=y) (o:=.ext (KH y C)) (h':=h') (t':=s.toks) (by rw [hy];exact True.intro) (.inl rfl) (fun b o hb z=>kp b o hb z) ⟨_,hn⟩ (XN ⟨_,_,_,_,hn⟩ ⟨_,hn⟩ KH.keep)
 rw [zGR hy] at I'
 exact ⟨.non,H,I',rfl,q⟩
theorem zCb {pl:Sem Bool} (M:PIni X.K P) (hg:Gl X x) (hm:X.mg x=some (.ref P)) (ha:PA X (e::es) t)
  (hdb:(x == ("__debug__" : Str))=false:=by decide) (hst:starEach (e::es) X.env=(false,eval e X.env)::starEach es X.env:=by rfl) (hpl:(backTo pos (starEach es X.env)).any (·.1)=false:=by rfl)
  (ht:eval (.Call (.Attribute (.Name x np) "__init__" apos) (e::es) [] pos) X.env=(do
   let ov <- eval (.Name x np) X.env
   standAt apos.atName
   let (f,first) <- holding [ov] (getMethod ov "__init__" pl)
   callWith pos f first (backTo pos (starEach (e::es) X.env)) (backToKw pos (keywordEach [] X.env))):=by rfl) :
  PE X (.Call (.Attribute (.Name x np) "__init__" apos) (e::es) [] pos) (zDJ X.K t):=by
 intro pins s σ H Q I h
 refine W.methodCall_KW (pl:=pl) (qZ I hg hm ?_ hdb) ht
 refine W.method_cls I.kIn M.sp (W.cls_value I.kIn M.rd M.fc rfl ?_)
 have I1:=I.tok (s.toks+1)
 exact PyProof.Rows.callWith_builtin1 (thn (ha pos pins _ σ H _ I1 h) fun us s2 zq=>by
  obtain ⟨vs,H2,I2,r,q2⟩:=zq
  exact W7 I2 r q2) hst hpl
end
def zIa (K:W.Frag) (z:Str) (y:V) (D:yr) (σ:St):VK:=fun x H2=>∃ a C f,x = .ref a/\H2 a=some (.ext (KH a C))/\ExF K C f z /\ ∀ d,H2 d=none->D.nx σ (upd (upd H2 d (.ext (XD d [(z,y)]))) a (.ext (WQ a C d)))
def zHT (K:W.Frag) (ta tv:TE) (z:Str):TS:=fun D σ H=>tv σ H fun y H1=>ta σ H1 (zIa K z y D σ)
section
variable {X : Cx} {pins : List (Addr × Obj)} {σ : St} {H : Hp} {s : Shared} {x dx C f : Addr} {fs : List (Str × V)} {z : Str} {v : V} {A : Around} {E : Value -> Shared -> Prop}
theorem zAT {y:V} {u:Value} {Q:Unit->Shared->Prop} (I:Inv X pins σ H s) (e:H x=some (.ext (KH x C))) (c:ExF X.K C f z) (ry:jX y u)
  (h : ∀ d s',H d=none->Inv X pins σ (upd (upd H d (.ext (XD d [(z,y)]))) x (.ext (WQ x C d))) s'->Q () s'):wpAny (model X.prog X.w) A (setAttr (.ref x) z u) Q E s:=by
 obtain ⟨w0,w3,w4,w5,ho⟩:=(I.hok x _ e).1
 refine Km I.kIn ho c fun h' t' kp hx' hns=>?_
 have ne:s.heap.objs.size≠x:=Nat.ne_of_gt (Heap.lt_size ho)
 have old:(h'.update x fun o=>{ cls:=o.cls,data:=o.data,slots:=o.slots }).get? x=some { cls:=.ref C,data:=.fields #[w0,.none,.none,w3,w4,w5] }:=Heap.get?_update_self _ hx' rfl
 have oth : ∀ b,b≠x->(h'.update x fun o=>{ cls:=o.cls,data:=o.data,slots:=o.slots }).get? b=h'.get? b:=fun b hb=>Heap.get?_update_ne _ _ _ _ hb
 have fr:=I.hok.fresh (Nat.le_refl s.heap.objs.size)
 obtain ⟨od,hod,_⟩:=Qe hns
 have I1:=I.laid (a:=s.heap.objs.size) (o:=.ext (XD s.heap.objs.size [(z,y)])) (t':=t') (h':=h'.update x fun o=>{ cls:=o.cls,data:=o.data,slots:=o.slots }) (fun b o hb=>by
  by_cases q:b=x
  ·subst q;rw [ho] at hb;cases hb;exact old
  ·rw [oth b q];exact kp b o q hb) (Nat.le_refl _) (XN ⟨_,hns.at (fun o hb=>by rw [oth _ ne];exact hb),fun g=>?_,fun g hg=>?_⟩ ⟨od,by rw [oth _ ne];exact hod⟩ XD.keep)
 ·have I2:=I1.write (x:=x) (e:=x) (o:=.ext (WQ x C s.heap.objs.size)) (h':=h') (t':=t') (by rw [ze ne.symm,e];exact True.intro) (.inl rfl) (fun b o hb q=>by rw [<- oth b hb];exact q) ⟨_,hx'⟩ (XN ⟨ne,_,_,_,_,hx'⟩ ⟨_,hx'⟩ WQ.keep)
  exact h _ _ fr I2
 ·show K3 (List.lookup g [(z,y)]) (if g=z then some u else none)
  by_cases q:g=z
  ·subst q;rw [if_pos rfl,yc];exact ry
  ·rw [if_neg q,qF q];exact True.intro
 ·by_cases q:g=z
  ·subst q;exact List.mem_cons_self ..
  ·exact absurd (show (if g=z then some u else none)=none by rw [if_neg q]) hg
end
section
variable {X : Cx} {o e value : Expr} {z : Str} {pos pos' : Pos} {ta tv : TE}
theorem zD2 (ha:PE X o ta) (hv:PE X value tv) (hs:swapsWith value (some (.Attribute o z pos')) pos.line X.env=pure false):PS X (.Assign [.Attribute o z pos'] value pos) (zHT X.K ta tv z):=by
 intro pins s σ H D I h
 refine plainObj_wpAny_Assign_Attribute (thn (hv pins s σ H _ I h) fun u s1 zq0=>?_) hs
 obtain ⟨y,H1,I1,ry,q⟩:=zq0
 refine thn (ha pins s1 σ H1 _ I1 q) fun ov s2 zq=>?_
 obtain ⟨x,H2,I2,rx,a,C,f,ex,e1,c,q2⟩:=zq
 subst ex
 obtain rfl:ov=Value.ref a:=rx
 exact zAT I2 e1 c ry fun d s3 fr I3=>⟨σ,_,I3,q2 d fr⟩
end
section
variable {M : Model} {A : Around} {E : Value -> Shared -> Prop} {env : Env}
variable {nm q : Str} {C N : Addr} {bs bm : List Value} {hdct : Bool} {sn : List Str} {sub : List Value} {ab : Bool} {col : Option Bool} {dd : Option Addr} {k0 k1 k2 k3 k5 : Option Value} {newId : String}
theorem zEH {x:Sem Value} {Q:Flow->Shared->Prop} (hh:A.handled=none)
  (h:wpAny M A x (fun v s₁=>∃ e od v0 b3 b4 b5 bm C nm q N bs hdct sn sub ab col dd k0 k1 k2 k3 k5 newId,v = .ref e/\bm.contains (.type "BaseException")=true/\s₁.heap.get? C=some (excClassObj nm q C N bs bm hdct sn sub ab col dd k0 k1 k2 k3 k5 newId) /\
   s₁.heap.get? e=some { cls:=.ref C,dict:=od,data:=.fields #[v0,.none,.none,b3,b4,b5] }/\E (.ref e) s₁) E s) :
  wpAny M A (raiseStmt env (some x) none) Q E s:=by
 unfold raiseStmt
 refine wpAny_bind (wpAny_mono h (fun v s₁ h₁=>?_) fun _ _ x=>x)
 obtain ⟨e,od,v0,b3,b4,b5,bm,C,nm,q,N,bs,hdct,sn,sub,ab,col,dd,k0,k1,k2,k3,k5,newId,rfl,hbase,hC,he,hE⟩:=h₁
 have hcB:(Value.ref C::bm).contains (.type "BaseException")=true:=by rw [List.contains_cons,hbase,Bool.or_true]
 obtain ⟨hp,g,d,tk,os⟩:=s₁
 repeat (first | with_reducible refine wpAny_loadPart_at he ?_ | with_reducible refine wpAny_loadPart_at hC ?_ | (with_reducible refine wpAny_isSubtype_exc hC ?_;rw [hcB]) | wp_step)
 exact wpAny_raiseNew_none hh hE
end
def WT (K:W.Frag) (H₀:Hp) (E:XK):VK:=fun v H2=>∃ y C f dx,v = .ref y/\wZ K C f=true/\H2 y=some (.ext (WQ y C dx))/\H₀ y=none/\E (.ref C) (some dx) (unt H2 y)
def zAl (K:W.Frag) (H₀:Hp) (E:XK) (te:TE):TS:=fun _ σ H=>te σ H (WT K H₀ E)
theorem zAp {e:Expr} {te:TE} (td:zCn X E) (hc:X.calm=true) (he:PE X e te):PS X (.Raise (some e) none pos) (zAl X.K X.H₀ E te):=by
 intro pins s σ H D I h
 rw [arm_exec_Raise]
 refine wpAny_bind (wpAny_standAt (zEH (I.ok.hd hc) ?_))
 refine wpAny_bind (wpAny_mono (he pins s σ H _ I h) (fun v s1 zq=>wpAny_bind (wpAny_standAt (wpAny_pure ?_))) fun _ _ z=>z)
 obtain ⟨x,H2,I2,rx,y,C,f,dx,ex,ei,hy,h0,q⟩:=zq
 subst ex
 obtain rfl:v=Value.ref y:=rx
 obtain ⟨tl,N,nm,q',bs,hdct,sn,sub,ab,col,dd,k0,k1,k2,k3,k5,mN,hC,hN,hi,T⟩:=XQ I2.kIn ei
 obtain ⟨_,v0,b3,b4,b5,eo⟩:=(I2.hok y _ hy).1
 exact ⟨y,some dx,v0,b3,b4,b5,tl,C,nm,q',N,bs,hdct,sn,sub,ab,col,dd,k0,k1,k2,k3,k5,_,rfl,T.hasType PySem.F.excBase_ValueError.hasBase,hC,eo,td pins σ H2 s1 y C dx I2 hy h0 q⟩
def XP3 (X:Cx) (pins:List (Addr × Obj)) (σ:St) (E:XK) (e:Value) (s':Shared):Prop:=∃ H1 s1,Inv X pins σ H1 s1/\WP X.prog X.w X.stack H1 s1 E e s'
def Cx.tr3 (X:Cx) (pins:List (Addr × Obj)) (σc:St) (E:XK):Cx:={ X with pn:=X.pn++pins,xe:=XP3 X pins σc E }
section
variable {X : Cx} {pins pins0 : List (Addr × Obj)} {σ σc : St} {H : Hp} {s : Shared} {E : XK}
theorem Cx.Ok.tr3 (ok:X.Ok):(X.tr3 pins σc E).Ok:=⟨ok.mod,ok.kind,ok.glob,ok.blt,ok.above,ok.inj,ok.has,ok.cab,ok.hd,ok.frames,ok.stk,ok.exf,ok.bs,ok.bsz,ok.noex,ok.exfs,ok.funs,ok.frf⟩
theorem Cx.Ok.untr3 (ok:(X.tr3 pins σc E).Ok):X.Ok:=⟨ok.mod,ok.kind,ok.glob,ok.blt,ok.above,ok.inj,ok.has,ok.cab,ok.hd,ok.frames,ok.stk,ok.exf,ok.bs,ok.bsz,ok.noex,ok.exfs,ok.funs,ok.frf⟩
theorem Inv.tr3 (I:Inv X pins σ H s):Inv (X.tr3 pins σc E) [] σ H s:=⟨I.ok.tr3,I.os,I.bare,I.base,I.loc,I.cell,I.free,I.freeC,fun p hp=>I.pin p (by simpa [Cx.tr3] using hp),I.hok,I.len⟩
theorem Inv.untr3 (I:Inv (X.tr3 pins0 σc E) pins σ H s):Inv X pins0 σ H s:=⟨I.ok.untr3,I.os,I.bare,I.base,I.loc,I.cell,I.free,I.freeC,fun p hp=>I.pin p (List.mem_append_left _ hp),I.hok,I.len⟩
theorem SP.untr3 {f:Flow} {s':Shared} (h:SP (X.tr3 pins0 σc E) pins D f s'):SP X pins0 D f s':=by
 cases f with
 | next=>obtain ⟨σ',H',I,q⟩:=h;exact ⟨σ',H',I.untr3,q⟩
 | brk=>obtain ⟨σ',H',I,q⟩:=h;exact ⟨σ',H',I.untr3,q⟩
 | cont=>obtain ⟨σ',H',I,q⟩:=h;exact ⟨σ',H',I.untr3,q⟩
 | ret u=>obtain ⟨v,σ',H',I,r,q⟩:=h;exact ⟨v,σ',H',I.untr3,r,q⟩
end
section
variable {X : Cx} {pins0 : List (Addr × Obj)} {σc : St} {k n : Nat} {C : Addr} {ps : List Str} {sp : Sp} {E : XK} {x m : Str} {p np pos apos : Pos} {e o : Expr} {es : List Expr} {ta : TE} {t : TA}
theorem zCR {us:List Value} {vs:List V} {f:Addr} (F:xG X.prog X.w X.K X.mg X.base (WP X.prog X.w) k f fd ps sp) (hr:jq k X.A) (hb:j9 X.K fd ps [])
  (I:Inv (X.tr3 pins0 σc E) pins σ H s) (r:qE vs us) (wk:Wk σc σ) (h:sp (vs++[]) H Q E):wpAny (model X.prog X.w) X.A (call (.ref f) us) (EP (X.tr3 pins0 σc E) pins σ Q) (X.tr3 pins0 σc E).xe s:=by
 have r2:qE (vs++[]) (us++[]):=r.append .nil
 have hl:(us++[]).length=ps.length:=by rw [<- r2.length];exact F.len _ _ _ _ h
 have e0:Vy X.prog X.w X.K X.mg X.base X.A X.stack s H:=I.env0
 refine wpAny_call (codeAny_mono (F.run X.A X.stack s H ⟨us,[]⟩ (us++[]) (vs++[]) Q E hr e0 (hb s us I.kIn hl) r2 h) fun r s' hq=>?_)
 cases r with
 | error e=>exact ⟨H,s,I.untr3.weak wk.1 wk.2,hq⟩
 | ok fl =>
  cases fl with
  | ret u=>exact I.after hq
  | next=>exact False.elim hq
  | brk=>exact False.elim hq
  | cont=>exact False.elim hq
theorem JG {pl:Sem Bool} (F:zHw X.prog X.w X.K X.mg X.base (WP X.prog X.w) C m k ps sp) (c:Cls X.K C) (hr:jq n X.A) (he:PE (X.tr3 pins0 σc E) o ta) (ha:PA (X.tr3 pins0 σc E) (e::es) t) (hk:k<=n:=by decide)
  (hst:starEach (e::es) X.env=(false,eval e X.env)::starEach es X.env:=by rfl) (hpl:(backTo pos (starEach es X.env)).any (·.1)=false:=by rfl)
  (ht:eval (.Call (.Attribute o m apos) (e::es) [] pos) X.env=(do
   let ov <- eval o X.env
   standAt apos.atName
   let (f,first) <- holding [ov] (getMethod ov m pl)
   callWith pos f first (backTo pos (starEach (e::es) X.env)) (backToKw pos (keywordEach [] X.env))):=by rfl) :
  PE (X.tr3 pins0 σc E) (.Call (.Attribute o m apos) (e::es) [] pos) (Vn C m sp E σc ta t):=by
 intro pins s σ H Q I h
 obtain ⟨f,fd,G,M,b⟩:=F
 refine W.methodCall_KW (pl:=pl) (thn (he pins s σ H _ I h) fun u s1 zq=>?_) ht
 obtain ⟨x,H1,I1,rx,a,dx,fs,ex,ea,l,q⟩:=zq
 subst ex
 obtain rfl:u=Value.ref a:=rx
 refine Jc I1 ea c M l ?_
 refine W.callWith_K (first:=[.ref a]) (h₀:=X.base) I.ok.mod.kin M.kp (thn (ha pos pins s1 σ H1 _ I1 q) fun us s2 zq2=>?_) hst hpl
 obtain ⟨vs,H2,I2,r,q2⟩:=zq2
 exact ⟨I2.kIn,zCR (us:=.ref a::us) (vs:=.ref a::vs) (G.mono hk) hr b I2 (.cons rfl r) q2.1 q2.2⟩
end
def PH3 (X:Cx) (hs:List ExceptHandler) (th:Addr->Option Addr->TS):Prop:=
 ∀ (pins:List (Addr × Obj)) (s:Shared) (σ:St) (H:Hp) (D:yr) (y C:Addr) (od:Option Addr) (B:Heap) (a0:Value),Heap.FlyingW B (X.env::X.outer) y (.ref C) a0 s.heap->CD C od s.heap y->Inv X pins σ H s ->
  (∀ h',B.StaysIn h'->s.heap.UpToSlots h'->Inv X pins σ H { s with heap:=h' })->H y=none->(y≠X.env.locals/\(∀ ob,X.s₀.heap.get? y≠some ob)/\(∀ x c,X.env.cells.lookup x=some c->c≠y) /\ ∀ p ∈ X.pn++pins,p.1≠y) ->
  th C od D σ H->wpAny (model X.prog X.w) X.A (handleBy (.ref y) X.env hs) (SP X pins D) X.xe s
def zJS (K:W.Frag) (C':Addr) (ts:TS) (th:Addr->Option Addr->TS):Addr->Option Addr->TS:=fun C od D σ H=>∃ b,W.exmOne K (.ref C) (.ref C')=some b/\if b=true then ts D σ H else th C od D σ H
def zI6 (K:W.Frag) (C':Addr) (i:Nat) (ts:Addr->TS):Addr->Option Addr->TS:=fun C od D σ H=>∃ dx,od=some dx/\W.exmOne K (.ref C) (.ref C')=some true /\ ∀ y,H y=none->ts y { nx:=fun _ _=>False,rt:=D.rt } (σ.set i (some (.ref y))) (upd H y (.ext (ExQ y C dx)))
section
variable {X : Cx} {cx nx : Str} {i : Nat} {C' : Addr} {ts : TS} {ta : Addr -> TS} {th : Addr -> Option Addr -> TS} {np hpos pos : Pos} {b₀ : Stmt} {suite body : List Stmt} {Zo hs : List ExceptHandler} {h₀ : ExceptHandler} {tb : St -> XK -> TS}
theorem zB2 (hgc:Gl X cx) (hmc:X.mg cx=some (.ref C')) (hs : ∀ y,PSs (X.inExc y) (b₀::suite) ts) (hr:PH3 X Zo th) (hdc:(cx == ("__debug__" : Str))=false:=by decide) :
  PH3 X (.ExceptHandler (some (.Name cx np)) none (b₀::suite) hpos::Zo) (zJS X.K C' ts th):=by
 intro pins s σ H D y C od B a0 fly cd I clo hy0 nw h
 obtain ⟨b,exm,q⟩:=h
 refine wpAny_handleBy_cons (codeAny_handlers_test (qZ (I.inExc y) hgc hmc ?_ hdc)) (by intro q;cases q)
 refine (W.exm_one (M:=model X.prog X.w) I.kIn (isx fly).ty exm).here ?_
 cases b with
 | false =>
  rw [if_neg Bool.false_ne_true] at q
  exact hr pins s σ H D y C od B a0 fly cd I clo hy0 nw q
 | true =>
  rw [if_pos rfl] at q
  refine codeAny_handlers_suite (lands_againW fly fun h3 fly3 sm3=>?_)
  have I3:=clo h3 fly3.1 sm3
  exact wpAny_mono (hs y pins _ σ H D (I3.inExc y) q) (fun f s6 sp6=>sp6.outExc I.ok) fun _ _ z=>z.elim
theorem zFn (hgc:Gl X cx) (hmc:X.mg cx=some (.ref C')) (hN:X.N.Nodup) (hi:X.N[i]? = some nx) (hnx:X.env.scope.names.lookup nx=some .local) (hs : ∀ y,PSs (X.inExc y) (b₀::suite) (ta y)) (hdc:(cx == ("__debug__" : Str))=false:=by decide) :
  PH3 X (.ExceptHandler (some (.Name cx np)) (some nx) (b₀::suite) hpos::Zo) (zI6 X.K C' i ta):=by
 intro pins s σ H D y C od B a0 fly cd I clo hy0 nw h
 obtain ⟨dx,rfl,exm,q⟩:=h
 have hkn:X.env.kindOf nx=some .local:=hnx
 refine wpAny_handleBy_cons (codeAny_handlers_test (qZ (I.inExc y) hgc hmc ?_ hdc)) (by intro q;cases q)
 refine (W.exm_one (M:=model X.prog X.w) I.kIn (isx fly).ty exm).here ?_
 refine codeAny_handlers_suite_as (zDj fly cd fun h3 fly3 cc3 sm3=>?_)
 have I3:=clo h3 fly3.1 sm3
 obtain ⟨vs,ev,_⟩:=cc3
 have I4:Inv X pins σ (upd H y (.ext (ExQ y C dx))) { s with heap:=h3 }:=I3.track2 hy0 nw.1 nw.2.1 nw.2.2.1 nw.2.2.2 ⟨⟨vs,ev⟩,⟨_,ev⟩,ExQ.keep⟩
 refine JF I4 hN hi (.inl hnx) (v:=.ref y) rfl (fun s5 I5 _=>?_) (.inr hnx)
 refine wpAny_mono (hs y pins s5 _ _ _ (I5.inExc y) (q y hy0)) (fun f s6 sp6=>?_) fun _ _ z=>z.elim
 have hp:(X.env.scope.kind == .class || (X.env.scope.kind == .module && X.env.locals != X.env.globals))=false:=by rw [I.ok.kind];rfl
 cases f with
 | ret u =>
  obtain ⟨v,σ6,H6,I6,rv,qv⟩:=sp6
  obtain ⟨m,hn6,_⟩:=id I6.loc
  exact wpAny_nameGoes hkn hn6 hp fun h7 m7 hn7 hs7=>⟨v,_,H6,(Inv.outExc I.ok I6).renamed hs7 hn7,rv,qv⟩
 | next=>obtain ⟨_,_,_,z⟩:=sp6;exact z.elim
 | brk=>obtain ⟨_,_,_,z⟩:=sp6;exact z.elim
 | cont=>obtain ⟨_,_,_,z⟩:=sp6;exact z.elim
def zG1 (tb:St->XK->TS) (th:Addr->Option Addr->TS):TS:=fun D σ H=>∃ σc,tb σc (fun cls od H2=>∃ C,cls = .ref C/\th C od D σc H2) D σ H
theorem zER (hex:X.ex=[]) (hst:X.stack=X.env::X.outer) (hfr:X.env.frame=some X.env.locals) (hb : ∀ pins σc E,PSs (X.tr3 pins σc E) body (tb σc E)) (hh:PH3 X (h₀::hs) th):PS X (.Try body (h₀::hs) [] [] pos) (zG1 tb th):=by
 intro pins s σ H D I h
 obtain ⟨σc,h⟩:=h
 refine wpAny_Try_except (wpAny_mono (hb pins σc _ [] s σ H D I.tr3 h) (fun f s1 q=>?_) fun er s' z=>?_)
 ·cases f with
  | next=>exact wpAny_execs_nil q.untr3
  | ret u=>exact q.untr3
  | brk=>exact q.untr3
  | cont=>exact q.untr3
 ·obtain ⟨H1,s1,I1,fl⟩:=z
  obtain ⟨y,C,a0,H2,B,od,rfl,hos,hbare,fly,cd,clo,hy0,hy2,C0,z0,q⟩:=fl
  cases z0
  rw [hst] at fly
  refine zF4 (I.ok.frames.trans (congrArg some hst)) hfr fly cd fun h1 held cd1 sm1=>?_
  refine zGH (s:={ s' with heap:=h1 }) held cd1 fun h2 fly2 cd2 sm2=>?_
  have cl : ∀ h',B.StaysIn h'->h2.UpToSlots h'->Inv X pins σc H2 { s' with heap:=h' }:=fun h' st sm=>by
   have c:=clo h' st ((sm1.trans sm2).trans sm)
   exact I1.call' (s':={ s' with heap:=h' }) hos c.1 c.2 hbare (fun b z=>nomatch z)
  have I2:=cl h2 fly2.1 (Heap.UpToSlots.refl _)
  have ney : ∀ {b:Addr} {o:Obj},s1.heap.get? b=some o->b≠y:=fun {b o} e z=>by rw [z,hy0] at e;cases e
  refine hh pins { s' with heap:=h2 } σc H2 D y C od B a0 fly2 cd2 I2 cl hy2 ⟨fun z=>?_,fun ob e=>?_,fun v c e z=>?_,fun p hp z=>?_⟩ q
  ·obtain ⟨m,⟨o,_,_,ho,_⟩,_⟩:=I1.loc
   exact ney ho z.symm
  ·obtain ⟨o',e1⟩:=I1.base.there y ob e (by rw [hex];exact fun z=>nomatch z)
   exact ney e1 rfl
  ·obtain ⟨_,o,ho,_⟩:=I1.cell v c e
   exact ney ho z
  ·exact ney (I1.pin p hp).1 z
theorem zHZ (σc:St) (h:tb σc (fun cls od H2=>∃ C,cls = .ref C/\th C od D σc H2) D σ H):zG1 tb th D σ H:=⟨σc,h⟩
theorem zFo {od:Option Addr} {b:Bool} (e:W.exmOne K (.ref C) (.ref C')=some b) (h:if b=true then ts D σ H else th C od D σ H):zJS K C' ts th C od D σ H:=⟨b,e,h⟩
theorem zIj (e:W.exmOne K (.ref C) (.ref C')=some true) (h : ∀ y,H y=none->ta y { nx:=fun _ _=>False,rt:=D.rt } (σ.set i (some (.ref y))) (upd H y (.ext (ExQ y C dx)))):zI6 K C' i ta C (some dx) D σ H:=⟨dx,rfl,e,h⟩
end
def zIS (K:W.Frag) (z:Str) (Q:VK):VK:=fun x H1=>∃ a C dx fs v,x = .ref a/\H1 a=some (.ext (ExQ a C dx))/\H1 dx=some (.ext (XD dx fs))/\ExcB K C/\xq K C z/\fs.lookup z=some v/\Q v H1
def zJQ (K:W.Frag) (ta:TE) (z:Str):TE:=fun σ H Q=>ta σ H (zIS K z Q)
theorem zCj {e:Expr} {z:Str} {ta:TE} (eK:X.K=K) (he:PE X e ta) (hb:attributeBase e z X.env (eval e X.env)=eval e X.env):PE X (.Attribute e z pos) (zJQ K ta z):=by
 subst eK
 intro pins s σ H Q I h
 refine zBN hb (thn (he pins s σ H _ I h) fun u s1 zq=>?_)
 obtain ⟨x,H1,I1,rx,a,C,dx,fs,v,ex,e1,e2,c,n,l,q⟩:=zq
 subst ex
 obtain rfl:u=Value.ref a:=rx
 obtain ⟨vs,ho⟩:=(I1.hok a _ e1).1
 obtain ⟨mA,hns,r,wi⟩:=(I1.hok dx _ e2).1
 obtain ⟨u,hu,ru⟩:=K3.some_of (v:=v) (o:=mA z) (by rw [<- l];exact r z)
 exact zJr I1.kIn ho hns c n hu (YI ru) ⟨v,H1,I1.tok _,ru,q⟩
section
variable {σ : St} {H : Hp} {Q : VK} {D : yr} {K : W.Frag} {C x : Addr} {z : Str} {sp : Sp} {E : XK} {ta tv te : TE} {t : TA} {H₀ : Hp}
theorem zIB (h:ta σ H (zIS K z Q)):zJQ K ta z σ H Q:=h
theorem zEl (h:t σ H (zIf C sp E Q)):zDH C sp E t σ H Q:=h
theorem zDr (h:t σ H (V5 K Q)):zDJ K t σ H Q:=h
theorem zI2 (h:tv σ H fun y H1=>ta σ H1 (zIa K z y D σ)):zHT K ta tv z D σ H:=h
theorem zBl (h:te σ H (WT K H₀ E)):zAl K H₀ E te D σ H:=h
end
def Xin (K:W.Frag) (C:Addr):Prop:=∃ f,zIF K C f/\W.findIn K (.ref C) "__init__" = some (some (.ref f))
section
variable {K : W.Frag} {C f : Addr} {mg : Str -> Option Value} {P : Program} {w : World} {base : Heap} {k : Nat} {ps : List Str} {sp : Sp} {CX : CXT} {z : Str}
theorem xin_mk (a:W.findIn K (.ref C) "__init__" = some (some (.ref f))) (e:wZ K C f=true) (n:W.isFn K (.ref f)=true) (kp:W.keepIn K (.ref C)=true):Xin K C:=⟨f,⟨e,n,kp⟩,a⟩
theorem zJs (g:Gx P w K mg base CX "__init__" [C] k ps sp) (h:Xin K C):zHQ P w K mg base CX C k ps sp:=by
 obtain ⟨f,⟨fd,o,_,_,b⟩,i⟩:=g
 obtain ⟨f',x,a⟩:=h
 have e:=i.1.symm.trans a
 cases e
 exact ⟨f,fd,o,x,b⟩
theorem exf_mk (x:Xin K C) (b:ExcB K C) (sa:W.findIn K (.ref C) "__setattr__" = some (some (.builtin "object.__setattr__"))) (na:W.findIn K (.ref C) z=some none) : ∃ f,ExF K C f z:=let ⟨f,i,_⟩:=x;⟨f,i.ex,b,sa,na⟩
theorem zBX {x:Addr} {u:V} (e:H x=some (.ext (KH x C))) (n : ∃ f,ExF K C f z) (q:Q .non H):V5 K Q [.ref x,u] H:=let ⟨f,n⟩:=n;⟨x,C,f,u,rfl,e,n.ex,q⟩
theorem zGi {x:Addr} {y:V} (e:H x=some (.ext (KH x C))) (n : ∃ f,ExF K C f z) (q : ∀ d,H d=none->D.nx σ (upd (upd H d (.ext (XD d [(z,y)]))) x (.ext (WQ x C d)))):zIa K z y D σ (.ref x) H:=let ⟨f,n⟩:=n;⟨x,C,f,rfl,e,n,q⟩
theorem zDW {x:Addr} {fs:List (Str × V)} {v:V} (e1:H x=some (.ext (ExQ x C dx))) (e2:H dx=some (.ext (XD dx fs))) (n : ∃ f,ExF K C f z) (l:fs.lookup z=some v) (q:Q v H):zIS K z Q (.ref x) H:=let ⟨_,n⟩:=n;⟨x,C,dx,fs,v,rfl,e1,e2,n.b,n.na,l,q⟩
end
end L2
set_option maxHeartbeats 4000000
namespace Pw
open PySem L2
open List (append_assoc append_cancel_left append_nil drop_left filterMap_cons filter_cons filter_cons_of_neg filter_cons_of_pos filter_nil getD_eq_getElem?_getD getElem?_eq_getElem getElem?_map getElem_mem length_append length_cons length_drop length_filter_le length_map length_nil length_range length_singleton length_take map_append map_cons map_nil mem_cons mem_cons_of_mem mem_cons_self mem_filter mem_map mem_of_getElem? not_mem_nil range_succ take_left take_length take_of_length_le take_succ)
open Nat (le_trans min_le_right sub_le)
open Int (emod_lt_of_pos emod_nonneg eq_ofNat_of_zero_le mul_le_mul mul_neg natCast_pow pow_succ toNat_natCast)
set_option maxHeartbeats 4000000
variable {z:Int}
theorem tns {e:Int} (h:0<=z):(e - z).toNat=e.toNat - z.toNat:=by omega
seal PySem.Sem.wp
local macro_rules | `(tactic| walk_at "ln")=>`(tactic| first | (rintro ⟨h,_⟩;rw [h];rfl) | (rintro ⟨_,h⟩;revert h;walk_at "ln"))
local macro_rules | `(tactic| walk_at "sc")=>`(tactic| exact ⟨rfl,rfl,rfl,by decide +kernel,rfl,by decide +kernel,by decide +kernel⟩)
def top (i:Nat):Stmt:=PySem.Challenge.pw_padwright_k45_values_for_a_text.main.body.getD i (.Pass ⟨0,0,0,0⟩)
abbrev jy:Stmt:=qo (top 12) 0
theorem yn:zO ["self", "told"] ["self", "told"] (zG jy):=by walk_at "sc"
abbrev JA:Stmt:=top 17
theorem jj:zO ["text", "base", "number", "sign", "worth"] ["text", "base"] (zG JA):=by walk_at "sc"
abbrev YT:Stmt:=top 20
theorem K8:zO ["text", "size", "mark"] ["text", "size", "mark"] (zG YT):=by walk_at "sc"
abbrev Qd:Stmt:=top 21
theorem Zn:zO ["text", "size", "mark", "plain"] ["text", "size", "mark"] (zG Qd):=by walk_at "sc"
abbrev Jz:Stmt:=top 22
theorem yK:zO ["text", "size", "between", "parts", "end"] ["text", "size", "between"] (zG Jz):=by walk_at "sc"
abbrev Qp:Stmt:=top 25
theorem xX:zO ["body", "base", "places", "point", "size", "mark", "cut", "whole", "number"] ["body", "base", "places", "point", "size", "mark"] (zG Qp):=by walk_at "sc"
abbrev Q7:Stmt:=top 26
theorem Zw:zO ["body", "places", "point", "cut"] ["body", "places", "point"] (zG Q7):=by walk_at "sc"
abbrev YS:Stmt:=top 29
theorem K7:zO ["style", "below"] ["style", "below"] (zG YS):=by walk_at "sc"
abbrev Vk:Stmt:=top 30
theorem Yo:zO ["body", "style", "below", "ends"] ["body", "style", "below"] (zG Vk):=by walk_at "sc"
abbrev Jf:Stmt:=top 31
theorem yF:zO ["core", "style", "below", "ends", "body"] ["core", "style"] (zG Jf):=by walk_at "sc"
abbrev jI:Stmt:=top 32
theorem xj:zO ["body"] ["body"] (zG jI):=by walk_at "sc"
abbrev Yi:Stmt:=top 34
theorem Jt:zO ["length", "width", "side", "lacks"] ["length", "width", "side"] (zG Yi):=by walk_at "sc"
abbrev Vp:Stmt:=top 35
theorem X4:zO ["text", "width", "fill", "side", "pads"] ["text", "width", "fill", "side"] (zG Vp):=by walk_at "sc"
abbrev J6:Stmt:=top 38
theorem xJ:zO ["text", "width", "fill", "side", "plains", "length", "ahead", "plain"] ["text", "width", "fill", "side"] (zG J6):=by walk_at "sc"
abbrev xo:Stmt:=top 39
theorem ZC:zO ["text", "lead", "width", "fill"] ["text", "lead", "width", "fill"] (zG xo):=by walk_at "sc"
abbrev yy:Stmt:=qo (top 41) 0
theorem Z6:zO ["self", "width", "fill", "side", "strict"] ["self", "width", "fill", "side", "strict"] (zG yy):=by walk_at "sc"
abbrev ym:Stmt:=qo (top 41) 2
theorem yW:zO ["self", "text", "told"] ["self", "text"] (zG ym):=by walk_at "sc"
abbrev xW:Stmt:=qo (top 41) 3
theorem kj:zO ["self", "core"] ["self", "core"] (zG xW):=by walk_at "sc"
abbrev yt:Stmt:=qo (top 41) 6
theorem QH:zO ["self", "text"] ["self", "text"] (zG yt):=by walk_at "sc"
abbrev Jo:Stmt:=top 43
theorem VU:zO ["thing"] ["thing"] (zG Jo):=by walk_at "sc"
abbrev J5:Stmt:=top 44
theorem yH:zO ["base", "times", "power", "turn"] ["base", "times"] (zG J5):=by walk_at "sc"
abbrev yS:Stmt:=top 45
theorem qC:zO ["one", "other", "greater", "lesser", "rest"] ["one", "other"] (zG yS):=by walk_at "sc"
abbrev Jh:Stmt:=top 47
theorem kY:zO ["top", "bottom", "divisor"] ["top", "bottom"] (zG Jh):=by walk_at "sc"
abbrev Zp:Stmt:=top 52
theorem XG:zO ["k", "base", "places"] ["k", "base", "places"] (zG Zp):=by walk_at "sc"
abbrev jf:Stmt:=qo (top 54) 0
theorem ya:zO ["self", "figures", "places", "base", "sign", "size", "mark", "point", "way", "width", "fill", "side", "strict"] ["self", "figures", "places", "base", "sign", "size", "mark", "point", "way", "width", "fill", "side", "strict"] (zG jf):=by walk_at "sc"
abbrev jW:Stmt:=qo (top 54) 2
theorem jM:zO ["self", "text", "ks"] ["self", "text"] (zG jW):=by walk_at "sc"
abbrev qy:Stmt:=qo (top 54) 6
theorem xQ:zO ["self", "number"] ["self", "number"] (zG qy):=by walk_at "sc"
abbrev jV:Stmt:=qo (top 54) 7
theorem jN:zO ["self", "text", "below", "ks"] ["self", "text", "below"] (zG jV):=by walk_at "sc"
abbrev jl:Stmt:=qo (top 54) 8
theorem qa:zO ["self", "text", "below", "lead", "cores"] ["self", "text", "below"] (zG jl):=by walk_at "sc"
abbrev jK:Stmt:=qo (top 54) 9
theorem qM:zO ["self", "core", "below", "parts", "number"] ["self", "core", "below"] (zG jK):=by walk_at "sc"
abbrev xN:Stmt:=qo (top 56) 0
theorem kF:zO ["self", "signs", "least", "most", "width", "fill", "side", "strict"] ["self", "signs", "least", "most", "width", "fill", "side", "strict"] (zG xN):=by walk_at "sc"
abbrev jk:Stmt:=qo (top 56) 2
theorem yY:zO ["self", "text"] ["self", "text"] (zG jk):=by walk_at "sc"
abbrev xS:Stmt:=qo (top 56) 5
theorem kW:zO ["self", "thing"] ["self", "thing"] (zG xS):=by walk_at "sc"
abbrev jh:Stmt:=qo (top 57) 0
theorem yb:zO ["self", "names", "width", "fill", "side", "strict"] ["self", "names", "width", "fill", "side", "strict"] (zG jh):=by walk_at "sc"
abbrev jU:Stmt:=qo (top 57) 2
theorem jL:zO ["self", "text", "cores"] ["self", "text"] (zG jU):=by walk_at "sc"
abbrev ZI:Stmt:=top 59
theorem JV:zO ["_law_script", "_law_k"] ["_law_script", "_law_k"] (zG ZI):=by walk_at "sc"
abbrev Ql:Stmt:=top 60
theorem Xp:zO ["_law_thing"] ["_law_thing"] (zG Ql):=by walk_at "sc"
abbrev Ji:Stmt:=top 61
theorem yP:zO ["_law_cell", "_law_salt", "_law_many", "_law_one", "_law_two"] ["_law_cell", "_law_salt", "_law_many"] (zG Ji):=by walk_at "sc"
abbrev JL:Stmt:=top 62
theorem YA:zO [] [] (zG JL):=by walk_at "sc"
abbrev Jp:Stmt:=top 63
theorem Q0:zO ["_law_cell", "_law_salt", "_law_some"] ["_law_cell", "_law_salt"] (zG Jp):=by walk_at "sc"
abbrev x8:Stmt:=top 64
theorem zb:zO ["_law_cell", "_law_other", "_law_small", "_law_figures_here", "_law_places", "_law_base", "_law_sign_here", "_law_size", "_law_way", "_law_signs_here", "_law_widths", "_law_width", "_law_side", "_law_strict"] ["_law_cell", "_law_other", "_law_small"] (zG x8):=by walk_at "sc"
abbrev x6:Stmt:=top 65
theorem zX:zO ["_law_spec_here", "_law_figures_here", "_law_places", "_law_base", "_law_sign_here", "_law_size", "_law_mark", "_law_point", "_law_way", "_law_width", "_law_fill", "_law_side", "_law_strict"] ["_law_spec_here"] (zG x6):=by walk_at "sc"
abbrev JB:Stmt:=top 66
theorem xY:zO ["_law_base", "_law_times", "_law_found", "_law_k"] ["_law_base", "_law_times"] (zG JB):=by walk_at "sc"
abbrev wU:Stmt:=top 67
theorem kP:zO ["_law_one", "_law_other"] ["_law_one", "_law_other"] (zG wU):=by walk_at "sc"
abbrev Zm:Stmt:=top 68
theorem ZF:zO ["_law_top", "_law_bottom", "_law_many"] ["_law_top", "_law_bottom"] (zG Zm):=by walk_at "sc"
abbrev w9:Stmt:=top 69
theorem jc:zO ["_law_number", "_law_base", "_law_found"] ["_law_number", "_law_base"] (zG w9):=by walk_at "sc"
abbrev J0:Stmt:=top 70
theorem zx:zO ["_law_steps_here", "_law_spec_here", "_law_places", "_law_base", "_law_size", "_law_mark", "_law_point", "_law_step", "_law_figures_here", "_law_whole_here", "_law_k", "_law_rest"] ["_law_steps_here", "_law_spec_here"] (zG J0):=by walk_at "sc"
abbrev Qn:Stmt:=top 71
theorem Zu:zO ["_law_steps_here", "_law_spec_here", "_law_body_here"] ["_law_steps_here", "_law_spec_here"] (zG Qn):=by walk_at "sc"
abbrev Zr:Stmt:=top 72
theorem j8:zO ["_law_lead", "_law_rest", "_law_spec_here", "_law_width", "_law_fill", "_law_side", "_law_lacks", "_law_ahead_here"] ["_law_lead", "_law_rest", "_law_spec_here"] (zG Zr):=by walk_at "sc"
abbrev yo:Stmt:=top 73
theorem zn:zO ["_law_cell", "_law_other", "_law_small", "_law_start", "_law_step", "_law_signs_here", "_law_least", "_law_most", "_law_fill", "_law_width", "_law_side"] ["_law_cell", "_law_other", "_law_small"] (zG yo):=by walk_at "sc"
abbrev Qx:Stmt:=top 74
theorem z6:zO ["_law_cell", "_law_many", "_law_signs_here", "_law_base", "_law_way", "_law_at", "_law_size", "_law_step", "_law_found", "_law_k", "_law_sign_here", "_law_turn"] ["_law_cell", "_law_many"] (zG Qx):=by walk_at "sc"
abbrev xv:Stmt:=top 75
theorem qK:zO ["_law_cell", "_law_other", "_law_small", "_law_names_here", "_law_fill", "_law_width", "_law_side"] ["_law_cell", "_law_other", "_law_small"] (zG xv):=by walk_at "sc"
abbrev JJ:Stmt:=top 76
theorem Zf:zO ["_law_cell", "_law_at", "_law_limit", "_law_one"] ["_law_cell", "_law_at", "_law_limit"] (zG JJ):=by walk_at "sc"
abbrev QZ:Stmt:=top 77
theorem jG:zO ["_law_cell", "_law_limit", "_law_way", "_law_number"] ["_law_cell", "_law_limit"] (zG QZ):=by walk_at "sc"
abbrev Jr:Stmt:=top 78
theorem VV:zO ["_law_cell", "_law_signs_here", "_law_size"] ["_law_cell", "_law_signs_here", "_law_size"] (zG Jr):=by walk_at "sc"
abbrev Jx:Stmt:=top 79
theorem ki:zO ["_law_script", "_law_small", "_law_kind", "_law_one", "_law_other"] ["_law_script", "_law_small"] (zG Jx):=by walk_at "sc"
abbrev J2:Stmt:=top 80
theorem VY:zO ["_law_spec_here"] ["_law_spec_here"] (zG J2):=by walk_at "sc"
abbrev kJ:Stmt:=top 81
theorem Qs:zO ["_law_value_here", "_law_spec_here"] ["_law_value_here", "_law_spec_here"] (zG kJ):=by walk_at "sc"
abbrev J9:Stmt:=top 82
theorem kX:zO ["_law_value_here", "_law_spec_here", "_law_lead", "_law_rest"] ["_law_value_here", "_law_spec_here"] (zG J9):=by walk_at "sc"
abbrev Qj:Stmt:=top 83
theorem Zx:zO ["_law_cell", "_law_spec_here", "_law_step"] ["_law_cell", "_law_spec_here"] (zG Qj):=by walk_at "sc"
abbrev yh:Stmt:=top 84
theorem yQ:zO ["_law_value_here", "_law_spec_here", "_law_step"] ["_law_value_here", "_law_spec_here"] (zG yh):=by walk_at "sc"
abbrev kH:Stmt:=top 85
theorem JE:zO ["_law_value_here", "_law_spec_here"] ["_law_value_here", "_law_spec_here"] (zG kH):=by walk_at "sc"
abbrev JQ:Stmt:=top 86
theorem Yp:zO ["_law_one", "_law_other", "_law_spec_here"] ["_law_one", "_law_other", "_law_spec_here"] (zG JQ):=by walk_at "sc"
abbrev Zz:Stmt:=top 87
theorem jR:zO ["_law_form_here", "_law_text_here", "_law_found", "e", "_law_some"] ["_law_form_here", "_law_text_here"] (zG Zz):=by walk_at "sc"
abbrev Jq:Stmt:=top 88
theorem qV:zO ["_law_one", "_law_spec_here", "_law_fill", "_law_base", "_law_step", "_law_steps_here", "_law_great_here", "_law_figure", "_law_some"] ["_law_one", "_law_spec_here"] (zG Jq):=by walk_at "sc"
abbrev wW:Stmt:=top 89
theorem xh:zO ["_law_told", "_law_spec_here", "_law_text_here", "_law_one", "_law_other"] ["_law_told", "_law_spec_here", "_law_text_here"] (zG wW):=by walk_at "sc"
abbrev J1:Stmt:=top 90
theorem jC:zO ["_law_form_here", "_law_spec_here", "_law_text_here", "_law_value_here", "_law_told", "_law_one", "_law_other", "_law_kept", "_law_due"] ["_law_form_here", "_law_spec_here", "_law_text_here", "_law_value_here"] (zG J1):=by walk_at "sc"
abbrev Z2:Stmt:=top 91
theorem yM:zO ["_law_cell", "_law_text_here", "_law_at", "_law_sign_here"] ["_law_cell", "_law_text_here"] (zG Z2):=by walk_at "sc"
abbrev Yw:Stmt:=top 92
theorem y3:zO ["_law_script", "_law_spec_here", "_law_form_here", "_law_k", "_law_cell", "_law_value_here", "_law_text_here", "_law_lead", "_law_rest", "_law_one"] ["_law_script"] (zG Yw):=by walk_at "sc"
structure Zs (w:World) (K:W.Frag) (mg:Str->Option Value) (xC zl zw qI qQ qb zZ kK zH zP zN j5:Addr) (y7 ji qx:Tok):Prop where
 kn:Kn K mg
 ab:mg "PadError" = some (.ref xC)
 ac:mg "NoFigures" = some (.ref zl)
 ad:mg "NoGroups" = some (.ref zw)
 ae:mg "NoBody" = some (.ref qI)
 af:mg "NoCore" = some (.ref qQ)
 ag:mg "NoText" = some (.ref qb)
 ah:mg "TwoValues" = some (.ref zZ)
 ai:mg "Form" = some (.ref kK)
 aj:mg "NumberForm" = some (.ref zH)
 ak:mg "WordForm" = some (.ref zP)
 al:mg "ChoiceForm" = some (.ref zN)
 am:mg "len" = none
 an:mg "range" = none
 ao:mg "isinstance" = none
 ap:mg "str" = none
 aq:mg "max" = none
 ar:mg "min" = none
 au:mg "int" = none
 av:mg "bool" = none
 aw:mg "abs" = none
 ax:mg "list" = none
 ay:mg "tuple" = none
 az:mg "all" = none
 aA:mg "sorted" = none
 aB:mg "zip" = none
 aC:mg "STYLES" = some (.ref j5)
 aD:mg "FIGURES" = some (.str "0123456789abcdef" y7)
 aE:mg "MOST_SIGNS" = some (.int 40 ji)
 aF:mg "MOST_FIGURES" = some (.int 240 qx)
 aG:Sty w K j5
 f0:Dfx K "_law_cell_at" ZI
 f1:Dfx K "_law_pick" Ji
 f2:Dfx K "pads_of" Yi
 f3:Dfx K "padded" Vp
 f4:Dfx K "power_of" J5
 f5:Dfx K "parts_of" Jz
 f6:Dfx K "grouped" YT
 f7:Dfx K "ends_of" YS
 f8:Dfx K "signed" Vk
 f9:Dfx K "stands_between_figures" jI
 aR:Dfx K "unsigned" Jf
 aS:Dfx K "is_whole" Jo
 aT:Dfx K "common_divisor" yS
 aU:Dfx K "ungrouped" Qd
 aV:Dfx K "number_of" JA
 aW:Dfx K "whole_end" Q7
 aX:Dfx K "number_in" Qp
 aY:Dcx K "Form.__init__" "__init__" yy kK
 aZ:Ddx K "WordForm.__init__" "__init__" xN zP [zP] 4
 a0:Ddx K "ChoiceForm.__init__" "__init__" jh zN [zN] 4
 a1:Ddx K "NumberForm.__init__" "__init__" jf zH [zH] 10
 a2:Dmx K "NumberForm.is_too_great" "is_too_great" qy zH [zH]
 a3:Dmx K "Form.is_too_wide" "is_too_wide" xW kK [zH,zP,zN]
 a4:Dmx K "WordForm.is_word" "is_word" xS zP [zP]
 a5:Dfx K "stripped" J6
 a6:Dmx K "Form.unfilled" "unfilled" yt kK [zH,zN,zP]
 a7:Dfx K "fraction" Jh
 a8:Dfx K "grid_value" Zp
 a9:Dmx K "NumberForm.number_with" "number_with" jK zH [zH]
 ba:Dfx K "stripped_inside" xo
 bb:Dmx K "NumberForm.cores_in" "cores_in" jl zH [zH]
 bc:Dmx K "NumberForm.numbers_in" "numbers_in" jV zH [zH]
 bd:Dmx K "NumberForm.values_for" "values_for" jW zH [zH]
 be:Dmx K "ChoiceForm.values_for" "values_for" jU zN [zN]
 bf:Dmx K "WordForm.values_for" "values_for" jk zP [zP]
 bg:Dmx K "TwoValues.__init__" "__init__" jy zZ [zZ]
 bh:Dmx K "Form.value_of" "value_of" ym kK [zH,zP,zN]
 bi:Dfx K "_law_signs" JL
 bj:Dfx K "_law_sign" Jp
 bk:Dfx K "_law_number_spec" x8
 bl:Dfx K "_law_number_form" x6
 bm:Dfx K "_law_word_spec" yo
 bn:Dfx K "_law_names" Qx
 bo:Dfx K "_law_choice_spec" xv
 bp:Dfx K "_law_power" JB
 bq:Dfx K "_law_divisor" wU
 br:Dfx K "_law_lowest" Zm
 bs:Dfx K "_law_figures" w9
 bt:Dfx K "_law_body" J0
 bu:Dfx K "_law_parts" Qn
 bv:Dfx K "_law_great" JJ
 bw:Dfx K "_law_filled" Zr
 bx:Dfx K "_law_steps" QZ
 bz:Dfx K "_law_word" Jr
 bA:Dfx K "_law_spec" Jx
 bB:Dfx K "_law_form" J2
 bC:Dfx K "_law_value" Qj
 bD:Dfx K "_law_parts_of" kJ
 bE:Dfx K "_law_text" J9
 bF:Dfx K "_law_whole" Ql
 bG:Dfx K "_law_is_number" yh
 bH:Dfx K "_law_is_value" kH
 bI:Dfx K "_law_ahead" JQ
 bJ:Dfx K "_law_single" Zz
 bK:Dfx K "_law_near" Jq
 bL:Dfx K "_law_is_full" wW
 bM:Dfx K "_law_good" J1
 bN:Dfx K "_law_spoilt" Z2
 bO:Dfx K "law" Yw
 bP:Exc K zl
 bQ:Exc K zw
 bR:Exc K qI
 bS:Exc K qQ
 bT:Exc K qb
 bU:Nm K "NoFigures" zl
 bV:Nm K "NoGroups" zw
 bW:Nm K "NoBody" qI
 bX:Nm K "NoCore" qQ
 bY:Cls K zH
 bZ:qp K zH ["width", "fill", "side", "strict", "figures", "places", "base", "sign", "size", "mark", "point", "way"]
 b0:MkI K zH
 b1:Cls K zP
 b2:qp K zP ["width", "fill", "side", "strict", "signs", "least", "most"]
 b3:MkI K zP
 b4:Cls K zN
 b5:qp K zN ["width", "fill", "side", "strict", "names"]
 b6:MkI K zN
 pi:PIni K xC
 b8:Xin K zZ
 b9 : ∃ f,ExF K zZ f "told"
 xt:W.exmOne K (.ref qb) (.ref qb)=some true
 x2:W.exmOne K (.ref zZ) (.ref qb)=some false
 x3:W.exmOne K (.ref zZ) (.ref zZ)=some true
 xg:W.exmAny K (.ref zw) [.ref zw,.ref zl]=some true
 xf:W.exmAny K (.ref zl) [.ref zw,.ref zl]=some true
 xc:W.exmAny K (.ref qQ) [.ref qQ,.ref qI]=some true
 xb:W.exmAny K (.ref qI) [.ref qQ,.ref qI]=some true
section
variable {P : Program} {w : World} {K : W.Frag} {mg : Str -> Option Value} {base : Heap} {xC zl zw qI qQ qb zZ kK zH zP zN j5 : Addr} {y7 ji qx : Tok} (Z : Zs w K mg xC zl zw qI qQ qb zZ kK zH zP zN j5 y7 ji qx)
local macro_rules | `(tactic| walk_at "sd")=>`(tactic| first | omega | (unfold zJf;omega) | (unfold CNn;omega) | (unfold CNz;omega) | (unfold zHf GL;omega) | (unfold zH6 GL;omega) | (unfold zGk zFN;first | exact .inl (.inl ⟨by omega,by omega⟩) | exact .inl (.inr ⟨by omega,by omega⟩) | (unfold zAK GL;omega)))
local macro_rules | `(tactic| walk_at "hp")=>`(tactic| first | assumption | (refine zW.at (by assumption) ?_;walk_at "hp") | exact zS)
local macro_rules | `(tactic| walk_at "sq")=>`(tactic| first | assumption | (refine zW.seq (by assumption) ?_;walk_at "sq") | exact SqL.of (by walk_at "hp"))
local macro_rules | `(tactic| walk_at "sm")=>`(tactic| first | assumption | exact zW.refl _ | (refine zW.trans ?_ (by assumption);walk_at "sm"))
local macro_rules | `(tactic| walk_at "rdc")=>`(tactic| fail "no callee")
local macro_rules | `(tactic| walk_at "rd1")=>`(tactic| first
 | (with_reducible first | apply zGq | apply zHI | apply zIJ | apply zH8 | apply zFw | apply zHp)
 | ((with_reducible refine' zIw ?e ?_);(case e=>rfl))
 | (with_reducible first | apply r_c | apply zJu | apply zJx)
 | ((with_reducible refine' r_I ?hc ?_);(case hc=>walk_at "sd"))
 | (with_reducible first | apply zFR | apply zJ0 | apply zGa | apply zIg | apply zId | apply zJ7 | apply zJn | apply zJm | apply zJ3)
 | ((with_reducible refine' zKB ?hc ?_);(case hc=>omega))
 | ((with_reducible refine' zJp ?hc ?_);(case hc=>omega))
 | ((with_reducible refine' zIo ?hc ?_);(case hc=>omega))
 | (with_reducible first | refine i_d (fun hc=>?_) (fun hc=>?_) | refine zJd (fun hc=>?_) (fun hc=>?_) | refine i_b (fun hc=>?_) (fun hc=>?_) | apply zFd | apply zGh | apply zGl | apply zJh | apply zJz | apply r_U | apply zIE | apply zJ2 | apply zH3 | apply zHD | apply zIQ | apply zGQ | apply zEA | apply zIT | apply zGx)
 | ((with_reducible refine' zGf ?hz ?_);(case hz=>exact qm (by simp only [length_cons,length_nil];decide));intro p' H' g' e')
 | (with_reducible first | apply zBm | apply zBx)
 | ((with_reducible refine' zB7 ?h ?_);(case h=>walk_at "hp"))
 | ((with_reducible refine' kG ?h ?e ?_);(case h=>walk_at "hp");(case e=>rfl))
 | ((with_reducible refine' zFx ?h ?hi (fun hi'=>?_) (fun hi'=>?_));(case h=>walk_at "hp");(case hi=>omega))
 | (with_reducible first | refine zGu (fun k' hk'=>?_) | refine zDy (fun k' hk'=>?_) | refine zEy (fun k' hk'=>?_))
 | ((with_reducible refine' zFG ?h ?_);(case h=>walk_at "hp"))
 | ((with_reducible refine' zC7 ?h ?_);(case h=>walk_at "sq"))
 | (with_reducible first | apply zIl | apply zH7 | apply zIr | apply zGY | apply zFk)
 | ((with_reducible refine' zGK ?h ?n ?_);(case h=>walk_at "hp");(case n=>rfl))
 | (with_reducible first | apply zEu | apply zFu | apply zGJ)
 | walk_at "rdc"
 | fail "rd stops")
local macro_rules | `(tactic| walk_at "rd")=>`(tactic| repeat' walk_at "rd1")
local macro_rules | `(tactic| walk_at "st")=>`(tactic| dsimp only [L2.start,List.map,List.length,List.replicate,List.append,HAppend.hAppend,Append.append,Nat.reduceAdd,Nat.reduceSub])
local macro_rules | `(tactic| walk_at "rdc")=>`(tactic| first
 | (with_reducible first | apply zDx | apply zBn | apply zHB | apply zEI | apply zD3 | apply zEh | apply zG8 | apply zIO)
 | ((with_reducible refine' zIx ?h ?_);(case h=>walk_at "sq");intro p' H' g' e')
 | ((with_reducible refine' WH (b:=true) ?e ?_);(case e=>exact decide_eq_true rfl))
 | ((with_reducible refine' WH (b:=false) ?e ?_);(case e=>exact (by decide +kernel)))
 | fail "rd2 stops")
local macro_rules | `(tactic| walk_at "odd")=>`(tactic| first | assumption | exact .non | exact .bl _ | exact .str _ | exact .lst (by walk_at "hp") | exact .tup (by walk_at "hp") | exact .dct (by walk_at "hp") | (refine Odd.same ?_ (by assumption);walk_at "odd"))
local macro_rules | `(tactic| walk_at "rdc")=>`(tactic| first
 | (with_reducible first | apply zAY | apply zGo)
 | ((with_reducible refine' zCm ?h ?_);(case h=>walk_at "sq"))
 | fail "rd3 stops")
local macro_rules | `(tactic| walk_at "tl")=>`(tactic| first | omega | (simp only [JY,length_append,List.length_replicate,length_cons,length_nil,length_take,length_drop];first | (with_reducible refine le_trans (Nat.add_le_add (Nat.add_le_add (min_le_right _ _) (Nat.le_refl _)) (sub_le _ _)) ?_;omega) | (with_reducible refine le_trans (sub_le _ _) (le_trans (min_le_right _ _) ?_);omega) | (with_reducible refine le_trans (sub_le _ _) ?_;omega) | (with_reducible refine le_trans (min_le_right _ _) ?_;omega) | omega) | (with_unfolding_all decide))
local macro_rules | `(tactic| walk_at "rdc")=>`(tactic| first
 | ((with_reducible refine' zEU ?hz ?_);(case hz=>walk_at "tl"))
 | ((with_reducible refine' zDE ?hz ?_);(case hz=>walk_at "tl"))
 | ((with_reducible refine' zAV ?hz ?_);(case hz=>walk_at "tl"))
 | ((with_reducible refine' zDB ?hz ?_);(case hz=>walk_at "tl"))
 | ((with_reducible refine' Wi (z:=Str.ofString _) 94 ?hn ?hz ?h0 ?h1 ?_);(case hn=>decide +kernel);(case hz=>decide);(case h0|h1=>omega);intro c' hc')
 | ((with_reducible refine' Wi (z:=Str.ofString _) 16 ?hn ?hz ?h0 ?h1 ?_);(case hn=>decide +kernel);(case hz=>decide);(case h0|h1=>omega);intro c' hc')
 | ((with_reducible refine' Wi (z:=Str.ofString _) 13 ?hn ?hz ?h0 ?h1 ?_);(case hn=>decide +kernel);(case hz=>decide);(case h0|h1=>omega);intro c' hc')
 | ((with_reducible refine' zFv ?hz ?h0 ?h1 ?_);(case hz=>walk_at "tl");(case h0=>omega);(case h1=>walk_at "tl"))
 | ((with_reducible refine' zCB ?hz ?h0 ?h1 ?_);(case hz=>walk_at "tl");(case h0=>omega);(case h1=>walk_at "tl"))
 | ((with_reducible refine' zDd ?hz ?h1 ?_);(case hz|h1=>walk_at "tl"))
 | ((with_reducible refine' zFD ?hz ?h0 ?_);(case hz=>walk_at "tl");(case h0=>omega))
 | ((with_reducible refine' zD8 ?hz ?h0 ?_);(case hz=>walk_at "tl");(case h0=>omega))
 | ((with_reducible refine' zCE ?hz ?h0 ?h1 ?_);(case hz=>walk_at "tl");(case h0|h1=>omega))
 | ((with_reducible refine' zEg ?h0 ?h1 ?_);(case h0|h1=>omega))
 | (with_reducible refine zB9 ?_)
 | ((with_reducible refine' WH (b:=true) ?e ?_);(case e=>exact decide_eq_true rfl))
 | ((with_reducible refine' WH (b:=false) ?e ?_);(case e=>exact (by decide +kernel)))
 | ((with_reducible refine' zEW (b:=true) ?e ?_);(case e=>exact decide_eq_true rfl))
 | ((with_reducible refine' zEW (b:=false) ?e ?_);(case e=>exact (by decide +kernel)))
 | (with_reducible first | apply zCl | apply zDA | apply zCv | apply zBD | apply zGo | apply zIM | apply zAw)
 | fail "rd4 stops")
local macro_rules | `(tactic| walk_at "rdc")=>`(tactic| first
 | (with_reducible refine zHg ?_)
 | ((with_reducible refine' WH (x:=T _) (b:=true) ?e ?_);(case e=>exact decide_eq_true rfl))
 | (with_reducible refine zCl ?_)
 | ((with_reducible refine' zEW (x:=T _) (b:=true) ?e ?_);(case e=>exact decide_eq_true rfl))
 | (with_reducible refine zDA ?_)
 | fail "rd5 stops")
local macro_rules | `(tactic| walk_at "rdc")=>`(tactic| first
 | (with_reducible refine zGs ?_)
 | ((with_reducible refine' zFi ?h ?h0 ?h1 ?_);(case h=>walk_at "sq");(case h0|h1=>omega))
 | fail "rd6 stops")
local macro_rules | `(tactic| walk_at "asc")=>`(tactic| first | assumption | exact Asc.nil | exact Asc.one (by omega) | exact Asc.app (by walk_at "asc") (by walk_at "asc") | exact Asc.take (by walk_at "asc") _ | exact Asc.drop (by walk_at "asc") _ | exact Asc.rep (by walk_at "asc") _)
local macro_rules | `(tactic| walk_at "rdc")=>`(tactic| first
 | (with_reducible first | apply zGS | apply zGL)
 | fail "rd7 stops")
local macro_rules | `(tactic| walk_at "rdc")=>`(tactic| first
 | (with_reducible refine zD9 ?_)
 | fail "rd8 stops")
local macro_rules | `(tactic| walk_at "sqt")=>`(tactic| first | assumption | exact SqT.same (by assumption) (by assumption) | exact SqT.same (SqT.same (by assumption) (by assumption)) (by assumption) | exact SqT.of (by walk_at "hp"))
local macro_rules | `(tactic| walk_at "rdc")=>`(tactic| first
 | ((with_reducible refine' zFJ ?h ?e ?_);(case h=>walk_at "sqt");(case e=>rfl))
 | fail "rd9 stops")
local macro_rules | `(tactic| walk_at "rdc")=>`(tactic| first
 | (with_reducible refine zGC ?_)
 | ((with_reducible refine' zII ?h ?_);(case h=>first | assumption | omega))
 | ((with_reducible refine' zEk ?h1 ?h2 ?_);(case h1|h2=>walk_at "sq"))
 | (with_reducible refine zEo ?_)
 | fail "rd10 stops")
local macro_rules | `(tactic| walk_at "rdc")=>`(tactic| first
 | fail "rd11 stops")
local macro_rules | `(tactic| walk_at "rdc")=>`(tactic| first
 | ((with_reducible refine' zBo ?h ?_);(case h=>walk_at "hp"))
 | ((with_reducible refine' zFm ?h ?_);(case h=>walk_at "sq"))
 | ((with_reducible refine' zEL ?h ?h0 ?_);(case h=>walk_at "sq");(case h0=>omega))
 | ((with_reducible refine' Vi ?h ?_);(case h=>walk_at "sq");intro l' H' g' n' e')
 | (with_reducible refine zBk ?_)
 | ((with_reducible refine' zCm ?h ?_);(case h=>walk_at "sq"))
 | (with_reducible refine zGs ?_)
 | fail "rd12 stops")
local macro_rules | `(tactic| walk_at "rdc")=>`(tactic| first
 | (with_reducible refine zIz ?_)
 | fail "rd13 stops")
local macro_rules | `(tactic| walk_at "fm")=>`(tactic| first | assumption | (refine' zc.same (by assumption) ?_;walk_at "fm"))
local macro_rules | `(tactic| walk_at "fld2")=>`(tactic| fail "no own field")
local macro_rules | `(tactic| walk_at "fld")=>`(tactic| first | (exact zc.width (by walk_at "fm")) | (exact zc.fill (by walk_at "fm")) | (exact zc.side (by walk_at "fm")) | (exact zc.strict (by walk_at "fm")) | walk_at "fld2")
local macro_rules | `(tactic| walk_at "wk")=>`(tactic| repeat (first | exact Wk.nil | refine Wk.one ?_ | refine Wk.any ?_))
local macro_rules | `(tactic| walk_at "rdc")=>`(tactic| first
 | (with_reducible first | apply zIW | apply zAY)
 | ((with_reducible refine' zGX ?h ?_);(case h=>walk_at "fld"))
 | (with_reducible refine JN ?_)
 | ((with_reducible refine' kZ ?h ?_);(case h=>walk_at "ins"))
 | (with_reducible refine zFB ?_)
 | ((with_reducible refine' zJg ?h ?_);(case h=>walk_at "wk"))
 | (with_reducible first | apply zF9 | apply zHO | apply zGA | apply zE7 | apply zFL | apply zHc | apply zFa)
 | ((with_reducible refine' zIH ?h ?_);(case h=>walk_at "sq"))
 | fail "rd14 stops")
local macro_rules | `(tactic| walk_at "rd1")=>`(tactic| first | ((with_reducible refine' Ko ?h ?e ?_);(case h=>walk_at "sq");(case e=>rfl)) | fail "no written place")
def kA (t b:Int):Int:=if b < 0 then -(Int.gcd t b:Int) else (Int.gcd t b:Int)
def xO (t b:Int):Int:=t.fdiv (kA t b)
def jt (t b:Int):Int:=b.fdiv (kA t b)
variable {g l:Int}
theorem zBR (hg:0<=g) (hl:0 < l):Int.gcd l (g % l)=Int.gcd g l:=by
 rw [Int.gcd_comm g l]
 have e:g % l=g+l*(-(g / l)):=by
  have:=Int.emod_add_mul_ediv g l
  rw [mul_neg];omega
 rw [e,Int.gcd_add_mul_left_right]
theorem zBG (t b:Int):kA t b ∣ t:=by
 unfold kA;split
 ·exact (Int.neg_dvd).mpr (Int.gcd_dvd_left ..)
 ·exact Int.gcd_dvd_left ..
theorem Wd (t b:Int):kA t b ∣ b:=by
 unfold kA;split
 ·exact (Int.neg_dvd).mpr (Int.gcd_dvd_right ..)
 ·exact Int.gcd_dvd_right ..
variable {t:Int}
theorem ZA {b:Int} (h:0 < b):0 < kA t b:=by
 unfold kA;rw [if_neg (by omega)]
 have:0 < Int.gcd t b:=Int.gcd_pos_of_ne_zero_right _ (by omega)
 omega
theorem yL (t b:Int):xO t b*kA t b=t:=by
 unfold xO;exact Int.fdiv_mul_cancel (zBG t b)
theorem j7 (t b:Int):jt t b*kA t b=b:=by
 unfold jt;exact Int.fdiv_mul_cancel (Wd t b)
theorem yI {b:Int} (h:0 < b):0 < jt t b:=by
 have h1:=ZA (t:=t) h
 have h2:=j7 t b
 rcases Int.lt_trichotomy 0 (jt t b) with h3 | h3 | h3
 ·exact h3
 ·rw [<- h3] at h2;simp at h2;omega
 ·have:=Int.mul_neg_of_neg_of_pos h3 h1;omega
theorem JR {b:Int} (h:0 < b):jt t b<=b:=by
 have h1:=ZA (t:=t) h
 have h2:=j7 t b
 have h3:=yI (t:=t) h
 have:=Int.mul_le_mul_of_nonneg_left (show 1<=kA t b by omega) (Int.le_of_lt h3)
 omega
variable {a:Int}
theorem zEm {b:Int} (h1:(0<=a/\g=a)\/(a < 0/\g = -a)) (h2:(0<=b/\l=b)\/(b < 0/\l = -b)):0<=g/\0<=l/\Int.gcd g l=Int.gcd a b:=by
 rcases h1 with ⟨h,rfl⟩ | ⟨h,rfl⟩ <;> rcases h2 with ⟨h',rfl⟩ | ⟨h',rfl⟩ <;> simp only [Int.gcd_neg,Int.neg_gcd,and_true] <;> omega
def Way (w:Str):Prop:=w = "down" \/ w = "up" \/ w = "cut" \/ w = "near" \/ w = "even"
theorem Yt {b:Int} (h1:2<=b) (h2:b<=16) : ∀ n:Nat,1<=b ^ n/\b ^ n<=16 ^ n
 | 0=>by simp
 | n+1=>by
  obtain ⟨p,q⟩:=Yt h1 h2 n
  rw [pow_succ,pow_succ]
  have a1:=mul_le_mul p (show 1<=b by omega) (by decide) (by omega)
  have a2:=mul_le_mul q h2 (by omega) (by omega)
  omega
variable {m:Nat}
theorem XI {n:Nat} (h:n<=m):(16:Int) ^ n<=16 ^ m:=by
 induction h with
 | refl=>exact Int.le_refl _
 | step h ih =>
  rename_i m
  have:=(Yt (b:=16) (by decide) (by decide) m).1
  rw [pow_succ];omega
theorem pw6 {b:Int} (h1:2<=b) (h2:b<=16) (h3:t<=6):1<=b ^ t.toNat/\b ^ t.toNat<=16777216:=by
 have a:=Yt h1 h2 t.toNat
 have b:=XI (n:=t.toNat) (m:=6) (by omega)
 have c:(16:Int) ^ 6=16777216:=by decide
 omega
theorem zHu {b:Int} {n:Nat} (h1:2<=b) (h2:b<=16) (h3:n<=60):1<=b ^ n/\b ^ n<=1766847064778384329583297500742918515827483896875618958121606201292619776:=by
 have a:=Yt h1 h2 n
 have b:=XI (n:=n) (m:=60) (by omega)
 have c:(16:Int) ^ 60=1766847064778384329583297500742918515827483896875618958121606201292619776:=by decide +kernel
 omega
def Qf (K:W.Frag):Sp:=fun vs H Q _=>∃ b t:Int,vs=[.int b,.int t]/\2<=b/\b<=16/\0<=t/\t<=60/\Q (.int (b ^ t.toNat)) H
variable {H:Hp} {Q:VK} {E:XK}
theorem KY {b:Int} (h1:2<=b) (h2:b<=16) (h3:0<=t) (h4:t<=60) (q:Q (.int (b ^ t.toNat)) H):Qf K ([.int b,.int t]++[]) H Q E:=⟨b,t,rfl,h1,h2,h3,h4,q⟩
def kR (K:W.Frag):Sp:=fun vs H Q _=>∃ (a:Addr) (ns:List Int) (k:Int),vs=[.ref a,.int k]/\SqL K H a (ns.map V.int)/\0<=k /\ ∀ v:Int,Q (.int v) H
variable {k:Int}
theorem zGU {a:Addr} {ns:List Int} (h1:SqL K H a (ns.map V.int)) (h2:0<=k) (q : ∀ v:Int,Q (.int v) H):kR K ([.ref a,.int k]++[]) H Q E:=⟨a,ns,k,rfl,h1,h2,q⟩
def pkA (c t:Int):Int:=(c % 1000000007+314159265+104729*t) % 998244353*((c % 1000000007+314159265+104729*t) % 998244353) % 998244353
def pk (c t m:Int):Int:=if 1000000000000000000 < c/\0 < c / 2 ^ (20*t).toNat then c / 2 ^ (20*t).toNat % 1048576 % m else (pkA c t+271828183)*(pkA c t / 1024+48271+t) % 2147483629 / 128 % m
def kx (K:W.Frag):Sp:=fun vs H Q _=>∃ c t m:Int,vs=[.int c,.int t,.int m]/\0<=t/\0 < m/\(0<=pk c t m->pk c t m < m->Q (.int (pk c t m)) H)
variable {c:Int}
theorem zE0 {m:Int} (h1:0<=t) (h2:0 < m) (q:0<=pk c t m->pk c t m < m->Q (.int (pk c t m)) H):kx K ([.int c,.int t,.int m]++[]) H Q E:=⟨c,t,m,rfl,h1,h2,q⟩
theorem zDF {m:Int} (h1:0<=t) (h2:0 < m) (q : ∀ v:Int,0<=v->v < m->Q (.int v) H):kx K ([.int c,.int t,.int m]++[]) H Q E:=⟨c,t,m,rfl,h1,h2,q _⟩
def Ja (K:W.Frag):Sp:=fun vs H Q _=>∃ (n w:Int) (x:Str),vs=[.int n,.int w,.str x]/\kN x/\0<=n/\w<=40 /\ ∀ p H',zW H H'->H' p=some (.tup [.int (pA x n w),.int (pB x n w)])->Q (.ref p) H'
variable {x:Str}
theorem Wn {n w:Int} (h1:kN x) (h2:0<=n) (h3:w<=40) (q : ∀ p H',zW H H'->H' p=some (.tup [.int (pA x n w),.int (pB x n w)])->Q (.ref p) H'):Ja K ([.int n,.int w,.str x]++[]) H Q E:=⟨n,w,x,rfl,h1,h2,h3,q⟩
def Yc (K:W.Frag):Sp:=fun vs H Q _=>∃ (t:List Nat) (w:Int) (f:Nat) (x:Str),vs=[.str (T t),.int w,.str (T [f]),.str x]/\kN x/\t.length<=400/\w<=40 /\ ∀ H',zW H H'->Q (.str (T (pad t w f x))) H'
theorem zBt {t:List Nat} {w:Int} {f:Nat} (h1:kN x) (h2:t.length<=400) (h3:w<=40) (q : ∀ H',zW H H'->Q (.str (T (pad t w f x))) H'):Yc K ([.str (T t),.int w,.str (T [f]),.str x]++[]) H Q E:=⟨t,w,f,x,rfl,h1,h2,h3,q⟩
local macro_rules | `(tactic| walk_at "rdc")=>`(tactic| ((with_reducible refine' zDF ?h1 ?h2 ?_);(case h1|h2=>omega);intro v' h0' h1'))
local macro_rules | `(tactic| walk_at "rdc")=>`(tactic| ((with_reducible refine' zGU ?h1 ?h2 ?_);(case h1=>walk_at "sq");(case h2=>omega);intro v'))
local macro_rules | `(tactic| walk_at "rdc")=>`(tactic| ((with_reducible refine' Wn ?h1 ?h2 ?h3 ?_);(case h1=>first | assumption | exact .inl rfl | exact .inr (.inl rfl) | exact .inr (.inr rfl));(case h2|h3=>omega);intro p' H' g' e'))
local macro_rules | `(tactic| walk_at "rdc")=>`(tactic| ((with_reducible refine' zBt ?h1 ?h2 ?h3 ?_);(case h1=>first | assumption | exact .inl rfl | exact .inr (.inl rfl) | exact .inr (.inr rfl));(case h2=>walk_at "tl");(case h3=>omega);intro H' g'))
theorem zEb {c:Nat} (h:c < 127) (q:Q (.int (fv c)) H):zAa (.str "0123456789abcdef") [.str (T [c])] H Q:=zAw (by rw [Wv h];exact q)
variable {i:Int}
theorem zI3 (h0:0<=i) (h1:i < 16) (q:Q (.str (T [fc i.toNat])) H):zDU (.str "0123456789abcdef") (.int i) H Q:=by
 have e:(Lt "0123456789abcdef").length=16:=by decide +kernel
 exact zCB (by omega) h0 (by omega) q
local macro_rules | `(tactic| walk_at "rdc")=>`(tactic| ((with_reducible refine' zEb ?h1 ?_);(case h1=>first | omega | assumption)))
local macro_rules | `(tactic| walk_at "rdc")=>`(tactic| ((with_reducible refine' zI3 ?h1 ?h2 ?_);(case h1|h2=>omega)))
abbrev Ce:=List (List Nat)
inductive Al {α:Type} (R:V->α->Prop):List V->List α->Prop
 | nil:Al R [] []
 | cons {v:V} {a:α} {vs:List V} {as:List α} (h:R v a) (t:Al R vs as):Al R (v::vs) (a::as)
section
variable {α : Type} {R R' : V -> α -> Prop}
variable {vs:List V} {as:List α}
theorem Al.len (h:Al R vs as):vs.length=as.length:=by
 induction h with
 | nil=>rfl
 | cons _ _ ih=>rw [length_cons,length_cons,ih]
theorem Al.imp (h:Al R vs as) (f : ∀ v a,R v a->R' v a):Al R' vs as:=by
 induction h with
 | nil=>exact .nil
 | cons h _ ih=>exact .cons (f _ _ h) ih
theorem Al.app {us:List V} {bs:List α} (h:Al R vs as) (k:Al R us bs):Al R (vs++us) (as++bs):=by
 induction h with
 | nil=>exact k
 | cons h _ ih=>exact .cons h ih
theorem Al.one {v:V} {a:α} (h:R v a):Al R [v] [a]:=.cons h .nil
theorem Al.get (h:Al R vs as) : ∀ {i:Nat} {v:V},vs[i]? = some v -> ∃ a,as[i]? = some a/\R v a:=by
 induction h with
 | nil=>intro i v e;simp at e
 | cons h _ ih =>
  intro i v e
  cases i with
  | zero=>cases e;exact ⟨_,rfl,h⟩
  | succ i=>exact ih e
theorem Al.filter {p:α->Bool} (h:Al R vs as) : ∃ us,Al R us (as.filter p):=by
 induction h with
 | nil=>exact ⟨[],.nil⟩
 | @cons v a vs as h _ ih =>
  obtain ⟨us,k⟩:=ih
  rw [filter_cons]
  cases p a with
  | false=>exact ⟨us,k⟩
  | true=>exact ⟨v::us,.cons h k⟩
end
variable {H':Hp}
theorem none_of {a:Addr} (g:zW H H') (n:H' a=none):H a=none:=by
 cases hl:H a with
 | none=>rfl
 | some u=>rw [g.at hl] at n;cases n
theorem zr (l:Ce):(tsV l).length=l.length:=length_map _
theorem xL (a b:List (List Nat)):tsV a++tsV b=tsV (a++b):=by unfold tsV;rw [map_append]
variable {v:V}
theorem yl {l:Ce} {i:Nat} (h:(tsV l)[i]? = some v) : ∃ c,l[i]? = some c/\v = .str (T c):=by
 unfold tsV at h
 rw [getElem?_map] at h
 cases hc:l[i]? with
 | none=>rw [hc] at h;cases h
 | some c=>rw [hc] at h;cases h;exact ⟨c,rfl,rfl⟩
def RL (H:Hp) (P:Addr->Prop) (v:V) (cs:Ce):Prop:=∃ q,v = .ref q/\P q/\H q=some (.lst (tsV cs))
def ZH (K:W.Frag):Sp:=fun vs H Q _=>∃ (a:List Nat) (z g:Int),vs=[.str (T a),.int z,.int g]/\0 < z/\z<=9/\0<=g/\g<=1/\a.length<=400 /\ ∀ p H',zW H H'->H' p=some (.lst ((pcs a z.toNat g.toNat a.length).map fun l=>V.str (T l)))->Q (.ref p) H'
theorem Ks {a:List Nat} (h1:0 < z) (h2:z<=9) (h3:0<=g) (h4:g<=1) (h5:a.length<=400) (q : ∀ p H',zW H H'->H' p=some (.lst ((pcs a z.toNat g.toNat a.length).map fun l=>V.str (T l)))->Q (.ref p) H'):ZH K ([.str (T a),.int z,.int g]++[]) H Q E:=⟨a,z,g,rfl,h1,h2,h3,h4,h5,q⟩
local macro_rules | `(tactic| walk_at "rdc")=>`(tactic| ((with_reducible refine' Ks ?h1 ?h2 ?h3 ?h4 ?h5 ?_);(case h1|h2|h3|h4|h5=>omega);intro p' H' g' e'))
def Jg (K:W.Frag):Sp:=fun vs H Q _=>∃ (a:List Nat) (z:Int) (m:Nat),vs=[.str (T a),.int z,.str (T [m])]/\0<=z/\z<=9/\a.length<=400 /\ ∀ H',zW H H'->Q (.str (T (gr z.toNat m a))) H'
theorem zAu {a:List Nat} (h1:0<=z) (h2:z<=9) (h5:a.length<=400) (q : ∀ H',zW H H'->Q (.str (T (gr z.toNat m a))) H'):Jg K ([.str (T a),.int z,.str (T [m])]++[]) H Q E:=⟨a,z,m,rfl,h1,h2,h5,q⟩
local macro_rules | `(tactic| walk_at "rdc")=>`(tactic| ((with_reducible refine' zAu ?h1 ?h2 ?h5 ?_);(case h1|h2|h5=>omega);intro H' g'))
def zJZ (n b p:Int):Prop:=0<=n/\2<=b/\b<=16/\0<=p/\p<=6/\n.toNat < b.toNat ^ (40+p.toNat)
def bdI (n b p:Int) (pt:Nat) (z:Int) (m:Nat):List Nat:=bdy b.toNat p.toNat pt z.toNat m n.toNat
def Jd (K:W.Frag):Sp:=fun vs H Q _=>∃ (x:Str) (b:Bool),vs=[.str x,.bl b]/\kD x /\ ∀ p,SqT K H p [.str (T (stL x b)),.str (T (stT x b))]->Q (.ref p) H
theorem zAB {b:Bool} (h:kD x) (q : ∀ p,SqT K H p [.str (T (stL x b)),.str (T (stT x b))]->Q (.ref p) H):Jd K ([.str x,.bl b]++[]) H Q E:=⟨x,b,rfl,h,q⟩
local macro_rules | `(tactic| walk_at "rdc")=>`(tactic| ((with_reducible refine' zAB ?h ?_);(case h=>assumption);intro p' e'))
def sg (x:Str) (b:Bool) (l:List Nat):List Nat:=stL x b++l++stT x b
theorem zFq (h:kD x) (b:Bool) (l:List Nat):l.length<=(sg x b l).length/\(sg x b l).length<=l.length+2:=by
 have:=Jb h b
 unfold sg;simp only [length_append];omega
def Yk (K:W.Frag):Sp:=fun vs H Q _=>∃ (l:List Nat) (x:Str) (b:Bool),vs=[.str (T l),.str x,.bl b]/\kD x/\l.length<=1000/\Q (.str (T (sg x b l))) H
theorem zBw {l:List Nat} {b:Bool} (h:kD x) (h2:l.length<=1000) (q:Q (.str (T (sg x b l))) H):Yk K ([.str (T l),.str x,.bl b]++[]) H Q E:=⟨l,x,b,rfl,h,h2,q⟩
local macro_rules | `(tactic| walk_at "rdc")=>`(tactic| ((with_reducible refine' zBw ?h ?h2 ?_);(case h=>assumption);(case h2=>omega)))
def qu (K:W.Frag):Sp:=fun vs H Q _=>∃ l:List Nat,vs=[.str (T l)]/\Asc l/\l.length<=1000/\(Fg l->Q (.bl true) H)/\(¬ Fg l->Q (.bl false) H)
theorem zCJ {l:List Nat} (h1:Asc l) (h2:l.length<=1000) (q1:Fg l->Q (.bl true) H) (q2 : ¬ Fg l->Q (.bl false) H):qu K ([.str (T l)]++[]) H Q E:=⟨l,rfl,h1,h2,q1,q2⟩
local macro_rules | `(tactic| walk_at "rdc")=>`(tactic| ((with_reducible refine' zCJ ?h1 ?h2 (fun fg'=>?_) (fun fg'=>?_));(case h1=>assumption);(case h2=>omega)))
def VW (K:W.Frag):Sp:=fun vs H Q E=>∃ (t:List Nat) (x:Str),vs=[.str (T t),.str x]/\kD x/\Asc t/\t.length<=1000/\(∀ b,Sgd x b t -> ∀ p H',zW H H'->H' p=some (.tup [.bl b,.str (T (bod x b t))])->Q (.ref p) H')/\((¬ Sgd x false t)->(¬ Sgd x true t) -> ∀ C H',Nm K "NoCore" C->zW H H'->E (.ref C) none H')
def Yr (K:W.Frag):Sp:=fun vs H Q E=>∃ (t:List Nat) (z:Int) (m:Nat),vs=[.str (T t),.int z,.str (T [m])]/\0<=z/\z<=9/\t.length<=400/\(GG z.toNat m t -> ∀ H',zW H H'->Q (.str (T (ug z.toNat t))) H')/\(¬ GG z.toNat m t -> ∀ C H',Nm K "NoGroups" C->zW H H'->E (.ref C) none H')
def Yg (K:W.Frag):Sp:=fun vs H Q E=>∃ (l:List Nat) (b:Int),vs=[.str (T l),.int b]/\Asc l/\1<=l.length/\l.length<=240/\2<=b/\b<=16/\(xR b l->Q (.int (val b l)) H)/\(¬ xR b l -> ∀ C,Nm K "NoFigures" C->E (.ref C) none H)
def Yh (K:W.Frag):Sp:=fun vs H Q E=>∃ (t:List Nat) (p:Int) (pt:Nat),vs=[.str (T t),.int p,.str (T [pt])]/\0<=p/\p<=6/\t.length<=400/\(WE p.toNat pt t->Q (.int (jO p.toNat t).length) H)/\(¬ WE p.toNat pt t -> ∀ C,Nm K "NoBody" C->E (.ref C) none H)
def YB (K:W.Frag):Sp:=fun vs H Q E=>∃ (t:List Nat) (b p z:Int) (pt m:Nat),vs=[.str (T t),.int b,.int p,.str (T [pt]),.int z,.str (T [m])]/\2<=b/\b<=16/\0<=p/\p<=6/\0<=z/\z<=9/\t.length<=400/\Asc t/\(IsB b p.toNat pt z.toNat m t -> ∀ H',zW H H'->Q (.int (KR b p.toNat z.toNat t)) H')/\(¬ IsB b p.toNat pt z.toNat m t -> ∀ C H',Nm K "NoBody" C->zW H H'->E (.ref C) none H')
def Qa (K:W.Frag):Sp:=fun vs H Q _=>∃ i:Int,vs=[.int i]/\Q (.bl true) H
theorem KM (q:Q (.bl true) H):Qa K ([.int i]++[]) H Q E:=⟨i,rfl,q⟩
local macro_rules | `(tactic| walk_at "rdc")=>`(tactic| (with_reducible refine KM ?_))
def xz (K:W.Frag):Sp:=fun vs H Q _=>∃ a b:Int,vs=[.int a,.int b]/\Q (.int (Int.gcd a b)) H
theorem QI {b:Int} (q:Q (.int (Int.gcd a b)) H):xz K ([.int a,.int b]++[]) H Q E:=⟨a,b,rfl,q⟩
local macro_rules | `(tactic| walk_at "rdc")=>`(tactic| (with_reducible refine QI ?_))
def XS (x:Str):Prop:=kN x\/x = "inside"
structure QF (fg pl b:Int) (sn:Str) (z:Int) (m pt:Nat) (wy:Str) (wd:Int) (f:Nat) (x:Str):Prop where
 fg1:1<=fg
 fg2:fg<=12
 pl1:0<=pl
 pl2:pl<=6
 b1:2<=b
 b2:b<=16
 sn:kD sn
 z1:0<=z
 z2:z<=9
 m:m < 127
 pt:pt < 127
 wy:Way wy
 wd1:0<=wd
 wd2:wd<=40
 f:f < 127
 x:XS x
def jb (fg pl b:Int) (sn:Str) (z:Int) (m pt:Nat) (wy:Str):List (Str × V):=[("figures", .int fg),("places", .int pl),("base", .int b),("sign", .str sn),("size", .int z),("mark", .str (T [m])),("point", .str (T [pt])),("way", .str wy)]
def nns:List Str:=["figures", "places", "base", "sign", "size", "mark", "point", "way"]
section
variable {H : Hp} {a C : Addr} {wd : Int} {f : Nat} {x : Str} {st : Bool} {fg pl b : Int} {sn : Str} {z : Int} {m pt : Nat} {wy : Str}
theorem zES {g:Str} (h:g ∉ nns):(jb fg pl b sn z m pt wy).lookup g=none:=by
 simp only [nns,mem_cons,not_mem_nil,or_false,not_or] at h
 obtain ⟨h1,h2,h3,h4,h5,h6,h7,h8⟩:=h
 exact (qF h1).trans ((qF h2).trans ((qF h3).trans ((qF h4).trans ((qF h5).trans ((qF h6).trans ((qF h7).trans ((qF h8).trans rfl)))))))
theorem JS {g:Str} (F:zc K H a C wd f x st (jb fg pl b sn z m pt wy)) (h:g ∉ bns) (l:(jb fg pl b sn z m pt wy).lookup g=some v) (n:g ∈ nns):xP K H a g v:=F.own h l n
theorem KQ (F:zc K H a C wd f x st (jb fg pl b sn z m pt wy)):xP K H a "figures" (.int fg):=JS F (by decide +kernel) yc (by decide +kernel)
theorem Wp (F:zc K H a C wd f x st (jb fg pl b sn z m pt wy)):xP K H a "places" (.int pl):=JS F (by decide +kernel) ((qF (by decide +kernel)).trans yc) (by decide +kernel)
theorem zDu (F:zc K H a C wd f x st (jb fg pl b sn z m pt wy)):xP K H a "base" (.int b):=JS F (by decide +kernel) ((qF (by decide +kernel)).trans ((qF (by decide +kernel)).trans yc)) (by decide +kernel)
theorem zDc (F:zc K H a C wd f x st (jb fg pl b sn z m pt wy)):xP K H a "sign" (.str sn):=JS F (by decide +kernel) ((qF (by decide +kernel)).trans ((qF (by decide +kernel)).trans ((qF (by decide +kernel)).trans yc))) (by decide +kernel)
theorem zEX (F:zc K H a C wd f x st (jb fg pl b sn z m pt wy)):xP K H a "size" (.int z):=JS F (by decide +kernel) ((qF (by decide +kernel)).trans ((qF (by decide +kernel)).trans ((qF (by decide +kernel)).trans ((qF (by decide +kernel)).trans yc)))) (by decide +kernel)
theorem zEp (F:zc K H a C wd f x st (jb fg pl b sn z m pt wy)):xP K H a "mark" (.str (T [m])):=JS F (by decide +kernel) ((qF (by decide +kernel)).trans ((qF (by decide +kernel)).trans ((qF (by decide +kernel)).trans ((qF (by decide +kernel)).trans ((qF (by decide +kernel)).trans yc))))) (by decide +kernel)
theorem zCS (F:zc K H a C wd f x st (jb fg pl b sn z m pt wy)):xP K H a "point" (.str (T [pt])):=JS F (by decide +kernel) ((qF (by decide +kernel)).trans ((qF (by decide +kernel)).trans ((qF (by decide +kernel)).trans ((qF (by decide +kernel)).trans ((qF (by decide +kernel)).trans ((qF (by decide +kernel)).trans yc)))))) (by decide +kernel)
theorem VR {g:Str} (F:zc K H a C wd f x st (jb fg pl b sn z m pt wy)) (h0:g ∉ bns) (h1:g ∉ nns):zDY H a C g:=F.meth h0 (zES h1)
end
local macro_rules | `(tactic| walk_at "fld2")=>`(tactic| first | (exact KQ (by walk_at "fm")) | (exact Wp (by walk_at "fm")) | (exact zDu (by walk_at "fm")) | (exact zDc (by walk_at "fm")) | (exact zEX (by walk_at "fm")) | (exact zEp (by walk_at "fm")) | (exact zCS (by walk_at "fm")) | (exact nf_way (by walk_at "fm")))
local macro_rules | `(tactic| walk_at "ins")=>`(tactic| exact VR (by walk_at "fm") (by decide +kernel) (by decide +kernel))
def qk (K:W.Frag) (C:Addr):Sp:=fun vs H Q _=>∃ (a:Addr) (fg pl b:Int) (sn:Str) (z:Int) (m pt:Nat) (wy:Str) (wd:Int) (f:Nat) (x:Str) (st:Bool) (n:Int),vs=[.ref a,.int n]/\zc K H a C wd f x st (jb fg pl b sn z m pt wy)/\QF fg pl b sn z m pt wy wd f x/\Q (.bl (decide (b ^ (fg+pl).toNat<=n))) H
variable {C:Addr} {fg pl wd:Int} {sn wy:Str} {st:Bool}
theorem Y5 {a:Addr} {b:Int} {pt:Nat} {f:Nat} {n:Int} (h1:zc K H a C wd f x st (jb fg pl b sn z m pt wy)) (h2:QF fg pl b sn z m pt wy wd f x) (q:Q (.bl (decide (b ^ (fg+pl).toNat<=n))) H):qk K C (.ref a::([.int n]++[])) H Q E:=⟨a,fg,pl,b,sn,z,m,pt,wy,wd,f,x,st,n,rfl,h1,h2,q⟩
local macro_rules | `(tactic| walk_at "rdc")=>`(tactic| ((with_reducible refine' Y5 ?h1 ?h2 ?_);(case h1=>walk_at "fm");(case h2=>assumption)))
def yZ (pl b:Int) (sn:Str) (z:Int) (m pt:Nat) (k:Int):List Nat:=sg sn (decide (k < 0)) (bdI k.natAbs b pl pt z m)
def JO (fg pl b:Int) (k:Int):Prop:=k.natAbs < b.toNat ^ (fg+pl).toNat
def Isw (sg:List Nat) (lo hi:Int) (t:List Nat):Prop:=(lo<=t.length/\(t.length:Int)<=hi) /\ ∀ c ∈ t,c ∈ sg
instance (sg:List Nat) (lo hi:Int) (t:List Nat):Decidable (Isw sg lo hi t):=by unfold Isw;infer_instance
inductive Fd where
 | num (fg pl b:Int) (sn:Str) (z:Int) (m pt:Nat) (wy:Str)
 | word (sg:List Nat) (lo hi:Int)
 | cho (ns:Ce)
def je (K:W.Frag):Sp:=fun vs H Q _=>∃ (a C:Addr) (wd:Int) (f:Nat) (x:Str) (st:Bool) (more:List (Str × V)) (t:List Nat),vs=[.ref a,.str (T t)]/\zc K H a C wd f x st more/\t.length<=400/\Q (.bl (st && decide (wd < t.length))) H
theorem WF {a:Addr} {f:Nat} {more:List (Str × V)} {t:List Nat} (h1:zc K H a C wd f x st more) (h2:t.length<=400) (q:Q (.bl (st && decide (wd < t.length))) H):je K (.ref a::([.str (T t)]++[])) H Q E:=⟨a,C,wd,f,x,st,more,t,rfl,h1,h2,q⟩
local macro_rules | `(tactic| walk_at "rdc")=>`(tactic| ((with_reducible refine' WF ?h1 ?h2 ?_);(case h1=>walk_at "fm");(case h2=>omega)))
def k8 (sg:List Nat) (lo hi:Int):List (Str × V):=[("signs", .str (T sg)),("least", .int lo),("most", .int hi)]
theorem zEt {sg:List Nat} {lo hi:Int} {m:Str} (h1:m ≠ "signs") (h2:m ≠ "least") (h3:m ≠ "most"):(k8 sg lo hi).lookup m=none:=(qF h1).trans ((qF h2).trans ((qF h3).trans rfl))
section
variable {H : Hp} {a C : Addr} {wd : Int} {f : Nat} {x : Str} {st : Bool} {sg : List Nat} {lo hi : Int}
theorem zCe (F:zc K H a C wd f x st (k8 sg lo hi)):xP K H a "signs" (.str (T sg)):=F.own (by decide +kernel) yc (mem_cons_self ..)
theorem zCZ (F:zc K H a C wd f x st (k8 sg lo hi)):xP K H a "least" (.int lo):=F.own (by decide +kernel) ((qF (by decide +kernel)).trans yc) (mem_cons_of_mem _ (mem_cons_self ..))
theorem zDe (F:zc K H a C wd f x st (k8 sg lo hi)):xP K H a "most" (.int hi):=F.own (by decide +kernel) ((qF (by decide +kernel)).trans ((qF (by decide +kernel)).trans yc)) (mem_cons_of_mem _ (mem_cons_of_mem _ (mem_cons_self ..)))
theorem VQ {m:Str} (F:zc K H a C wd f x st (k8 sg lo hi)) (h0:m ∉ bns) (h1:m ≠ "signs") (h2:m ≠ "least") (h3:m ≠ "most"):zDY H a C m:=F.meth h0 (zEt h1 h2 h3)
end
local macro_rules | `(tactic| walk_at "fld2")=>`(tactic| first | (exact zCe (by walk_at "fm")) | (exact zCZ (by walk_at "fm")) | (exact zDe (by walk_at "fm")))
local macro_rules | `(tactic| walk_at "ins")=>`(tactic| exact VQ (by walk_at "fm") (by decide +kernel) (by decide +kernel) (by decide +kernel) (by decide +kernel))
include Z in
theorem j6:Has P w K mg base "_law_cell_at" 1 ["_law_script", "_law_k"] (kR K):=by
 refine jm Z.kn Z.f0 (l2N (by intros;rfl)) fun fq fd F=>?_
 refine F.ok JV (fun vs H Q E=>?_) (fun _ _ _ s H vs Q E hr h=>?_)
 ·walk_at "ln"
 obtain ⟨a,ns,k,rfl,hS,hk,q⟩:=h
 refine ⟨_,zC (zm (zQ ZZ (pv 1) (zI jg Z.am rfl z4 (zA (pv 0) (zD))) (zU _)) (zE (zK (zR zi (pv 0) (pv 1) (fun _ _=>rfl)))) (zV))
  (zE (zK (zB))),?_⟩
 walk_at "st"
 walk_at "rd"
 ·rename_i hc
  rw [length_map] at hc
  exact ZT hS hk (by rw [length_map];omega) fun x hx=>by
   obtain ⟨v,_,rfl⟩:=List.mem_map.mp (mem_of_getElem? hx)
   exact q v
 ·exact q 0
include Z in
theorem zL:Has P w K mg base "_law_pick" 1 ["_law_cell", "_law_salt", "_law_many"] (kx K):=by
 refine jm Z.kn Z.f1 (l3N (by intros;rfl)) fun fq fd F=>?_
 refine F.ok yP (fun vs H Q E=>?_) (fun _ _ _ s H vs Q E hr h=>?_)
 ·walk_at "ln"
 obtain ⟨c,t,m,rfl,ht,hm,q⟩:=h
 refine ⟨_,zC (zm (PW.pt (yU (zQ Zc (pv 0) (VN (k:=1000000000000000000) (by unfold zGP;decide) (by decide +kernel)) (zU _)) (xH (zQ Zc (zM XM (pv 0) (zM qH (zB) (pv 1))) (zB) (zU _))))) (zE (zK (zM qJ (zM qJ (zM XM (pv 0) (zM qH (zB) (pv 1))) (zB)) (pv 2)))) (zV))
  (zC (zJ (i:=3) yP.nd rfl (Or.inl rfl) (zM qJ (zM zp (zM zp (zM qJ (pv 0) (zB)) (zB)) (zM qH (zB) (pv 1))) (zB)))
  (zC (zJ (i:=3) yP.nd rfl (Or.inl rfl) (zM qJ (zM qH (pv 3) (pv 3)) (zB)))
  (zC (zJ (i:=4) yP.nd rfl (Or.inl rfl) (zM qJ (zM qH (zM zp (pv 3) (zB)) (zM zp (zM zp (zM qP (pv 3) (zB)) (zB)) (pv 1))) (zB)))
  (zE (zK (zM qJ (zM qP (pv 4) (zB)) (pv 2))))))),?_⟩
 walk_at "st"
 have n0 : ∀ a:Int,0<=a % m/\a % m < m:=fun a=>⟨emod_nonneg _ (by omega),emod_lt_of_pos _ hm⟩
 unfold pk pkA at q
 walk_at "rd"
 ·rename_i c1 c2
  rw [if_pos ⟨c1,c2⟩] at q
  exact q (n0 _).1 (n0 _).2
 ·rename_i c1 c2
  rw [if_neg (fun y=>c2 y.2)] at q
  exact q (n0 _).1 (n0 _).2
 ·rename_i c1
  rw [if_neg (fun y=>c1 y.1)] at q
  exact q (n0 _).1 (n0 _).2
include Z in
theorem X0:Has P w K mg base "pads_of" 1 ["length", "width", "side"] (Ja K):=by
 refine jm Z.kn Z.f2 (l3N (by intros;rfl)) fun fq fd F=>?_
 refine F.ok Jt (fun vs H Q E=>?_) (fun _ _ _ s H vs Q E hr h=>?_)
 ·walk_at "ln"
 obtain ⟨n,w,x,rfl,hs,h0,hw,q⟩:=h
 refine ⟨_,zC (zJ (i:=3) Jt.nd rfl (Or.inl rfl) (zI (x9 rfl) Z.aq rfl YX (zA (zB) (zA (zM jJ (pv 1) (pv 0)) (zD)))))
  (zC (zm (zQ qd (pv 2) (zY) (zU _)) (zE (zK (qh (zA (zB) (zA (pv 3) (zD)))))) (zV))
  (zC (zm (zQ qd (pv 2) (zY) (zU _)) (zE (zK (qh (zA (pv 3) (zA (zB) (zD)))))) (zV))
  (zE (zK (qh (zA (zM qP (pv 3) (zB)) (zA (zM jJ (pv 3) (zM qP (pv 3) (zB))) (zD)))))))),?_⟩
 walk_at "st"
 have b:=Z8 n w h0 hw
 have e:pB x n w=lk n w - pA x n w:=rfl
 rcases hs with rfl | rfl | rfl
 ·rw [pAl] at q e
  walk_at "rd"
  rename_i k hk p' H' g' e'
  exact q _ _ g' (by rw [e',show k=pB "left" n w by omega])
 ·rw [pAr] at q e
  walk_at "rd"
  rename_i k hk p' H' g' e'
  exact q _ _ g' (by rw [e',show k=lk n w by omega,show pB "right" n w=0 by omega])
 ·rw [pAm] at q e
  walk_at "rd"
  rename_i k hk p' H' g' e'
  exact q _ _ g' (by rw [e',e,show k=lk n w by omega])
include Z in
theorem zCI:Has P w K mg base "padded" 2 ["text", "width", "fill", "side"] (Yc K):=by
 refine jm Z.kn Z.f3 (l4N (by intros;rfl)) fun fq fd F=>?_
 refine F.ok X4 (fun vs H Q E=>?_) (fun _ _ _ s H vs Q E hr h=>?_)
 ·walk_at "ln"
 obtain ⟨t,w,f,x,rfl,hs,h0,hw,q⟩:=h
 refine ⟨_,zC (zJ (i:=4) X4.nd rfl (Or.inl rfl) (zF (X0 Z) hr rfl (zA (zI zd Z.am rfl z4 (zA (pv 0) (zD))) (zA (pv 1) (zA (pv 3) (zD))))))
  (zE (zK (zM zk (zM zk (zM ZV (pv 2) (zR zT (pv 4) (zB) (fun _ _=>rfl))) (pv 0)) (zM ZV (pv 2) (zR zT (pv 4) (zB) (fun _ _=>rfl)))))),?_⟩
 walk_at "st"
 have b:=xl (n:=t.length) hs (by omega) hw
 have b':=b
 obtain ⟨b1,b2,b3,_⟩:=b'
 have bl:=Z8 t.length w (by omega) hw
 walk_at "rd"
 exact q _ (by assumption)
local macro_rules | `(tactic| walk_at "rdc")=>`(tactic| ((with_reducible refine' KY ?h1 ?h2 ?h3 ?h4 ?_);(case h1|h2|h3|h4=>omega)))
include Z in
theorem XB:Has P w K mg base "power_of" 1 ["base", "times"] (Qf K):=by
 refine jm Z.kn Z.f4 (l2N (by intros;rfl)) fun fq fd F=>?_
 refine F.ok yH (fun vs H Q E=>?_) (fun _ _ _ s H vs Q E hr h=>?_)
 ·walk_at "ln"
 obtain ⟨b,t,rfl,h1,h2,h3,h4,q⟩:=h
 refine ⟨_,zC (zJ (i:=2) yH.nd rfl (Or.inl rfl) (zB))
  (zC (xx PassesOwn.never rfl (yA rfl Z.an (zA (pv 1) (zD))) (zg (i:=3) yH.nd rfl (Or.inl rfl)) (zE (zJ (i:=2) yH.nd rfl (Or.inl rfl) (zM qH (pv 2) (pv 0)))))
  (zE (zK (pv 2)))),?_⟩
 walk_at "st"
 walk_at "rd"
 refine Xl (by omega) (by omega) (fun i σ H'=>H'=H /\ ∃ r,σ=[some (.int b),some (.int t),some (.int (b ^ i)),r]) ⟨rfl,none,by rw [Int.pow_zero];rfl⟩ ?_ ?_
 ·rintro i σ H' hi ⟨rfl,r,rfl⟩
  have z:=zHu (n:=i) h1 h2 (by omega)
  walk_at "rd"
  exact ⟨rfl,some (.int (0+i)),by rw [pow_succ];rfl⟩
 ·rintro σ H' ⟨rfl,r,rfl⟩
  walk_at "rd"
  exact q
include Z in
theorem Zt:Has P w K mg base "parts_of" 1 ["text", "size", "between"] (ZH K):=by
 refine jm Z.kn Z.f5 (l3N (by intros;rfl)) fun fq fd F=>?_
 refine F.ok yK (fun vs H Q E=>?_) (fun _ _ _ s H vs Q E hr h=>?_)
 ·walk_at "ln"
 obtain ⟨a,z,g,rfl,h1,h2,h3,h4,h5,q⟩:=h
 refine ⟨_,zC (zJ (i:=3) yK.nd rfl (Or.inl rfl) (zt (zD)))
  (zC (zJ (i:=4) yK.nd rfl (Or.inl rfl) (zI zd Z.am rfl z4 (zA (pv 0) (zD))))
  (zC (QM PassesOwn.never (zQ Zc (pv 4) (zB) (zU _)) (zC (jo (kv PySem.F.plainAttrs_list PySem.F.slot_list_append PySem.F.type_list_append yp (pv 3) (zA (zj jH (pv 0) (zh (zI (x9 rfl) Z.aq rfl YX (zA (zB) (zA (zM jJ (pv 4) (pv 1)) (zD))))) (zh (pv 4))) (zD))))
  (zE (zJ (i:=4) yK.nd rfl (Or.inl rfl) (zM jJ (zM jJ (pv 4) (pv 1)) (pv 2))))))
  (zC (jo (We PySem.F.plainAttrs_list PySem.F.slot_list_reverse PySem.F.type_list_reverse Kg (pv 3)))
  (zE (zK (pv 3)))))),?_⟩
 walk_at "st"
 refine zGq (zHI (zGx (zGh (zD7 (by decide) fun l hl=>?_))))
 walk_at "rd"
 refine XO (fun k σ H'=>∃ (e:Int) (ps:List (List Nat)),σ=[some (.str (T a)),some (.int z),some (.int g),some (.ref l),some (.int e)]/\H'=upd H l (.lst (ps.map fun l=>V.str (T l)))/\k=e.toNat/\ps.length+e.toNat<=a.length/\e<=a.length/\pcs a z.toNat g.toNat a.length=pcs a z.toNat g.toNat e.toNat++ps.reverse) ⟨_,a.length,[],rfl,rfl,rfl,by simp,Int.le_refl _,by simp⟩ ?_
 rintro k σ H' ⟨e,ps,rfl,rfl,rfl,b1,b2,ep⟩
 walk_at "rd"
 ·rename_i hc k' hk'
  refine Xn zS (qr (by rw [length_map];omega)) ?_
  rw [ql]
  walk_at "rd"
  refine ⟨(e - z - g).toNat,by omega,e - z - g,ps++[(a.take e.toNat).drop k'.toNat],rfl,by rw [map_append];rfl,rfl,by rw [length_append,length_singleton];omega,by omega,?_⟩
  rw [ep,QR (by omega) (by omega),List.reverse_append,tns (by omega),tns (by omega),show k'.toNat=e.toNat - z.toNat by rw [<- tns (by omega)];omega]
  simp
 ·rename_i hc
  refine zAQ zS ?_
  rw [ql]
  walk_at "rd"
  refine q _ _ (qR (zW.refl _) hl) ?_
  rw [zS,ep,show e.toNat=0 by omega,xZ,List.nil_append,List.map_reverse]
include Z in
theorem W4:Has P w K mg base "grouped" 2 ["text", "size", "mark"] (Jg K):=by
 refine jm Z.kn Z.f6 (l3N (by intros;rfl)) fun fq fd F=>?_
 refine F.ok K8 (fun vs H Q E=>?_) (fun _ _ _ s H vs Q E hr h=>?_)
 ·walk_at "ln"
 obtain ⟨a,z,m,rfl,h1,h2,h5,q⟩:=h
 refine ⟨_,zC (zm (zQ qd (pv 1) (zB) (zU _)) (zE (zK (pv 0))) (zV))
  (zE (zK (kv PySem.F.plainAttrs_str PySem.F.slot_str_join PySem.F.type_str_join QK (pv 2) (zA (zF (Zt Z) hr rfl (zA (pv 0) (zA (pv 1) (zA (zB) (zD))))) (zD))))),?_⟩
 walk_at "st"
 have bd:=fun hz:0 < z.toNat=>Vm (a:=a) (g:=0) hz a.length a.length (Nat.le_refl _)
 walk_at "rd"
 ·rename_i hc
  subst hc
  have q':=q _ (zW.refl _)
  rw [show Int.toNat 0=0 from rfl,ZY] at q'
  exact q'
 ·rename_i hc p' H' g' e'
  have b:=bd (by omega)
  refine Xe e' (by rw [JY,length_singleton,show Int.toNat 0=0 from rfl];omega) ?_
  rw [JY,show Int.toNat 0=0 from rfl,zI1 (by omega)]
  exact q _ g'
include Z in
theorem Qc:Has P w K mg base "ends_of" 1 ["style", "below"] (Jd K):=by
 have sty:Sty w K j5:=Z.aG
 refine jm Z.kn Z.f7 (l2N (by intros;rfl)) fun fq fd F=>?_
 refine F.ok K7 (fun vs H Q E=>?_) (fun _ _ _ s H vs Q E hr h=>?_)
 ·walk_at "ln"
 obtain ⟨x,b,rfl,hx,q⟩:=h
 refine ⟨_,zC (zm (qc (pv 1)) (zE (zK (zR zT (zR zFP (kh rfl Z.aC (v:=.ref j5) rfl) (pv 0) (fun _ _=>rfl)) (zB) (fun _ _=>rfl)))) (zV))
  (zE (zK (zR zT (zR zFP (kh rfl Z.aC (v:=.ref j5) rfl) (pv 0) (fun _ _=>rfl)) (zB) (fun _ _=>rfl)))),?_⟩
 walk_at "st"
 obtain ⟨p,a,c,kd,sq⟩:=sty x hx
 cases b with
 | true =>
  walk_at "rd"
  refine zHW kd ?_
  walk_at "rd"
  exact zFJ (sq H).1 rfl (q _ (sq H).2.2)
 | false =>
  walk_at "rd"
  refine zHW kd ?_
  walk_at "rd"
  exact zFJ (sq H).1 rfl (q _ (sq H).2.1)
include Z in
theorem zBf:Has P w K mg base "signed" 2 ["body", "style", "below"] (Yk K):=by
 refine jm Z.kn Z.f8 (l3N (by intros;rfl)) fun fq fd F=>?_
 refine F.ok Yo (fun vs H Q E=>?_) (fun _ _ _ s H vs Q E hr h=>?_)
 ·walk_at "ln"
 obtain ⟨l,x,b,rfl,hx,hl,q⟩:=h
 refine ⟨_,zC (zJ (i:=3) Yo.nd rfl (Or.inl rfl) (zF (Qc Z) hr rfl (zA (pv 1) (zA (pv 2) (zD)))))
  (zE (zK (zM zk (zM zk (zR zT (pv 3) (zB) (fun _ _=>rfl)) (pv 0)) (zR zT (pv 3) (zB) (fun _ _=>rfl))))),?_⟩
 walk_at "st"
 have ln:=Jb hx b
 walk_at "rd"
 exact q
include Z in
theorem xw:Has P w K mg base "stands_between_figures" 1 ["body"] (qu K):=by
 refine jm Z.kn Z.f9 (l1N (by intros;rfl)) fun fq fd F=>?_
 refine F.ok xj (fun vs H Q E=>?_) (fun _ _ _ s H vs Q E hr h=>?_)
 ·walk_at "ln"
 obtain ⟨l,rfl,al,hl,q1,q2⟩:=h
 refine ⟨_,zE (zK (Qo (qY QY (pv 0) (qi (l:=[]) (by decide +kernel)) (zU _)) (Qo (qY zBM (zR jz (pv 0) (zB) (fun _ _=>rfl)) (kh rfl Z.aD (v:=.str "0123456789abcdef") ⟨_,rfl⟩) (by with_unfolding_all rfl)) (Q9 (qY zBM (zR jz (pv 0) (k7 xE (zB)) (fun _ _=>rfl)) (kh rfl Z.aD (v:=.str "0123456789abcdef") ⟨_,rfl⟩) (by with_unfolding_all rfl)))))),?_⟩
 walk_at "st"
 unfold Fg at q1 q2
 rcases Nat.eq_zero_or_pos l.length with p | p
 ·have e:=List.eq_nil_of_length_eq_zero p
  subst e
  walk_at "rd"
  exact q2 fun z=>z.1 rfl
 ·have c0:=KB al (i:=0) p
  have c1:=KB al (i:=l.length - 1) (by omega)
  have ne:l≠[]:=List.length_pos_iff.mp p
  walk_at "rd"
  ·rename_i h1 h2
   by_cases h3:0<=fv (l.getD (l.length - 1) 0)
   ·rw [decide_eq_true h3];exact q1 ⟨ne,h2,h3⟩
   ·rw [decide_eq_false h3];exact q2 fun z=>h3 z.2.2
  ·rename_i h1 h2
   exact q2 fun z=>h2 z.2.1
  ·rename_i h1
   exact absurd h1 (by rw [decide_eq_false ne];decide)
include Z in
theorem WG:zFT P w K mg base "unsigned" 3 ["core", "style"] (VW K):=by
 have Xc:Nm K "NoCore" qQ:=Z.bX
 refine jm Z.kn Z.aR (l2N (by intros;rfl)) fun fq fd F=>?_
 refine F.okX yF (fun vs H Q E=>?_) (fun _ _ _ s H vs Q E hr h tk=>?_)
 ·walk_at "ln"
 refine ⟨_,zC (xx PassesOwn.leaving rfl (zGj (qh (zA (yJ) (zA (yJ) (zD))))) (zg (i:=2) yF.nd rfl (Or.inl rfl)) (zC (zJ (i:=3) yF.nd rfl (Or.inl rfl) (zF (Qc Z) hr rfl (zA (pv 1) (zA (pv 2) (zD)))))
  (zC (zJ (i:=4) yF.nd rfl (Or.inl rfl) (zj jH (pv 0) (zh (zI zd Z.am rfl z4 (zA (zR zT (pv 3) (zB) (fun _ _=>rfl)) (zD)))) (zh (zM jJ (zI zd Z.am rfl z4 (zA (pv 0) (zD))) (zI zd Z.am rfl z4 (zA (zR zT (pv 3) (zB) (fun _ _=>rfl)) (zD)))))))
  (zE (zm (PW.pt (yU (qc (zF (xw Z) hr rfl (zA (pv 4) (zD)))) (xH (zQ qd (zF (zBf Z) hr rfl (zA (pv 4) (zA (pv 1) (zA (pv 2) (zD))))) (pv 0) (zU _))))) (zE (zK (qh (zA (pv 2) (zA (pv 4) (zD)))))) (zV))))))
  (zE (yN tk rfl Z.bS rfl Z.af (zA (zY) (zD)))),?_⟩
 obtain ⟨t,x,rfl,hx,al,hl,q1,q2⟩:=h
 all_goals walk_at "st"
 have q2':=fun n0 n1 H' g=>q2 n0 n1 qQ H' Xc g
 walk_at "rd"
 rename_i p0 H0 g0 e0
 refine zEE (SqT.of e0) (fun i σ H'=>H'=H0/\(1<=i -> ¬ Sgd x false t)/\(2<=i -> ¬ Sgd x true t) /\ ∃ r1 r2 r3:Option V,σ=[some (.str (T t)),some (.str x),r1,r2,r3]) ⟨rfl,fun z=>absurd z (by omega),fun z=>absurd z (by omega),none,none,none,rfl⟩ (fun i σ H' _ z=>by rw [z.1];exact SqT.of e0) ?_ ?_
 ·rintro i y σ H' hi ⟨rfl,n0,n1,r1,r2,r3,rfl⟩
  have hm:=mem_of_getElem? hi
  simp only [mem_cons,not_mem_nil,or_false] at hm
  have hy : ∃ b:Bool,y = .bl b/\(b=false↔i=0)/\(b=true↔i=1):=by
   match i,hi with
   | 0,hi=>cases hi;exact ⟨false,rfl,by simp,by simp⟩
   | 1,hi=>cases hi;exact ⟨true,rfl,by simp,by simp⟩
   | i+2,hi=>cases hi
  obtain ⟨b,rfl,hb0,hb1⟩:=hy
  have sl:=Jb hx b
  have nxt : ¬ Sgd x b t->(1<=i+1 -> ¬ Sgd x false t)/\(2<=i+1 -> ¬ Sgd x true t):=fun h=>by
   cases b
   ·have:=hb0.mp rfl;subst this
    exact ⟨fun _=>h,fun z=>absurd z (by omega)⟩
   ·have:=hb1.mp rfl;subst this
    exact ⟨fun _=>n0 (by omega),fun _=>h⟩
  have ab:Asc (bod x b t):=zD0 al
  have lb:=zEO (x:=x) (b:=b) (t:=t)
  rcases Nat.eq_zero_or_pos t.length with tz | tz
  ·have e:=List.eq_nil_of_length_eq_zero tz
   subst e
   have nb : ¬ Sgd x b []:=fun z=>by
    have:=List.length_pos_iff.mpr z.1.1
    rw [lb] at this;simp at this
   have anil:Asc []:=Asc.nil
   walk_at "rd"
   ·rename_i fg _ _ _ _ _
    exact absurd rfl fg.1
   ·rename_i fg _
    exact absurd rfl fg.1
   ·exact ⟨rfl,(nxt nb).1,(nxt nb).2,_,_,_,rfl⟩
  ·have eb:(t.take ((t.length:Int) - (stT x b).length).toNat).drop ((stL x b).length:Int).toNat=bod x b t:=by
    unfold bod;rw [toNat_natCast,show ((t.length:Int) - (stT x b).length).toNat=t.length - (stT x b).length by omega]
   walk_at "rd"
   rw [eb]
   walk_at "rd"
   ·rename_i fg hc p1 H1 g1 e1
    exact q1 b ⟨fg,hc⟩ _ _ (g0.trans g1) e1
   ·rename_i fg hc
    have n:=nxt fun z=>hc z.2
    exact ⟨rfl,n.1,n.2,_,_,_,rfl⟩
   ·rename_i fg
    have n:=nxt fun z=>fg z.1
    exact ⟨rfl,n.1,n.2,_,_,_,rfl⟩
 ·rintro σ H' ⟨rfl,n0,n1,r1,r2,r3,rfl⟩
  walk_at "rd"
  exact ⟨qm (by decide),q2' (n0 (by decide)) (n1 (by decide)) _ g0⟩
include Z in
theorem XA:Has P w K mg base "is_whole" 1 ["thing"] (Qa K):=by
 refine jm Z.kn Z.aS (l1N (by intros;rfl)) fun fq fd F=>?_
 refine F.ok VU (fun vs H Q E=>?_) (fun _ _ _ s H vs Q E hr h=>?_)
 ·walk_at "ln"
 obtain ⟨i,rfl,q⟩:=h
 refine ⟨_,zE (zK (Qo (zI xA Z.ao rfl z8 (zA (pv 0) (zA (yO rfl Z.au zCh (v:=.ty "int") rfl) (zD)))) (Q9 (zCi (zI xA Z.ao rfl z8 (zA (pv 0) (zA (yO rfl Z.av Wy (v:=.ty "bool") rfl) (zD)))))))),?_⟩
 walk_at "st"
 walk_at "rd"
 exact q
include Z in
theorem QC:Has P w K mg base "common_divisor" 1 ["one", "other"] (xz K):=by
 refine jm Z.kn Z.aT (l2N (by intros;rfl)) fun fq fd F=>?_
 refine F.ok qC (fun vs H Q E=>?_) (fun _ _ _ s H vs Q E hr h=>?_)
 ·walk_at "ln"
 obtain ⟨a,b,rfl,q⟩:=h
 refine ⟨_,zC (zJ (i:=2) qC.nd rfl (Or.inl rfl) (zI x5 Z.aw rfl Jw (zA (pv 0) (zD))))
  (zC (zJ (i:=3) qC.nd rfl (Or.inl rfl) (zI x5 Z.aw rfl Jw (zA (pv 1) (zD))))
  (zC (QM PassesOwn.never (zQ QY (pv 3) (zB) (zU _)) (zC (zJ (i:=4) qC.nd rfl (Or.inl rfl) (zM qJ (pv 2) (pv 3)))
  (zC (zJ (i:=2) qC.nd rfl (Or.inl rfl) (pv 3))
  (zE (zJ (i:=3) qC.nd rfl (Or.inl rfl) (pv 4))))))
  (zE (zK (pv 2))))),?_⟩
 walk_at "st"
 walk_at "rd"
 rename_i k1 hk1 k2 hk2
 have ha:=zEm hk1 hk2
 refine XO (fun m σ H'=>H'=H /\ ∃ (g l:Int) (r:Option V),σ=[some (.int a),some (.int b),some (.int g),some (.int l),r]/\0<=g/\0<=l/\Int.gcd g l=Int.gcd a b/\m=l.toNat) ⟨_,rfl,_,_,_,rfl,ha.1,ha.2.1,ha.2.2,rfl⟩ ?_
 rintro m σ H' ⟨rfl,g,l,r,rfl,hg,hl,hgl,rfl⟩
 walk_at "rd"
 ·rename_i hc
  have:l=0:=by omega
  subst this
  have e:g=((Int.gcd a b:Nat):Int):=by rw [<- hgl];simp;omega
  rw [e];exact q
 ·rename_i hc
  have hc':0 < l:=by omega
  have h1:=emod_nonneg g (show l≠0 by omega)
  have h2:=emod_lt_of_pos g hc'
  exact ⟨_,by omega,rfl,_,_,_,rfl,by omega,h1,by rw [zBR hg hc'];exact hgl,rfl⟩
include Z in
theorem Y6:zEs P w K mg base "ungrouped" 3 ["text", "size", "mark"] (Yr K):=by
 have ZQ:Nm K "NoGroups" zw:=Z.bV
 refine jm Z.kn Z.aU (l3N (by intros;rfl)) fun fq fd F=>?_
 refine F.okX2 Zn (fun vs H Q E=>?_) (fun _ _ _ s H vs Q E hr h tk=>?_)
 ·walk_at "ln"
 refine ⟨_,zC (zJ (i:=3) Zn.nd rfl (Or.inl rfl) (Vh (zQ qd (pv 1) (zB) (zU _)) (pv 0) (kv PySem.F.plainAttrs_str PySem.F.slot_str_join PySem.F.type_str_join QK (qi (l:=[]) (by decide +kernel)) (zA (zF (Zt Z) hr rfl (zA (pv 0) (zA (pv 1) (zA (zB) (zD))))) (zD)))))
  (zC (zm (PW.pt (ZD (qw (XV X7 X7 (zB) (zI zd Z.am rfl z4 (zA (pv 3) (zD))) (kh rfl Z.aE (v:=.int 40) ⟨_,rfl⟩))) (yj (zQ QY (zF (W4 Z) hr rfl (zA (pv 3) (zA (pv 1) (zA (pv 2) (zD))))) (pv 0) (zU _))))) (zE (yN tk rfl Z.bQ rfl Z.ad (zA (zY) (zD)))) (zV))
  (zE (zK (pv 3)))),?_⟩
 obtain ⟨t,z,m,rfl,h1,h2,h3,q1,q2⟩:=h
 all_goals walk_at "st"
 have lu:=zGt (z:=z.toNat) (t:=t)
 have q2':=fun b H' g=>q2 b zw H' ZQ g
 rcases Decidable.em (z=0) with hz | hz
 ·subst hz
  have e:ug (Int.toNat 0) t=t:=rfl
  have eg:gr (Int.toNat 0) m t=t:=ZY
  unfold GG at q1 q2'
  rw [e,eg] at q1 q2'
  walk_at "rd"
  ·exact q1 ⟨by omega,by omega,rfl⟩ _ (by assumption)
  all_goals exact ⟨qm (by decide),q2' (fun z=>by have:=z.1;have:=z.2.1;omega) _ (zW.refl _)⟩
 ·have bd:=Vm (a:=t) (g:=1) (show 0 < z.toNat by omega) t.length t.length (Nat.le_refl _)
  walk_at "rd"
  rename_i p' H' g' e'
  refine Xe e' (by rw [JY,length_nil,show Int.toNat 1=1 from rfl];omega) ?_
  rw [JY,zA7,show Int.toNat 1=1 from rfl,zHG (by omega)]
  walk_at "rd"
  ·exact q1 ⟨by omega,by omega,by assumption⟩ _ (by walk_at "sm")
  ·rename_i hc
   exact ⟨qm (by decide),q2' (fun z=>hc z.2.2) _ (by walk_at "sm")⟩
  all_goals exact ⟨qm (by decide),q2' (fun z=>by have:=z.1;have:=z.2.1;omega) _ (by walk_at "sm")⟩
include Z in
theorem VX:zEs P w K mg base "number_of" 1 ["text", "base"] (Yg K):=by
 have km:Nm K "NoFigures" zl:=Z.bU
 refine jm Z.kn Z.aV (l2N (by intros;rfl)) fun fq fd F=>?_
 refine F.okX2 jj (fun vs H Q E=>?_) (fun _ _ _ s H vs Q E hr h tk=>?_)
 ·walk_at "ln"
 refine ⟨_,zC (zm (PW.pt (ZD (qw (qc (zI xA Z.ao rfl z8 (zA (pv 0) (zA (yO rfl Z.ap zA1 (v:=.ty "str") rfl) (zD)))))) (yj (qw (XV X7 X7 (zB) (zI zd Z.am rfl z4 (zA (pv 0) (zD))) (kh rfl Z.aF (v:=.int 240) ⟨_,rfl⟩)))))) (zE (yN tk rfl Z.bP rfl Z.ac (zA (zY) (zD)))) (zV))
  (zC (zJ (i:=2) jj.nd rfl (Or.inl rfl) (zB))
  (zC (xx PassesOwn.leaving rfl (Y2 (pv 0)) (zg (i:=3) jj.nd rfl (Or.inl rfl)) (zC (zJ (i:=4) jj.nd rfl (Or.inl rfl) (kv PySem.F.plainAttrs_str PySem.F.slot_str_find PySem.F.type_str_find Vs (kh rfl Z.aD (v:=.str "0123456789abcdef") ⟨_,rfl⟩) (zA (pv 3) (zD))))
  (zC (zm (PW.pt (ZD (zQ ZZ (pv 4) (zB) (zU _)) (yj (zQ zEn (pv 4) (pv 1) (zU _))))) (zE (yN tk rfl Z.bP rfl Z.ac (zA (zY) (zD)))) (zV))
  (zE (zJ (i:=2) jj.nd rfl (Or.inl rfl) (zM zp (zM qH (pv 2) (pv 1)) (pv 4)))))))
  (zE (zK (pv 2))))),?_⟩
 obtain ⟨l,b,rfl,al,h1,h2,h3,h4,q1,q2⟩:=h
 all_goals walk_at "st"
 have q2':=fun n=>q2 n zl km
 walk_at "rd"
 refine zEi (fun i σ H'=>H'=H/\xR b (l.take i) /\ ∃ r1 r2:Option V,σ=[some (.str (T l)),some (.int b),some (.int (val b (l.take i))),r1,r2]) ⟨rfl,by rw [List.take_zero];exact fun _ z=>(nomatch z),none,none,rfl⟩ ?_ ?_
 ·rintro i c σ H' hi ⟨rfl,hf,r1,r2,rfl⟩
  have hm:=mem_of_getElem? hi
  have hc1:=al c hm
  walk_at "rd"
  ·exact ⟨qm (by decide),q2' (fun z=>by have:=(z c hm).2.1;omega)⟩
  ·exact ⟨qm (by decide),q2' (fun z=>by have:=(z c hm).2.2;omega)⟩
  ·refine ⟨rfl,hf.snoc hi hc1 (by omega) (by omega),some (.str (T [c])),some (.int (fv c)),?_⟩
   rw [take_succ,hi,show (some c).toList=[c] from rfl,ZL];rfl
 ·rintro σ H' ⟨rfl,hf,r1,r2,rfl⟩
  rw [take_length] at hf
  walk_at "rd"
  rw [take_length];exact q1 hf
include Z in
theorem VT:zFT P w K mg base "whole_end" 1 ["body", "places", "point"] (Yh K):=by
 have kB:Nm K "NoBody" qI:=Z.bW
 refine jm Z.kn Z.aW (l3N (by intros;rfl)) fun fq fd F=>?_
 refine F.okX Zw (fun vs H Q E=>?_) (fun _ _ _ s H vs Q E hr h tk=>?_)
 ·walk_at "ln"
 refine ⟨_,zC (zm (zQ qd (pv 1) (zB) (zU _)) (zE (zK (zI zd Z.am rfl z4 (zA (pv 0) (zD))))) (zV))
  (zC (zJ (i:=3) Zw.nd rfl (Or.inl rfl) (zM jJ (zM jJ (zI zd Z.am rfl z4 (zA (pv 0) (zD))) (pv 1)) (zB)))
  (zC (zm (PW.pt (ZD (zQ ZZ (pv 3) (zB) (zU _)) (yj (zQ QY (zR jz (pv 0) (pv 3) (fun _ _=>rfl)) (pv 2) (zU _))))) (zE (yN tk rfl Z.bR rfl Z.ae (zA (zY) (zD)))) (zV))
  (zE (zK (pv 3))))),?_⟩
 obtain ⟨t,p,pt,rfl,h1,h2,h3,q1,q2⟩:=h
 all_goals walk_at "st"
 have q2':=fun n=>q2 n qI kB
 walk_at "rd"
 ·rename_i hc
  subst hc
  exact q1 (.inl rfl)
 ·exact ⟨qm (by decide),q2' (fun h=>h.elim (fun h=>by omega) fun h=>by have:=h.1;omega)⟩
 ·rename_i hc
  have e1:((t.length:Int) - p - 1).toNat=t.length - p.toNat - 1:=by omega
  rw [e1] at hc
  have e2:((jO p.toNat t).length:Int)=(t.length:Int) - p - 1:=by unfold jO;rw [if_neg (by omega),length_take];omega
  have q':=q1 (.inr ⟨by omega,by simpa using hc⟩)
  rw [e2] at q';exact q'
 ·rename_i hc
  have e1:((t.length:Int) - p - 1).toNat=t.length - p.toNat - 1:=by omega
  rw [e1] at hc
  exact ⟨qm (by decide),q2' (fun h=>h.elim (fun h=>by omega) fun h=>hc (by rw [h.2]))⟩
include Z in
theorem VD:zFT P w K mg base "number_in" 4 ["body", "base", "places", "point", "size", "mark"] (YB K):=by
 have ZQ:Nm K "NoGroups" zw:=Z.bV
 have km:Nm K "NoFigures" zl:=Z.bU
 have kB:Nm K "NoBody" qI:=Z.bW
 have xg:W.exmAny K (.ref zw) [.ref zw,.ref zl]=some true:=Z.xg
 have xf:W.exmAny K (.ref zl) [.ref zw,.ref zl]=some true:=Z.xf
 refine jm Z.kn Z.aX (l6N (by intros;rfl)) fun fq fd F=>?_
 refine F.okX xX (fun vs H Q E=>?_) (fun _ _ _ s H vs Q E hr h tk=>?_)
 ·walk_at "ln"
 refine ⟨_,zC (zJ (i:=6) xX.nd rfl (Or.inl rfl) (zBy (VT Z) YH hr rfl (zA (pv 0) (zA (pv 2) (zA (pv 3) (zD))))))
  (zC (zDh rfl rfl rfl Z.bR zEC (fun _=>PassesOwnAt.leaving) rfl Z.ad rfl Z.ac rfl Z.ae (fun _ _ _=>zC (zJ (i:=7) xX.nd rfl (Or.inl rfl) (Yb (Y6 Z) hr rfl (zA (zj jH (pv 0) (qO) (zh (pv 6))) (zA (pv 4) (zA (pv 5) (zD))))))
  (zE (zJ (i:=8) xX.nd rfl (Or.inl rfl) (Yb (VX Z) hr rfl (zA (zM zk (pv 7) (zj jH (pv 0) (zh (zM zp (pv 6) (zB))) (qO))) (zA (pv 1) (zD))))))))
  (zC (zm (PW.pt (yU (zQ Zc (zI zd Z.am rfl z4 (zA (pv 7) (zD))) (zB) (zU _)) (xH (zQ qd (zR jz (pv 7) (zB) (fun _ _=>rfl)) (qi (l:=[48]) (by decide +kernel)) (zU _))))) (zE (yN tk rfl Z.bR rfl Z.ae (zA (zY) (zD)))) (zV))
  (zE (zK (pv 8))))),?_⟩
 obtain ⟨t,b,p,z,pt,m,rfl,h1,h2,h3,h4,h5,h6,h7,h8,q1,q2⟩:=h
 all_goals walk_at "st"
 have q2':=fun n H' g=>q2 n qI H' kB g
 walk_at "rd"
 refine ⟨t,p,pt,rfl,h3,h4,h7,fun we=>?_,fun nw C nC=>?_⟩
 ·have t1:t.take ((jO p.toNat t).length:Int).toNat=jO p.toNat t:=by rw [toNat_natCast];exact K6
  have t2:t.drop (((jO p.toNat t).length:Int)+1).toNat=ZE p.toNat t:=by rw [show (((jO p.toNat t).length:Int)+1).toNat=(jO p.toNat t).length+1 by omega];exact Kb we
  have wl:=Wh (p:=p.toNat) (t:=t)
  have rl:=YE we
  have pa:=zBp (p:=p.toNat) (z:=z.toNat) h8
  walk_at "rd"
  refine zGy [some (.str (T t)),some (.int b),some (.int p),some (.str (T [pt])),some (.int z),some (.str (T [m])),some (.int (jO p.toNat t).length),none,none] ?_
  walk_at "rd"
  rw [t1]
  refine ⟨jO p.toNat t,z,m,rfl,h5,h6,by omega,fun gg H1 g1=>?_,fun ng C H1 nC g1=>?_⟩
  ·have g2:=gg.1;have g3:=gg.2.1
   walk_at "rd"
   rw [t2]
   walk_at "rd"
   refine ⟨_,b,rfl,pa,by rw [length_append];omega,by rw [length_append];omega,h1,h2,fun fb=>?_,fun nf C nC=>?_⟩
   ·walk_at "rd"
    ·rename_i c1 c2
     exact ⟨qm (by decide),q2' (fun h=>h.2.2.2 ⟨by omega,by simpa using c2⟩) _ g1⟩
    ·rename_i c1 c2
     exact q1 ⟨we,gg,fb,fun h=>c2 (by rw [show Int.toNat 0=0 from rfl,h.2])⟩ _ g1
    ·rename_i c1
     exact q1 ⟨we,gg,fb,fun h=>c1 (by have:=h.1;omega)⟩ _ g1
   ·have:=Nm.eq nC km
    subst this
    exact ⟨_,rfl,xf,q2' (fun h=>nf h.2.2.1) _ g1⟩
  ·have:=Nm.eq nC ZQ
   subst this
   exact ⟨_,rfl,xg,q2' (fun h=>ng h.2.1) _ g1⟩
 ·have:=Nm.eq nC kB
  subst this
  exact q2' (fun h=>nw h.1) _ (zW.refl _)
def Y4 (L:Addr):List (Str × V):=[("names", .ref L)]
def wns:List Str:=["signs", "least", "most"]
def cns:List Str:=["names"]
variable {L:Addr}
theorem zEF {m:Str} (h1:m ≠ "names"):(Y4 L).lookup m=none:=(qF h1).trans rfl
section
variable {H : Hp} {a C L : Addr} {wd : Int} {f : Nat} {x : Str} {st : Bool}
theorem zB0 (F:zc K H a C wd f x st (Y4 L)):xP K H a "names" (.ref L):=F.own (by decide +kernel) yc (mem_cons_self ..)
theorem Y9 {m:Str} (F:zc K H a C wd f x st (Y4 L)) (h0:m ∉ bns) (h1:m ≠ "names"):zDY H a C m:=F.meth h0 (zEF h1)
end
local macro_rules | `(tactic| walk_at "fld2")=>`(tactic| (exact zB0 (by walk_at "fm")))
local macro_rules | `(tactic| walk_at "ins")=>`(tactic| exact Y9 (by walk_at "fm") (by decide +kernel) (by decide +kernel))
def QB (K:W.Frag):Sp:=fun vs H Q _=>∃ (C a dx:Addr) (wd:Int) (f:Nat) (x:Str) (st:Bool),vs=[.ref a,.int wd,.str (T [f]),.str x,.bl st]/\Cls K C/\qp K C bns/\H a=some (.ins C dx [])/\Q .non (upd H a (.ins C dx (bfs wd f x st [])))
include Z in
theorem xD:zHv P w K mg base CX0 kK "__init__" 1 ["self", "width", "fill", "side", "strict"] (QB K):=by
 refine zJo Z.aY (l5N (by intros;rfl)) fun fq fd F=>?_
 refine F.ok Z6 (fun vs H Q E=>?_) (fun _ _ _ s H vs Q E hr h=>?_)
 ·walk_at "ln"
 obtain ⟨C,a,dx,wd,f,x,st,rfl,cl,na,e0,q⟩:=h
 refine ⟨_,zC (jw (pv 0) (pv 1) rfl)
  (zC (jw (pv 0) (pv 2) rfl)
  (zC (jw (pv 0) (pv 3) rfl)
  (zE (jw (pv 0) (pv 4) rfl)))),?_⟩
 walk_at "st"
 walk_at "rd"
 refine jx e0 cl (na.at (by decide +kernel)) (by decide) ?_
 rw [qT]
 walk_at "rd"
 refine jx zS cl (na.at (by decide +kernel)) (by show 1 < 1000;decide) ?_
 rw [ql,zf (by decide +kernel),qT]
 walk_at "rd"
 refine jx zS cl (na.at (by decide +kernel)) (by show 2 < 1000;decide) ?_
 rw [ql,zf (by decide +kernel),zf (by decide +kernel),qT]
 walk_at "rd"
 refine jx zS cl (na.at (by decide +kernel)) (by show 3 < 1000;decide) ?_
 rw [ql,zf (by decide +kernel),zf (by decide +kernel),zf (by decide +kernel),qT]
 walk_at "rd"
 exact q
def kE (K:W.Frag) (C:Addr):Sp:=fun vs H Q _=>∃ (a dx:Addr) (sg:List Nat) (lo hi wd:Int) (f:Nat) (x:Str) (st:Bool),vs=[.ref a,.str (T sg),.int lo,.int hi,.int wd,.str (T [f]),.str x,.bl st]/\H a=some (.ins C dx [])/\Q .non (upd H a (.ins C dx (bfs wd f x st (k8 sg lo hi))))
include Z in
theorem kq:Gx P w K mg base CX0 "__init__" [zP] 2 ["self", "signs", "least", "most", "width", "fill", "side", "strict"] (kE K zP):=by
 have cl:Cls K zP:=Z.b1
 have na:qp K zP (bns++wns):=Z.b2
 refine zDw Z.aZ (l4N fun _ _ _ _=>l8N fun _ _ _ _ _ _ _ _ _ _ _ _ _ _ _=>⟨_,rfl,rfl⟩) fun fq fd F=>?_
 refine F.ok kF (fun vs H Q E=>?_) (fun _ _ _ s H vs Q E hr h=>?_)
 ·walk_at "ln"
 obtain ⟨a,dx,sg,lo,hi,wd,f,x,st,rfl,e0,q⟩:=h
 refine ⟨_,zC (jo (QX (xD Z) qj hr rfl Z.ai (zA (pv 0) (zA (pv 4) (zA (pv 5) (zA (pv 6) (zA (pv 7) (zD))))))))
  (zC (jw (pv 0) (pv 1) rfl)
  (zC (jw (pv 0) (pv 2) rfl)
  (zE (jw (pv 0) (pv 3) rfl)))),?_⟩
 walk_at "st"
 have na0:qp K zP bns:=⟨na.1,na.2.1,na.2.2.1,na.2.2.2.1,trivial⟩
 walk_at "rd"
 refine ⟨zP,a,dx,wd,f,x,st,rfl,cl,na0,e0,?_⟩
 walk_at "rd"
 refine jx zS cl (na.at (by decide +kernel)) (by show 4 < 1000;decide) ?_
 rw [ql,jp (by decide +kernel),qT]
 walk_at "rd"
 refine jx zS cl (na.at (by decide +kernel)) (by show 5 < 1000;decide) ?_
 rw [ql,jp (by decide +kernel),zf (by decide +kernel),qT]
 walk_at "rd"
 refine jx zS cl (na.at (by decide +kernel)) (by show 6 < 1000;decide) ?_
 rw [ql,jp (by decide +kernel),zf (by decide +kernel),zf (by decide +kernel),qT]
 walk_at "rd"
 exact q
def ye (K:W.Frag) (C:Addr):Sp:=fun vs H Q _=>∃ (a dx p:Addr) (ns:List (List Nat)) (wd:Int) (f:Nat) (x:Str) (st:Bool),vs=[.ref a,.ref p,.int wd,.str (T [f]),.str x,.bl st]/\H a=some (.ins C dx [])/\H p=some (.lst (tsV ns)) /\
 ∀ L H',SB a H H'->H L=none->H' L=some (.lst (tsV ns))->H' a=some (.ins C dx (bfs wd f x st (Y4 L)))->Q .non H'
include Z in
theorem yk:Gx P w K mg base CX0 "__init__" [zN] 2 ["self", "names", "width", "fill", "side", "strict"] (ye K zN):=by
 have cl:Cls K zN:=Z.b4
 have na:qp K zN (bns++cns):=Z.b5
 refine zDw Z.a0 (l4N fun _ _ _ _=>l6N fun _ _ _ _ _ _ _ _ _ _ _ _ _=>⟨_,rfl,rfl⟩) fun fq fd F=>?_
 refine F.ok yb (fun vs H Q E=>?_) (fun _ _ _ s H vs Q E hr h=>?_)
 ·walk_at "ln"
 obtain ⟨a,dx,p,ns,wd,f,x,st,rfl,e0,hp,q⟩:=h
 refine ⟨_,zC (jo (QX (xD Z) qj hr rfl Z.ai (zA (pv 0) (zA (pv 2) (zA (pv 3) (zA (pv 4) (zA (pv 5) (zD))))))))
  (zE (jw (pv 0) (y1 xM rfl Z.ax ZP (zA (pv 1) (zD))) rfl)),?_⟩
 walk_at "st"
 have na0:qp K zN bns:=⟨na.1,na.2.1,na.2.2.1,na.2.2.2.1,trivial⟩
 walk_at "rd"
 refine ⟨zN,a,dx,wd,f,x,st,rfl,cl,na0,e0,?_⟩
 walk_at "rd"
 have nap:p≠a:=fun z=>by rw [z,e0] at hp;cases hp
 refine Vi (SqL.of (show upd H a (.ins zN dx (bfs wd f x st [])) p=some (.lst (tsV ns)) by rw [ze nap];exact hp)) fun l H1 g1 n1 e1=>?_
 have nla:l≠a:=fun z=>by rw [z,zS] at n1;cases n1
 rw [ze nla] at n1
 walk_at "rd"
 refine jx (g1.at zS) cl (na.at (by decide +kernel)) (by show 4 < 1000;decide) ?_
 rw [jp (by decide +kernel),qT]
 walk_at "rd"
 refine q l _ (fun b o hb e=>?_) n1 (by rw [ze nla];exact e1) zS
 rw [ze hb]
 exact g1.at (by rw [ze hb];exact e)
def yX (K:W.Frag) (C:Addr):Sp:=fun vs H Q _=>∃ (a dx:Addr) (fg pl b:Int) (sn:Str) (z:Int) (m pt:Nat) (wy:Str) (wd:Int) (f:Nat) (x:Str) (st:Bool),vs=[.ref a,.int fg,.int pl,.int b,.str sn,.int z,.str (T [m]),.str (T [pt]),.str wy,.int wd,.str (T [f]),.str x,.bl st]/\H a=some (.ins C dx [])/\Q .non (upd H a (.ins C dx (bfs wd f x st (jb fg pl b sn z m pt wy))))
include Z in
theorem yi:Gx P w K mg base CX0 "__init__" [zH] 2 ["self", "figures", "places", "base", "sign", "size", "mark", "point", "way", "width", "fill", "side", "strict"] (yX K zH):=by
 have cl:Cls K zH:=Z.bY
 have na:qp K zH (bns++nns):=Z.bZ
 refine zDw Z.a1 (zI5 fun _ _ _ _ _ _ _ _ _ _=>zJj fun _ _ _ _ _ _ _ _ _ _ _ _ _ _ _ _ _ _ _ _=>⟨_,rfl,rfl⟩) fun fq fd F=>?_
 refine F.ok ya (fun vs H Q E=>?_) (fun _ _ _ s H vs Q E hr h=>?_)
 ·walk_at "ln"
 obtain ⟨a,dx,fg,pl,b,sn,z,m,pt,wy,wd,f,x,st,rfl,e0,q⟩:=h
 refine ⟨_,zC (jo (QX (xD Z) qj hr rfl Z.ai (zA (pv 0) (zA (pv 9) (zA (pv 10) (zA (pv 11) (zA (pv 12) (zD))))))))
  (zC (jw (pv 0) (pv 1) rfl)
  (zC (jw (pv 0) (pv 2) rfl)
  (zC (jw (pv 0) (pv 3) rfl)
  (zC (jw (pv 0) (pv 4) rfl)
  (zC (jw (pv 0) (pv 5) rfl)
  (zC (jw (pv 0) (pv 6) rfl)
  (zC (jw (pv 0) (pv 7) rfl)
  (zE (jw (pv 0) (pv 8) rfl))))))))),?_⟩
 walk_at "st"
 walk_at "rd"
 refine ⟨zH,a,dx,wd,f,x,st,rfl,cl,⟨na.1,na.2.1,na.2.2.1,na.2.2.2.1,trivial⟩,e0,?_⟩
 walk_at "rd"
 refine jx zS cl (na.at (by decide +kernel)) (by show 4 < 1000;decide) ?_
 rw [ql,jp (by decide +kernel),qT]
 walk_at "rd"
 refine jx zS cl (na.at (by decide +kernel)) (by show 5 < 1000;decide) ?_
 rw [ql,jp (by decide +kernel),zf (by decide +kernel),qT]
 walk_at "rd"
 refine jx zS cl (na.at (by decide +kernel)) (by show 6 < 1000;decide) ?_
 rw [ql,jp (by decide +kernel),zf (by decide +kernel),zf (by decide +kernel),qT]
 walk_at "rd"
 refine jx zS cl (na.at (by decide +kernel)) (by show 7 < 1000;decide) ?_
 rw [ql,jp (by decide +kernel),zf (by decide +kernel),zf (by decide +kernel),zf (by decide +kernel),qT]
 walk_at "rd"
 refine jx zS cl (na.at (by decide +kernel)) (by show 8 < 1000;decide) ?_
 rw [ql,jp (by decide +kernel),zf (by decide +kernel),zf (by decide +kernel),zf (by decide +kernel),zf (by decide +kernel),qT]
 walk_at "rd"
 refine jx zS cl (na.at (by decide +kernel)) (by show 9 < 1000;decide) ?_
 rw [ql,jp (by decide +kernel),zf (by decide +kernel),zf (by decide +kernel),zf (by decide +kernel),zf (by decide +kernel),zf (by decide +kernel),qT]
 walk_at "rd"
 refine jx zS cl (na.at (by decide +kernel)) (by show 10 < 1000;decide) ?_
 rw [ql,jp (by decide +kernel),zf (by decide +kernel),zf (by decide +kernel),zf (by decide +kernel),zf (by decide +kernel),zf (by decide +kernel),zf (by decide +kernel),qT]
 walk_at "rd"
 refine jx zS cl (na.at (by decide +kernel)) (by show 11 < 1000;decide) ?_
 rw [ql,jp (by decide +kernel),zf (by decide +kernel),zf (by decide +kernel),zf (by decide +kernel),zf (by decide +kernel),zf (by decide +kernel),zf (by decide +kernel),zf (by decide +kernel),qT]
 walk_at "rd"
 exact q
include Z in
theorem xi:Gx P w K mg base CX0 "is_too_great" [zH] 2 ["self", "number"] (qk K zH):=by
 refine WR Z.a2 (l2N (by intros;rfl)) fun fq fd F=>?_
 refine F.ok xQ (fun vs H Q E=>?_) (fun _ _ _ s H vs Q E hr h=>?_)
 ·walk_at "ln"
 obtain ⟨a,fg,pl,b,sn,z,m,pt,wy,wd,f,x,st,n,rfl,F0,ok,q⟩:=h
 refine ⟨_,zE (zK (qY zEn (pv 1) (zF (XB Z) hr rfl (zA (j0 (pv 0) rfl) (zA (zM zp (j0 (pv 0) rfl) (j0 (pv 0) rfl)) (zD)))) (zU _))),?_⟩
 walk_at "st"
 have o1:=ok.fg1;have o2:=ok.fg2;have o3:=ok.pl1;have o4:=ok.pl2;have o5:=ok.b1;have o6:=ok.b2
 walk_at "rd"
 exact q
theorem XY {b:Int} {pt:Nat} {f:Nat} (ok:QF fg pl b sn z m pt wy wd f x) (h:k.natAbs < b.toNat ^ (fg+pl).toNat):zJZ k.natAbs b pl/\Sgd sn (decide (k < 0)) (yZ pl b sn z m pt k)/\Asc (yZ pl b sn z m pt k)/\(yZ pl b sn z m pt k).length<=400:=by
 have o1:=ok.fg1;have o2:=ok.fg2;have o3:=ok.pl1;have o4:=ok.pl2;have o5:=ok.b1;have o6:=ok.b2
 have e1:b.toNat ^ (fg+pl).toNat<=b.toNat ^ (40+pl.toNat):=Nat.pow_le_pow_right (by omega) (by omega)
 have nb:zJZ k.natAbs b pl:=⟨by omega,o5,o6,o3,o4,by omega⟩
 have bs:=KG (z:=z.toNat) (b:=b.toNat) (p:=pl.toNat) (n:=(k.natAbs:Int).toNat) (by omega) (by omega) (by omega) nb.2.2.2.2.2 ok.pt ok.m
 have e:bod sn (decide (k < 0)) (yZ pl b sn z m pt k)=bdI k.natAbs b pl pt z m:=W1
 have sl:=zFq ok.sn (decide (k < 0)) (bdI k.natAbs b pl pt z m)
 have sa:=zAe ok.sn (decide (k < 0))
 refine ⟨nb,⟨by rw [e];exact bs.1,by rw [e];rfl⟩,(sa.1.app bs.2.1).app sa.2,?_⟩
 have:=bs.2.2
 unfold yZ
 unfold bdI at sl ⊢
 omega
include Z in
theorem qS:Gx P w K mg base CX0 "is_too_wide" [zH,zP,zN] 1 ["self", "core"] (je K):=by
 refine WR Z.a3 (l2N (by intros;rfl)) fun fq fd F=>?_
 refine F.ok kj (fun vs H Q E=>?_) (fun _ _ _ s H vs Q E hr h=>?_)
 ·walk_at "ln"
 obtain ⟨a,C,wd,f,x,st,more,t,rfl,F0,h0,q⟩:=h
 refine ⟨_,zE (zK (Qo (j0 (pv 0) rfl) (Q9 (qY Zc (zI zd Z.am rfl z4 (zA (pv 1) (zD))) (j0 (pv 0) rfl) (zU _))))),?_⟩
 walk_at "st"
 walk_at "rd"
 ·rename_i hc;rw [hc] at q;exact q
 ·rename_i hc;rw [hc] at q;exact q
def Zb (ld t:List Nat) (wd:Int) (f:Nat) (x:Str):List Nat:=if x = "inside" then ld++pad (t.drop ld.length) (wd - ld.length) f "right" else pad t wd f x
theorem Vu (h:kN x):x ≠ "inside" := by
 rcases h with rfl | rfl | rfl <;> decide +kernel
def xK (K:W.Frag) (C:Addr):Sp:=fun vs H Q _=>∃ (a:Addr) (sg:List Nat) (lo hi wd:Int) (f:Nat) (x:Str) (st:Bool) (t:List Nat),vs=[.ref a,.str (T t)]/\zc K H a C wd f x st (k8 sg lo hi)/\t.length<=400 /\ ∀ H',zW H H'->Q (.bl (decide (Isw sg lo hi t))) H'
theorem zAU {a:Addr} {sg:List Nat} {lo hi:Int} {f:Nat} {t:List Nat} (h1:zc K H a C wd f x st (k8 sg lo hi)) (h2:t.length<=400) (q : ∀ H',zW H H'->Q (.bl (decide (Isw sg lo hi t))) H'):xK K C (.ref a::([.str (T t)]++[])) H Q E:=⟨a,sg,lo,hi,wd,f,x,st,t,rfl,h1,h2,q⟩
local macro_rules | `(tactic| walk_at "rdc")=>`(tactic| ((with_reducible refine' zAU ?h1 ?h2 ?_);(case h1=>walk_at "fm");(case h2=>omega);intro H' g'))
include Z in
theorem wY:Gx P w K mg base CX0 "is_word" [zP] 1 ["self", "thing"] (xK K zP):=by
 refine WR Z.a4 (l2N (by intros;rfl)) fun fq fd F=>?_
 refine F.ok kW (fun vs H Q E=>?_) (fun _ _ _ s H vs Q E hr h=>?_)
 ·walk_at "ln"
 obtain ⟨a,sg,lo,hi,wd,f,x,st,t,rfl,F0,h0,q⟩:=h
 refine ⟨_,zC (zm (PW.pt (ZD (qw (qc (zI xA Z.ao rfl z8 (zA (pv 1) (zA (yO rfl Z.ap zA1 (v:=.ty "str") rfl) (zD)))))) (yj (qw (XV X7 X7 (j0 (pv 0) rfl) (zI zd Z.am rfl z4 (zA (pv 1) (zD))) (j0 (pv 0) rfl)))))) (zE (zK (yJ))) (zV))
  (zE (zK (zI (zAx rfl) Z.az rfl zGr (zA (ju (cl:=[("self", s.heap.objs.size+1+0)]) (fr:=["self"]) (is:=[0]) rfl rfl ⟨rfl,trivial⟩ rfl ⟨⟨rfl,rfl,Or.inl rfl⟩,trivial⟩ (by decide) (by decide +kernel) rfl (by decide +kernel) rfl (Y2 (pv 1)) (fun _ _ _ _=>xT) (fun _ _ _ _=>qY zBM (pv 0) (yG (K:=K) rfl (pv 1) rfl) (by with_unfolding_all rfl))) (zD))))),?_⟩
 walk_at "st"
 walk_at "rd"
 ·rename_i c1 c2
  refine Vz (Nat.le_of_lt (qr (by omega))) (fun i ys H'=>H'=H/\ys=((t.take i).map fun c=>decide (c ∈ sg)).map V.bl) ⟨rfl,rfl⟩ (fun i ys H' hi z=>by rw [z.2];simp;omega) ?_ ?_
  ·rintro i c ys H' hc hi ⟨rfl,rfl⟩
   walk_at "rd"
   refine nxC hi ⟨rfl,?_⟩
   rw [take_succ,hc,map_append,map_append];rfl
  ·rintro ys H' ⟨rfl,rfl⟩ p H2 g2 e2
   rw [take_length] at e2
   walk_at "rd"
   have e:(t.map fun c=>decide (c ∈ sg)).all id=decide (Isw sg lo hi t):=by
    rw [Bool.eq_iff_iff,List.all_eq_true,decide_eq_true_iff]
    constructor
    ·intro h
     exact ⟨⟨c1,c2⟩,fun c hc=>of_decide_eq_true (h _ (List.mem_map.mpr ⟨c,hc,rfl⟩))⟩
    ·rintro h b hb
     obtain ⟨c,hc,rfl⟩:=List.mem_map.mp hb
     exact decide_eq_true (h.2 c hc)
   rw [e]
   exact q _ g2
 ·rename_i c1 c2
  have q':=q _ (zW.refl _)
  rw [decide_eq_false (fun z=>c2 z.1.2)] at q';exact q'
 ·rename_i c1
  have q':=q _ (zW.refl _)
  rw [decide_eq_false (fun z=>c1 z.1.1)] at q';exact q'
structure WdS (sg:List Nat) (lo hi wd:Int) (f:Nat) (x:Str):Prop where
 s1:1<=sg.length
 s2:sg.length<=200
 lo1:0<=lo
 lo2:lo<=hi
 hi2:hi<=24
 wd1:0<=wd
 wd2:wd<=40
 x:kN x
 sa:Asc sg
 f:f < 127
structure ChS (ns:Ce) (wd:Int) (f:Nat) (x:Str):Prop where
 n1:1<=ns.length
 n2:ns.length<=12
 len : ∀ t ∈ ns,t.length<=13
 wd1:0<=wd
 wd2:wd<=40
 x:kN x
 ta : ∀ t ∈ ns,Asc t
 nd:ns.Nodup
 f:f < 127
inductive Je (K:W.Frag) (H:Hp) (o cN cW cC:Addr) (wd:Int) (f:Nat) (x:Str) (st:Bool):Fd->Prop
 | num {fg pl b:Int} {sn:Str} {z:Int} {m pt:Nat} {wy:Str} (F:zc K H o cN wd f x st (jb fg pl b sn z m pt wy)) (ok:QF fg pl b sn z m pt wy wd f x):Je K H o cN cW cC wd f x st (.num fg pl b sn z m pt wy)
 | word {sg:List Nat} {lo hi:Int} (F:zc K H o cW wd f x st (k8 sg lo hi)) (ok:WdS sg lo hi wd f x):Je K H o cN cW cC wd f x st (.word sg lo hi)
 | cho {L:Addr} {ns:Ce} (F:zc K H o cC wd f x st (Y4 L)) (e:H L=some (.lst (tsV ns))) (ok:ChS ns wd f x):Je K H o cN cW cC wd f x st (.cho ns)
variable {o cN cW cC:Addr} {d:Fd}
theorem Je.same {f:Nat} (g:zW H H') (h:Je K H o cN cW cC wd f x st d):Je K H' o cN cW cC wd f x st d:=by
 cases h with
 | num F ok=>exact .num (F.same g) ok
 | word F ok=>exact .word (F.same g) ok
 | cho F e ok=>exact .cho (F.same g) (g.at e) ok
theorem Je.bd {f:Nat} (h:Je K H o cN cW cC wd f x st d) : ∃ C more,zc K H o C wd f x st more/\XS x/\0<=wd/\wd<=40:=by
 cases h with
 | num F ok=>exact ⟨_,_,F,ok.x,ok.wd1,ok.wd2⟩
 | word F ok=>exact ⟨_,_,F,.inl ok.x,ok.wd1,ok.wd2⟩
 | cho F e ok=>exact ⟨_,_,F,.inl ok.x,ok.wd1,ok.wd2⟩
def M3 (d:Fd) (a b c:Prop):Prop:=match d with
 | .num _ _ _ _ _ _ _ _=>a
 | .word _ _ _=>b
 | .cho _=>c
theorem zF6 {a:Prop} (h:a):M3 d a a a:=by cases d <;> exact h
variable {vs:List V} {σ:St} {ta:TE}
theorem or3 {f:Nat} {m:Str} {sN sW sC:Sp} {t:TA} (D:Je K H o cN cW cC wd f x st d) (hm:m ∉ bns++(nns++(wns++cns)))
  (hta : ∀ Q':VK,Q' (.ref o) H->ta σ H Q') (ht : ∀ Q':List V->Hp->Prop,Q' vs H->t σ H Q') (h:M3 d (sN (.ref o::(vs++[])) H Q E) (sW (.ref o::(vs++[])) H Q E) (sC (.ref o::(vs++[])) H Q E)) :
  zBg (XX cN m sN [] E ta t) (zBg (XX cW m sW [] E ta t) (XX cC m sC [] E ta t)) σ H Q:=by
 obtain ⟨n1,n2⟩:=not_or.mp fun z=>hm (List.mem_append.mpr z)
 obtain ⟨n2,n3⟩:=not_or.mp fun z=>n2 (List.mem_append.mpr z)
 obtain ⟨n3,n4⟩:=not_or.mp fun z=>n3 (List.mem_append.mpr z)
 cases D with
 | num F ok=>exact K9 (JN (hta _ (kZ (VR F n1 n2) (ht _ h))))
 | word F ok =>
  simp only [wns,mem_cons,not_mem_nil,or_false,not_or] at n3
  exact XE (K9 (JN (hta _ (kZ (VQ F n1 n3.1 n3.2.1 n3.2.2) (ht _ h)))))
 | cho F e ok=>exact XE (XE (JN (hta _ (kZ (Y9 F n1 (fun z=>n4 (List.mem_singleton.mpr z))) (ht _ h)))))
def Qz (K:W.Frag):Sp:=fun vs H Q _=>∃ (t:List Nat) (w:Int) (f:Nat) (x:Str),vs=[.str (T t),.int w,.str (T [f]),.str x]/\kN x/\t.length<=400/\w<=40 /\ -1000<=w /\ ∀ p H',zW H H'->H p=none->H' p=some (.lst (tsV (qU t w f x)))->Q (.ref p) H'
theorem K5 {t:List Nat} {w:Int} {f:Nat} (h1:kN x) (h2:t.length<=400) (h3:w<=40) (h4 : -1000<=w) (q : ∀ p H',zW H H'->H p=none->H' p=some (.lst (tsV (qU t w f x)))->Q (.ref p) H'):Qz K ([.str (T t),.int w,.str (T [f]),.str x]++[]) H Q E:=⟨t,w,f,x,rfl,h1,h2,h3,h4,q⟩
local macro_rules | `(tactic| walk_at "rdc")=>`(tactic| ((with_reducible refine' K5 ?h1 ?h2 ?h3 ?h4 ?_);(case h1=>first | assumption | exact .inl rfl | exact .inr (.inl rfl) | exact .inr (.inr rfl));(case h2=>walk_at "tl");(case h3|h4=>omega);intro p' H' g' n' e'))
local macro_rules | `(tactic| walk_at "rdc")=>`(tactic| ((with_reducible refine' Xj ?hz ?_);(case hz=>exact qm (by simp only [length_cons,length_nil];decide));intro p' H' g' n' e'))
local macro_rules | `(tactic| walk_at "rd1")=>`(tactic| ((with_reducible refine' Xj ?hz ?_);(case hz=>exact qm (by simp only [length_cons,length_nil];decide));intro p' H' g' n' e'))
include Z in
theorem Jl:Has P w K mg base "stripped" 3 ["text", "width", "fill", "side"] (Qz K):=by
 refine jm Z.kn Z.a5 (l4N (by intros;rfl)) fun fq fd F=>?_
 refine F.ok xJ (fun vs H Q E=>?_) (fun _ _ _ s H vs Q E hr h=>?_)
 ·walk_at "ln"
 obtain ⟨t,w,f,x,rfl,hs,h0,hw,hw1,q⟩:=h
 refine ⟨_,zC (zm (zQ Zc (zI zd Z.am rfl z4 (zA (pv 0) (zD))) (pv 1) (zU _)) (zE (zK (zt (zA (pv 0) (zD))))) (zV))
  (zC (zJ (i:=4) xJ.nd rfl (Or.inl rfl) (zt (zD)))
  (zC (xx PassesOwn.never rfl (yA rfl Z.an (zA (zM zp (pv 1) (zB)) (zD))) (zg (i:=5) xJ.nd rfl (Or.inl rfl)) (zC (zJ (i:=6) xJ.nd rfl (Or.inl rfl) (zR zT (zF (X0 Z) hr rfl (zA (pv 5) (zA (pv 1) (zA (pv 3) (zD))))) (zB) (fun _ _=>rfl)))
  (zC (zJ (i:=7) xJ.nd rfl (Or.inl rfl) (zj jH (pv 0) (zh (pv 6)) (zh (zM zp (pv 6) (pv 5)))))
  (zE (zm (zQ qd (zF (zCI Z) hr rfl (zA (pv 7) (zA (pv 1) (zA (pv 2) (zA (pv 3) (zD)))))) (pv 0) (zU _)) (zE (jo (kv PySem.F.plainAttrs_list PySem.F.slot_list_append PySem.F.type_list_append yp (pv 4) (zA (pv 7) (zD))))) (zV))))))
  (zE (zK (pv 4))))),?_⟩
 walk_at "st"
 walk_at "rd"
 ·rename_i hc p' H' g' n' e'
  exact q _ _ g' n' (by rw [e',ko hc];rfl)
 ·rename_i hc p' H0 g' n' e'
  refine Xl (by omega) (by omega) (fun i σ H2=>zW H H2 /\ ∃ (r1 r2 r3:Option V),H2 p'=some (.lst (tsV (((List.range i).filter (gd t w f x)).map (sl t w x))))/\σ=[some (.str (T t)),some (.int w),some (.str (T [f])),some (.str x),some (.ref p'),r1,r2,r3]) ⟨g',none,none,none,by rw [e'];rfl,rfl⟩ ?_ ?_
  ·rintro i σ H2 hi ⟨gg,r1,r2,r3,e2,rfl⟩
   obtain ⟨b1,b2,b3,_⟩:=xl (n:=(i:Int)) hs (by omega) hw
   have bl:=Z8 (i:Int) w (by omega) hw
   rw [show (0+(i:Int))=(i:Int) by omega]
   have hl:(((List.range i).filter (gd t w f x)).map (sl t w x)).length<=i:=by
    rw [length_map];exact le_trans (length_filter_le _ _) (by rw [length_range];exact Nat.le_refl _)
   walk_at "rd"
   ·rename_i p1 H1 g1 e1 H3 g3 hc3
    refine Xn (g3.at (g1.at e2)) (qr (by rw [length_map];omega)) ?_
    refine ⟨qR (gg.trans (g1.trans g3)) n',_,_,_,?_,rfl⟩
    rw [zS,range_succ,List.filter_append,filter_cons,if_pos (show gd t w f x i=true from decide_eq_true hc3),filter_nil,map_append]
    unfold tsV
    rw [map_append];rfl
   ·rename_i p1 H1 g1 e1 H3 g3 hc3
    refine ⟨gg.trans (g1.trans g3),_,_,_,?_,rfl⟩
    rw [g3.at (g1.at e2),range_succ,List.filter_append,filter_cons,if_neg (show ¬ gd t w f x i=true from fun z=>hc3 (of_decide_eq_true z)),filter_nil,append_nil]
  ·rintro σ H2 ⟨gg,r1,r2,r3,e2,rfl⟩
   walk_at "rd"
   refine q _ _ gg n' ?_
   rw [e2];unfold qU;rw [if_neg hc]
theorem zHA {t:List Nat} {w:Int} {n:Nat}:(sl t w x n).length<=t.length/\(Asc t->Asc (sl t w x n)):=by
 unfold sl
 exact ⟨by rw [length_drop,length_take];omega,fun h=>(h.take _).drop _⟩
theorem y6 {t:List Nat} {w:Int} {f:Nat} : ∀ c ∈ qU t w f x,c.length<=t.length/\(Asc t->Asc c):=fun c hc=>by
 unfold qU at hc
 split at hc
 ·rw [List.mem_singleton.mp hc];exact ⟨Nat.le_refl _,id⟩
 ·obtain ⟨n,_,rfl⟩:=List.mem_map.mp hc
  exact zHA
theorem ZK {t:List Nat} {w:Int} {f:Nat} (h:w<=40):(qU t w f x).length<=41:=by
 unfold qU
 split
 ·simp
 ·rw [length_map]
  refine le_trans (length_filter_le _ _) ?_
  rw [length_range];omega
def nwd (wd:Int) (st:Bool) (c:List Nat):Bool:=!(st && decide (wd < (c.length:Int)))
def ucs (t:List Nat) (wd:Int) (f:Nat) (x:Str) (st:Bool):List (List Nat):=(qU t wd f x).filter (nwd wd st)
theorem KA {t:List Nat} {f:Nat} (h:wd<=40):(ucs t wd f x st).length<=41 /\ ∀ c ∈ ucs t wd f x st,c.length<=t.length/\(Asc t->Asc c):=
 ⟨le_trans (length_filter_le _ _) (ZK h),fun c hc=>y6 c (List.mem_filter.mp hc).1⟩
theorem Yv {α:Type} {p:α->Bool} {cs:List α} {i:Nat} {c:α} (hc:cs[i]? = some c):(cs.take (i+1)).filter p=(cs.take i).filter p++[c].filter p:=by rw [take_succ,hc,List.filter_append];rfl
inductive UnA (K:W.Frag) (H:Hp) (a cN cW cC:Addr) (wd:Int) (f:Nat) (x:Str) (st:Bool):Prop
 | num {fg pl b:Int} {sn:Str} {z:Int} {m pt:Nat} {wy:Str} (F:zc K H a cN wd f x st (jb fg pl b sn z m pt wy)):UnA K H a cN cW cC wd f x st
 | word {sg:List Nat} {lo hi:Int} (F:zc K H a cW wd f x st (k8 sg lo hi)):UnA K H a cN cW cC wd f x st
 | cho {L:Addr} (F:zc K H a cC wd f x st (Y4 L)):UnA K H a cN cW cC wd f x st
def yT (K:W.Frag) (cN cW cC:Addr):Sp:=fun vs H Q _=>∃ (a:Addr) (wd:Int) (f:Nat) (x:Str) (st:Bool) (t:List Nat),vs=[.ref a,.str (T t)]/\UnA K H a cN cW cC wd f x st/\kN x/\t.length<=400/\0<=wd/\wd<=40 /\ ∀ l H',zW H H'->H' l=some (.lst (tsV (ucs t wd f x st)))->Q (.ref l) H'
theorem ZM {a:Addr} {f:Nat} {t:List Nat} (h1:UnA K H a cN cW cC wd f x st) (h2:kN x) (h3:t.length<=400) (h4:0<=wd) (h5:wd<=40) (q : ∀ l H',zW H H'->H' l=some (.lst (tsV (ucs t wd f x st)))->Q (.ref l) H'):yT K cN cW cC (.ref a::([.str (T t)]++[])) H Q E:=⟨a,wd,f,x,st,t,rfl,h1,h2,h3,h4,h5,q⟩
include Z in
theorem xI:Gx P w K mg base CX0 "unfilled" [zH,zN,zP] 4 ["self", "text"] (yT K zH zP zN):=by
 refine WR Z.a6 (l2N (by intros;rfl)) fun fq fd F=>?_
 refine F.ok QH (fun vs H Q E=>?_) (fun _ _ _ s H vs Q E hr h=>?_)
 ·walk_at "ln"
 obtain ⟨a,wd,f,x,st,t,rfl,D0,hs,h3,w0,w1,q⟩:=h
 refine ⟨_,zE (zK (ju (cl:=[("self", s.heap.objs.size+1+0)]) (fr:=["self"]) (is:=[0]) rfl rfl ⟨rfl,trivial⟩ rfl ⟨⟨rfl,rfl,Or.inl rfl⟩,trivial⟩ (by decide) (by decide +kernel) rfl (by decide +kernel) rfl (jS (zF (Jl Z :) hr rfl (zA (pv 1) (zA (j0 (pv 0) rfl) (zA (j0 (pv 0) rfl) (zA (j0 (pv 0) rfl) (zD))))))) (fun _ _ _ _=>y8 (qw (qc (yV (zo (ZJ (qS Z) in0 :) Z.bY qj hr (pv 1) (zA (pv 0) (zD))) (yV (zo (ZJ (qS Z) in1 :) Z.b1 qj hr (pv 1) (zA (pv 0) (zD))) (zo (ZJ (qS Z) in2 :) Z.b4 qj hr (pv 1) (zA (pv 0) (zD)))))))) (fun _ _ _ _=>pv 0))),?_⟩
 walk_at "st"
 have sl:=ZK (t:=t) (f:=f) (x:=x) w1
 have sb:=y6 (t:=t) (w:=wd) (f:=f) (x:=x)
 cases D0 with
 | num F0 =>
  walk_at "rd"
  rename_i l1 H1 g1 n1 e1
  have F1:=F0.same g1
  refine qX (SqL.of e1) (qm (by rw [zr];omega)) (fun i ys H'=>zW H1 H'/\ys=tsV (((qU t wd f x).take i).filter (nwd wd st))) ⟨zW.refl _,rfl⟩ (fun i ys H' hi h=>⟨SqL.of (h.1.at e1),by rw [h.2,zr];exact le_trans (length_filter_le _ _) (by rw [length_take];omega)⟩) ?_ ?_
  ·rintro i v ys H2 hv hi ⟨g2,rfl⟩
   obtain ⟨c,hc,rfl⟩:=yl hv
   have F2:=F1.same g2
   have cb:=sb c (mem_of_getElem? hc)
   walk_at "rd"
   refine K9 ?_
   walk_at "rd"
   ·rename_i hk
    refine nxC hi ⟨g2,?_⟩
    rw [Yv hc,filter_cons_of_pos (show nwd wd st c=true from hk),<- xL];rfl
   ·rename_i hk
    refine nxC hi ⟨g2,?_⟩
    rw [Yv hc,filter_cons_of_neg (show ¬ nwd wd st c=true by unfold nwd;rw [hk];decide),filter_nil,append_nil]
  ·rintro ys H2 ⟨g2,rfl⟩ p2 H3 g3 n3 e3
   rw [take_of_length_le (by rw [zr];exact Nat.le_refl _)] at e3
   exact q _ _ (g1.trans (g2.trans g3)) e3
 | word F0 =>
  walk_at "rd"
  rename_i l1 H1 g1 n1 e1
  have F1:=F0.same g1
  refine qX (SqL.of e1) (qm (by rw [zr];omega)) (fun i ys H'=>zW H1 H'/\ys=tsV (((qU t wd f x).take i).filter (nwd wd st))) ⟨zW.refl _,rfl⟩ (fun i ys H' hi h=>⟨SqL.of (h.1.at e1),by rw [h.2,zr];exact le_trans (length_filter_le _ _) (by rw [length_take];omega)⟩) ?_ ?_
  ·rintro i v ys H2 hv hi ⟨g2,rfl⟩
   obtain ⟨c,hc,rfl⟩:=yl hv
   have F2:=F1.same g2
   have cb:=sb c (mem_of_getElem? hc)
   walk_at "rd"
   refine XE (K9 ?_)
   walk_at "rd"
   ·rename_i hk
    refine nxC hi ⟨g2,?_⟩
    rw [Yv hc,filter_cons_of_pos (show nwd wd st c=true from hk),<- xL];rfl
   ·rename_i hk
    refine nxC hi ⟨g2,?_⟩
    rw [Yv hc,filter_cons_of_neg (show ¬ nwd wd st c=true by unfold nwd;rw [hk];decide),filter_nil,append_nil]
  ·rintro ys H2 ⟨g2,rfl⟩ p2 H3 g3 n3 e3
   rw [take_of_length_le (by rw [zr];exact Nat.le_refl _)] at e3
   exact q _ _ (g1.trans (g2.trans g3)) e3
 | cho F0 =>
  walk_at "rd"
  rename_i l1 H1 g1 n1 e1
  have F1:=F0.same g1
  refine qX (SqL.of e1) (qm (by rw [zr];omega)) (fun i ys H'=>zW H1 H'/\ys=tsV (((qU t wd f x).take i).filter (nwd wd st))) ⟨zW.refl _,rfl⟩ (fun i ys H' hi h=>⟨SqL.of (h.1.at e1),by rw [h.2,zr];exact le_trans (length_filter_le _ _) (by rw [length_take];omega)⟩) ?_ ?_
  ·rintro i v ys H2 hv hi ⟨g2,rfl⟩
   obtain ⟨c,hc,rfl⟩:=yl hv
   have F2:=F1.same g2
   have cb:=sb c (mem_of_getElem? hc)
   walk_at "rd"
   refine XE (XE ?_)
   walk_at "rd"
   ·rename_i hk
    refine nxC hi ⟨g2,?_⟩
    rw [Yv hc,filter_cons_of_pos (show nwd wd st c=true from hk),<- xL];rfl
   ·rename_i hk
    refine nxC hi ⟨g2,?_⟩
    rw [Yv hc,filter_cons_of_neg (show ¬ nwd wd st c=true by unfold nwd;rw [hk];decide),filter_nil,append_nil]
  ·rintro ys H2 ⟨g2,rfl⟩ p2 H3 g3 n3 e3
   rw [take_of_length_le (by rw [zr];exact Nat.le_refl _)] at e3
   exact q _ _ (g1.trans (g2.trans g3)) e3
def Qk (K:W.Frag):Sp:=fun vs H Q _=>∃ t b:Int,vs=[.int t,.int b]/\0 < b/\b < 10000000000000000000000000000000000000000000000000000000000000000000000000000000000000000000000000000000000000000000000000000000000000000000000000000000000000000000000000000000000000000000000 /\ ∀ p H',zW H H'->H' p=some (.tup [.int (xO t b),.int (jt t b)])->Q (.ref p) H'
theorem WO {b:Int} (h1:0 < b) (h2:b < 10000000000000000000000000000000000000000000000000000000000000000000000000000000000000000000000000000000000000000000000000000000000000000000000000000000000000000000000000000000000000000000000) (q : ∀ p H',zW H H'->H' p=some (.tup [.int (xO t b),.int (jt t b)])->Q (.ref p) H'):Qk K ([.int t,.int b]++[]) H Q E:=⟨t,b,rfl,h1,h2,q⟩
include Z in
theorem Kp:Has P w K mg base "fraction" 2 ["top", "bottom"] (Qk K):=by
 refine jm Z.kn Z.a7 (l2N (by intros;rfl)) fun fq fd F=>?_
 refine F.ok kY (fun vs H Q E=>?_) (fun _ _ _ s H vs Q E hr h=>?_)
 ·walk_at "ln"
 obtain ⟨t,b,rfl,hb,h1,q⟩:=h
 refine ⟨_,zC (zm (PW.pt (ZD (qw (qc (zF (XA Z) hr rfl (zA (pv 0) (zD))))) (yj (qw (qc (zF (XA Z) hr rfl (zA (pv 1) (zD)))))))) (zE (V4)) (zV))
  (zC (zm (zQ qd (pv 1) (zB) (zU _)) (zE (V4)) (zV))
  (zC (zJ (i:=2) kY.nd rfl (Or.inl rfl) (zF (QC Z) hr rfl (zA (pv 0) (zA (pv 1) (zD)))))
  (zC (zm (zQ ZZ (pv 1) (zB) (zU _)) (zE (zJ (i:=2) kY.nd rfl (Or.inl rfl) (k7 xE (pv 2)))) (zV))
  (zE (zK (qh (zA (zM qP (pv 0) (pv 2)) (zA (zM qP (pv 1) (pv 2)) (zD))))))))),?_⟩
 walk_at "st"
 have e0:0 < (Int.gcd t b:Int):=by have:=Int.gcd_pos_of_ne_zero_right t (show b≠0 by omega);omega
 have e1:(Int.gcd t b:Int)<=b.natAbs:=by have:=Int.gcd_le_natAbs_right (a:=t) (b:=b) (by omega);omega
 walk_at "rd"
 refine q _ _ (by walk_at "sm") ?_
 unfold xO jt kA;rw [if_neg (show ¬ b < 0 by omega),Int.fdiv_eq_ediv_of_nonneg _ (Int.le_of_lt e0),Int.fdiv_eq_ediv_of_nonneg _ (Int.le_of_lt e0)];assumption
local macro_rules | `(tactic| walk_at "rdc")=>`(tactic| ((with_reducible refine' WO ?h1 ?h2 ?_);(case h1|h2=>omega);intro p' H' g' e'))
def wS (K:W.Frag):Sp:=fun vs H Q _=>∃ k c t:Int,vs=[.int k,.int c,.int t]/\2<=c/\c<=16/\0<=t/\t<=6 /\ ∀ p H',zW H H'->H' p=some (.tup [.int (xO k (c ^ t.toNat)),.int (jt k (c ^ t.toNat))])->Q (.ref p) H'
theorem YV (h1:2<=c) (h2:c<=16) (h3:0<=t) (h4:t<=6) (q : ∀ p H',zW H H'->H' p=some (.tup [.int (xO k (c ^ t.toNat)),.int (jt k (c ^ t.toNat))])->Q (.ref p) H'):wS K ([.int k,.int c,.int t]++[]) H Q E:=⟨k,c,t,rfl,h1,h2,h3,h4,q⟩
include Z in
theorem Xq:Has P w K mg base "grid_value" 3 ["k", "base", "places"] (wS K):=by
 refine jm Z.kn Z.a8 (l3N (by intros;rfl)) fun fq fd F=>?_
 refine F.ok XG (fun vs H Q E=>?_) (fun _ _ _ s H vs Q E hr h=>?_)
 ·walk_at "ln"
 obtain ⟨k,c,t,rfl,h1,h2,h3,h4,q⟩:=h
 refine ⟨_,zE (zK (zF (Kp Z) hr rfl (zA (pv 0) (zA (zF (XB Z) hr rfl (zA (pv 1) (zA (pv 2) (zD)))) (zD))))),?_⟩
 walk_at "st"
 have z:=pw6 (t:=t) h1 h2 h4
 walk_at "rd"
 exact q _ _ (by walk_at "sm") (by assumption)
local macro_rules | `(tactic| walk_at "rdc")=>`(tactic| ((with_reducible refine' YV ?h1 ?h2 ?h3 ?h4 ?_);(case h1|h2|h3|h4=>omega);intro p' H' g' e'))
theorem zAq {X:Cx} (e:X.K=K):IxR X (zCD K):=e ▸ zT
open Classical in
noncomputable def qD (fg pl b:Int) (sn:Str) (z:Int) (m pt:Nat) (bl:Bool) (t:List Nat):Option Int:=
 if Sgd sn bl t/\IsB b pl.toNat pt z.toNat m (bod sn bl t)/\KR b pl.toNat z.toNat (bod sn bl t) < b ^ (fg+pl).toNat/\(bl=true->0 < KR b pl.toNat z.toNat (bod sn bl t)) then some (if bl=true then -KR b pl.toNat z.toNat (bod sn bl t) else KR b pl.toNat z.toNat (bod sn bl t)) else none
def oV:Option Int->V
 | some k=>.int k
 | none=>.non
def qt (K:W.Frag) (C:Addr):Sp:=fun vs H Q _=>∃ (a:Addr) (fg pl b:Int) (sn:Str) (z:Int) (m pt:Nat) (wy:Str) (wd:Int) (f:Nat) (x:Str) (st:Bool) (t:List Nat) (bl:Bool),vs=[.ref a,.str (T t),.bl bl]/\zc K H a C wd f x st (jb fg pl b sn z m pt wy)/\QF fg pl b sn z m pt wy wd f x/\Asc t/\t.length<=400 /\ ∀ H',zW H H'->Q (oV (qD fg pl b sn z m pt bl t)) H'
include Z in
theorem x0:Gx P w K mg base CX0 "number_with" [zH] 5 ["self", "core", "below"] (qt K zH):=by
 have Xc:Nm K "NoCore" qQ:=Z.bX
 have kB:Nm K "NoBody" qI:=Z.bW
 have xc:W.exmAny K (.ref qQ) [.ref qQ,.ref qI]=some true:=Z.xc
 have xb:W.exmAny K (.ref qI) [.ref qQ,.ref qI]=some true:=Z.xb
 refine WR Z.a9 (l3N (by intros;rfl)) fun fq fd F=>?_
 refine F.ok qM (fun vs H Q E=>?_) (fun _ _ _ s H vs Q E hr h=>?_)
 ·walk_at "ln"
 obtain ⟨a,fg,pl,b,sn,z,m,pt,wy,wd,f,x,st,t,bl,rfl,F0,ok,at',ht,q⟩:=h
 refine ⟨_,zC (zDp rfl rfl (fun _ _ _=>zC (zJ (i:=3) qM.nd rfl (Or.inl rfl) (Vj (WG Z) hr rfl (zA (pv 1) (zA (yG (K:=K) rfl (pv 0) rfl) (zD)))))
  (zE (zJ (i:=4) qM.nd rfl (Or.inl rfl) (Vj (VD Z) hr rfl (zA (zR (zAq (K:=K) rfl) (pv 3) (zB) (fun _ _=>rfl)) (zA (yG (K:=K) rfl (pv 0) rfl) (zA (yG (K:=K) rfl (pv 0) rfl) (zA (yG (K:=K) rfl (pv 0) rfl) (zA (yG (K:=K) rfl (pv 0) rfl) (zA (yG (K:=K) rfl (pv 0) rfl) (zD))))))))))) (zBZ rfl Z.af rfl Z.ae (fun _=>zE (zK (wR)))))
  (zC (zm (PW.pt (ZD (zQ QY (zR zT (pv 3) (zB) (fun _ _=>rfl)) (pv 2) (zU _)) (yj (qc (zo (ZJ (xi Z) in0) Z.bY qj hr (pv 0) (zA (pv 4) (zD))))))) (zE (zK (wR))) (zV))
  (zC (zm (qw (qc (pv 2))) (zE (zK (pv 4))) (zV))
  (zE (zK (Vh (zQ Zc (pv 4) (zB) (zU _)) (k7 xE (pv 4)) (wR)))))),?_⟩
 walk_at "st"
 have o1:=ok.fg1;have o2:=ok.fg2;have o3:=ok.pl1;have o4:=ok.pl2;have o5:=ok.b1;have o6:=ok.b2;have o9:=ok.z1;have o10:=ok.z2
 walk_at "rd"
 refine zGp [some (.ref a),some (.str (T t)),some (.bl bl),none,none] ?_
 walk_at "rd"
 refine ⟨t,sn,rfl,ok.sn,at',by omega,fun b' sd p1 H1 g1 e1=>?_,fun n0 n1 C H1 nC g1=>?_⟩
 ·have F1:=F0.same g1
  have hl:(bod sn b' t).length<=t.length:=by unfold bod;rw [length_drop,length_take];omega
  have ha:Asc (bod sn b' t):=(at'.take _).drop _
  walk_at "rd"
  refine ⟨bod sn b' t,b,pl,z,pt,m,rfl,o5,o6,o3,o4,o9,o10,by omega,ha,fun ib H2 g2=>?_,fun ni C H2 nC g2=>?_⟩
  ·have F2:=F1.same g2
   have e2:=g2.at e1
   have fin : ∀ o,qD fg pl b sn z m pt bl t=o->Q (oV o) H2:=fun o h=>h ▸ q _ (g1.trans g2)
   walk_at "rd"
   rcases Decidable.em (b'=bl) with rfl | hb
   ·refine zGd ?_
    rw [decide_eq_true rfl]
    generalize hn:KR b pl.toNat z.toNat (bod sn b' t)=n
    walk_at "rd"
    ·rename_i hc
     refine fin none ?_
     unfold qD
     rw [hn]
     exact if_neg fun h=>by have:=h.2.2.1;omega
    ·rename_i h1 h2
     have hb:b'=false:=by cases b' <;> simp_all
     subst hb
     refine fin (some n) ?_
     unfold qD
     rw [hn,if_pos ⟨sd,ib,by omega,fun h=>by cases h⟩,if_neg Bool.false_ne_true]
    ·rename_i h1 h2 h3
     have hb:b'=true:=by cases b' <;> simp_all
     subst hb
     refine fin (some (-n)) ?_
     unfold qD
     rw [hn,if_pos ⟨sd,ib,by omega,fun h=>h3⟩,if_pos rfl]
    ·rename_i h1 h2 h3
     have hb:b'=true:=by cases b' <;> simp_all
     subst hb
     refine fin none ?_
     unfold qD
     rw [hn]
     exact if_neg fun h=>h3 (h.2.2.2 rfl)
   ·refine zGd ?_
    rw [decide_eq_false hb]
    walk_at "rd"
    refine fin none ?_
    unfold qD
    refine if_neg fun h=>?_
    cases bl <;> cases b'
    ·exact hb rfl
    ·exact QS ok.sn h.1 sd
    ·exact QS ok.sn sd h.1
    ·exact hb rfl
  ·have:=Nm.eq nC kB
   subst this
   refine ⟨_,rfl,zJY xb ?_⟩
   walk_at "rd"
   have q':=q _ (g1.trans g2)
   rw [show qD fg pl b sn z m pt bl t=none from ?_] at q'
   ·exact q'
   ·unfold qD
    refine if_neg fun h=>ni ?_
    obtain rfl:bl=b':=by
     cases bl <;> cases b'
     ·rfl
     ·exact (QS ok.sn h.1 sd).elim
     ·exact (QS ok.sn sd h.1).elim
     ·rfl
    exact h.2.1
 ·have:=Nm.eq nC Xc
  subst this
  refine ⟨_,rfl,zJY xc ?_⟩
  walk_at "rd"
  have q':=q _ g1
  rw [show qD fg pl b sn z m pt bl t=none from ?_] at q'
  ·exact q'
  ·unfold qD
   refine if_neg fun h=>?_
   cases bl
   ·exact n0 h.1
   ·exact n1 h.1
variable {bl:Bool}
theorem Xf {a:Addr} {b:Int} {pt:Nat} {f:Nat} {t:List Nat} (h1:zc K H a C wd f x st (jb fg pl b sn z m pt wy)) (h2:QF fg pl b sn z m pt wy wd f x) (h3:Asc t) (h4:t.length<=400) (q : ∀ H',zW H H'->Q (oV (qD fg pl b sn z m pt bl t)) H'):qt K C (.ref a::([.str (T t),.bl bl]++[])) H Q E:=⟨a,fg,pl,b,sn,z,m,pt,wy,wd,f,x,st,t,bl,rfl,h1,h2,h3,h4,q⟩
def RT (H:Hp) (S:Int) (v:V) (k:Int):Prop:=∃ p,v = .ref p/\H p=some (.tup [.int (xO k S),.int (jt k S)])
variable {S:Int}
theorem RT.same (g:zW H H') (h:RT H S v k):RT H' S v k:=let ⟨p,e,k⟩:=h;⟨p,e,g.at k⟩
theorem two_ways {b:Int} {pt:Nat} (hs:kD sn) (cs:List (List Nat)):(cs.filterMap (qD fg pl b sn z m pt false)).length+(cs.filterMap (qD fg pl b sn z m pt true)).length<=cs.length:=by
 induction cs with
 | nil=>exact Nat.le_refl _
 | cons c cs ih =>
  rw [filterMap_cons,filterMap_cons,length_cons]
  cases h0:qD fg pl b sn z m pt false c with
  | none =>
   cases h1:qD fg pl b sn z m pt true c with
   | none=>dsimp only;omega
   | some k=>dsimp only;rw [length_cons];omega
  | some j =>
   cases h1:qD fg pl b sn z m pt true c with
   | none=>dsimp only;rw [length_cons];omega
   | some k =>
    exfalso
    unfold qD at h0 h1
    split at h0
    ·rename_i a0
     split at h1
     ·rename_i a1
      exact QS hs a0.1 a1.1
     ·cases h1
    ·cases h0
def X3 (t l:List Nat) (w:Int) (f:Nat):List (List Nat):=if t.take l.length=l then qU (t.drop l.length) (w - l.length) f "right" else []
def xa (K:W.Frag):Sp:=fun vs H Q _=>∃ (t l:List Nat) (w:Int) (f:Nat),vs=[.str (T t),.str (T l),.int w,.str (T [f])]/\t.length<=1000/\l.length<=400/\t.length - l.length<=400/\w<=40/\0<=w /\ ∀ p H',zW H H'->H p=none->H' p=some (.lst (tsV (X3 t l w f)))->Q (.ref p) H'
theorem ZS {t l:List Nat} {w:Int} {f:Nat} (h1:t.length<=1000) (h2:l.length<=400) (h5:t.length - l.length<=400) (h3:w<=40) (h4:0<=w) (q : ∀ p H',zW H H'->H p=none->H' p=some (.lst (tsV (X3 t l w f)))->Q (.ref p) H'):xa K ([.str (T t),.str (T l),.int w,.str (T [f])]++[]) H Q E:=⟨t,l,w,f,rfl,h1,h2,h5,h3,h4,q⟩
local macro_rules | `(tactic| walk_at "rdc")=>`(tactic| ((with_reducible refine' ZS ?h1 ?h2 ?h5 ?h3 ?h4 ?_);(case h1|h2|h5=>walk_at "tl");(case h3|h4=>omega);intro p' H' g' n' e'))
include Z in
theorem ZR:Has P w K mg base "stripped_inside" 4 ["text", "lead", "width", "fill"] (xa K):=by
 refine jm Z.kn Z.ba (l4N (by intros;rfl)) fun fq fd F=>?_
 refine F.ok ZC (fun vs H Q E=>?_) (fun _ _ _ s H vs Q E hr h=>?_)
 ·walk_at "ln"
 obtain ⟨t,l,w,f,rfl,h1,h2,h5,h3,h4,q⟩:=h
 refine ⟨_,zC (zm (qw (qc (kv PySem.F.plainAttrs_str PySem.F.slot_str_startswith PySem.F.type_str_startswith JU (pv 0) (zA (pv 1) (zD))))) (zE (zK (zt (zD)))) (zV))
  (zE (zK (zF (Jl Z) hr rfl (zA (zj jH (pv 0) (zh (zI zd Z.am rfl z4 (zA (pv 1) (zD)))) (qO)) (zA (zM jJ (pv 2) (zI zd Z.am rfl z4 (zA (pv 1) (zD)))) (zA (pv 3) (zA (zY) (zD)))))))),?_⟩
 walk_at "st"
 walk_at "rd"
 ·rename_i hc p' H' g' n' e'
  exact q _ _ g' n' (by rw [e'];unfold X3;rw [if_pos hc,toNat_natCast])
 ·rename_i hc p' H' g' n' e'
  exact q _ _ g' n' (by rw [e'];unfold X3;rw [if_neg hc];rfl)
def cin (t:List Nat) (sn:Str) (bl:Bool) (wd:Int) (f:Nat) (x:Str) (st:Bool):List (List Nat):=if x = "inside" then ((X3 t (stL sn bl) wd f).map fun r=>stL sn bl++r).filter (nwd wd st) else ucs t wd f x st
theorem Vl {t l:List Nat} {w:Int} {f:Nat} (h:w<=40):(X3 t l w f).length<=41:=by
 unfold X3
 split
 ·exact ZK (by omega)
 ·exact Nat.zero_le _
theorem Xi {t:List Nat} {f:Nat} (h:wd<=40):(cin t sn bl wd f x st).length<=41:=by
 unfold cin
 split
 ·exact le_trans (length_filter_le _ _) (by rw [length_map];exact Vl h)
 ·exact (KA h).1
theorem Ym {α β:Type} {g:α->Option β} {p:α->Bool} : ∀ l:List α,((l.filter p).filterMap g).length<=(l.filterMap g).length
 | []=>Nat.le_refl _
 | a::l=>by
  have ih:=Ym (g:=g) (p:=p) l
  rw [filter_cons]
  split
  ·rw [filterMap_cons,filterMap_cons]
   cases g a <;> simp <;> omega
  ·rw [filterMap_cons]
   cases g a <;> simp <;> omega
theorem V7 {b:Int} {pt:Nat} {u:List Nat} (hL:stL sn false=[]) (h:qD fg pl b sn z m pt false u=some k):0<=fv (u.getD 0 0):=by
 unfold qD at h
 split at h
 ·rename_i a
  obtain ⟨⟨ne,h0,_⟩,e⟩:=a.1
  rw [hL,List.nil_append] at e
  have:u.getD 0 0=(bod sn false u).getD 0 0:=by
   conv=>lhs;rw [<- e]
   cases hb:bod sn false u with
   | nil=>exact absurd hb ne
   | cons c r=>rfl
  rw [this];exact h0
 ·cases h
theorem Wg {f a b:Nat} {u v:List Nat} (h:List.replicate a f++u=List.replicate b f++v) (l:a < b):u.getD 0 0=f/\(List.replicate b f++v).getD 0 0=f:=by
 obtain ⟨d,rfl⟩ : ∃ d,b=a+(d+1):=⟨b - a - 1,by omega⟩
 rw [<- List.replicate_append_replicate,append_assoc] at h
 constructor
 ·rw [append_cancel_left h];rfl
 ·rw [show a+(d+1)=(a+d)+1 from rfl,List.replicate_succ];rfl
theorem zDK {α β:Type} {g:α->Option β} : ∀ l:List α,l.Nodup->(∀ a ∈ l,∀ b ∈ l,∀ i j,g a=some i->g b=some j->a=b)->(l.filterMap g).length<=1
 | [],_,_=>Nat.zero_le _
 | a::l,nd,h=>by
  obtain ⟨n1,n2⟩:=List.nodup_cons.mp nd
  cases e:g a with
  | none=>rw [List.filterMap_cons_none e];exact zDK l n2 fun x hx y hy=>h x (.tail _ hx) y (.tail _ hy)
  | some i =>
   rw [List.filterMap_cons_some e,List.filterMap_eq_nil_iff.mpr fun b hb=>?_]
   ·exact Nat.le_refl _
   ·cases e2:g b with
    | none=>rfl
    | some j=>exact absurd (h a (.head _) b (.tail _ hb) i j e e2 ▸ hb) n1
theorem zCQ {b:Int} {pt:Nat} {t:List Nat} {f:Nat} (hL:stL sn false=[]) (hw:wd<=40) (hc:fv (t.getD 0 0) < 0):((qU t wd f "right").filterMap (qD fg pl b sn z m pt false)).length<=1:=by
 have sr:kN "right" := .inr (.inl rfl)
 refine zDK _ (y2 sr hw) fun u hu v hv i j hi hj=>?_
 have eu:=ZU sr hw hu
 have ev:=ZU sr hw hv
 have fu:=V7 hL hi
 have fv':=V7 hL hj
 unfold pad at eu ev
 have pb : ∀ n:Int,(pB "right" n wd).toNat=0:=fun n=>by unfold pB;rw [pAr,Int.sub_self];rfl
 rw [pb,List.replicate_zero,append_nil] at eu ev
 generalize (pA "right" u.length wd).toNat=a at eu
 generalize (pA "right" v.length wd).toNat=c at ev
 have e:=eu.trans ev.symm
 rcases Nat.lt_trichotomy a c with l | l | l
 ·obtain ⟨x1,x2⟩:=Wg e l
  rw [ev] at x2;rw [x2] at hc;rw [x1] at fu
  exact absurd fu (Int.not_le.mpr hc)
 ·rw [l] at e;exact append_cancel_left e
 ·obtain ⟨x1,x2⟩:=Wg e.symm l
  rw [eu] at x2;rw [x2] at hc;rw [x1] at fv'
  exact absurd fv' (Int.not_le.mpr hc)
theorem zAR {b:Int} {pt:Nat} {t:List Nat} {f:Nat} (hs:kD sn) (hw:wd<=40):((cin t sn false wd f x st).filterMap (qD fg pl b sn z m pt false)).length+((cin t sn true wd f x st).filterMap (qD fg pl b sn z m pt true)).length<=42:=by
 have l0:=le_trans (List.length_filterMap_le (qD fg pl b sn z m pt false) (cin t sn false wd f x st)) (Xi (bl:=false) (f:=f) (x:=x) (st:=st) (t:=t) (sn:=sn) hw)
 have l1:=le_trans (List.length_filterMap_le (qD fg pl b sn z m pt true) (cin t sn true wd f x st)) (Xi (bl:=true) (f:=f) (x:=x) (st:=st) (t:=t) (sn:=sn) hw)
 by_cases hx:x = "inside"
 ·have same:stL sn false=stL sn true->((cin t sn false wd f x st).filterMap (qD fg pl b sn z m pt false)).length+((cin t sn true wd f x st).filterMap (qD fg pl b sn z m pt true)).length<=42:=fun e=>by
   have e2:cin t sn true wd f x st=cin t sn false wd f x st:=by unfold cin;rw [e]
   rw [e2]
   have tw:=two_ways (fg:=fg) (pl:=pl) (b:=b) (z:=z) (m:=m) (pt:=pt) hs (cin t sn false wd f x st)
   have:=Xi (bl:=false) (f:=f) (x:=x) (st:=st) (t:=t) (sn:=sn) hw
   omega
  have zero : ∀ bl c,stL sn bl=[c]->t.take 1≠[c]->cin t sn bl wd f x st=[]:=fun bl c e h=>by
   unfold cin
   rw [if_pos hx,e]
   unfold X3
   rw [if_neg (show ¬ t.take [c].length=[c] from h)];rfl
  have apart : ∀ c d,stL sn false=[c]->stL sn true=[d]->c≠d->((cin t sn false wd f x st).filterMap (qD fg pl b sn z m pt false)).length+((cin t sn true wd f x st).filterMap (qD fg pl b sn z m pt true)).length<=42:=fun c d e0 e1 hn=>by
   by_cases h0:t.take 1=[c]
   ·rw [zero true d e1 (fun h=>hn (List.singleton_inj.mp (h0.symm.trans h))),List.filterMap_nil,length_nil];omega
   ·rw [zero false c e0 h0,List.filterMap_nil,length_nil];omega
  have ahead : ∀ c,stL sn false=[]->stL sn true=[c]->fv c < 0->((cin t sn false wd f x st).filterMap (qD fg pl b sn z m pt false)).length+((cin t sn true wd f x st).filterMap (qD fg pl b sn z m pt true)).length<=42:=fun c e0 e1 hc=>by
   by_cases h0:t.take 1=[c]
   ·have ht:t.getD 0 0=c:=by
     cases t with
     | nil=>simp at h0
     | cons d r=>simp at h0;rw [h0];rfl
    have hone:=zCQ (fg:=fg) (pl:=pl) (b:=b) (z:=z) (m:=m) (pt:=pt) (t:=t) (wd:=wd) (f:=f) e0 hw (by rw [ht];exact hc)
    have e2:cin t sn false wd f x st=(qU t wd f "right").filter (nwd wd st):=by
     unfold cin
     rw [if_pos hx,e0]
     unfold X3
     rw [if_pos (by simp)]
     simp
    rw [e2]
    have:=Ym (g:=qD fg pl b sn z m pt false) (p:=nwd wd st) (qU t wd f "right")
    omega
   ·rw [zero true c e1 h0,List.filterMap_nil,length_nil];omega
  rcases hs with rfl | rfl | rfl | rfl | rfl
  ·exact ahead 45 (by decide +kernel) (by decide +kernel) (by decide +kernel)
  ·exact apart 43 45 (by decide +kernel) (by decide +kernel) (by decide)
  ·exact apart 32 45 (by decide +kernel) (by decide +kernel) (by decide)
  ·exact ahead 40 (by decide +kernel) (by decide +kernel) (by decide +kernel)
  ·exact same (by decide +kernel)
 ·have e : ∀ bl,cin t sn bl wd f x st=ucs t wd f x st:=fun bl=>by unfold cin;rw [if_neg hx]
  rw [e,e]
  have tw:=two_ways (fg:=fg) (pl:=pl) (b:=b) (z:=z) (m:=m) (pt:=pt) hs (ucs t wd f x st)
  have:=(KA (t:=t) (f:=f) (x:=x) (st:=st) hw).1
  omega
theorem zFl {t:List Nat} {f:Nat} (hs:kD sn) : ∀ c ∈ cin t sn bl wd f x st,c.length<=t.length+2/\(Asc t->Asc c):=fun c hc=>by
 unfold cin at hc
 split at hc
 ·have hc:=(List.mem_filter.mp hc).1
  obtain ⟨r,hr,rfl⟩:=List.mem_map.mp hc
  unfold X3 at hr
  split at hr
  ·have b:=y6 r hr
   have sl:=Jb hs bl
   have sa:=zAe hs bl
   rw [length_drop] at b
   exact ⟨by rw [length_append];omega,fun h=>sa.1.app (b.2 (h.drop _))⟩
  ·cases hr
 ·have b:=y6 c (List.mem_filter.mp hc).1
  exact ⟨by omega,b.2⟩
def yf (K:W.Frag) (C:Addr):Sp:=fun vs H Q _=>∃ (a:Addr) (fg pl b:Int) (sn:Str) (z:Int) (m pt:Nat) (wy:Str) (wd:Int) (f:Nat) (x:Str) (st:Bool) (t:List Nat) (bl:Bool),vs=[.ref a,.str (T t),.bl bl]/\zc K H a C wd f x st (jb fg pl b sn z m pt wy)/\QF fg pl b sn z m pt wy wd f x/\t.length<=300 /\ ∀ l H',zW H H'->H' l=some (.lst (tsV (cin t sn bl wd f x st)))->Q (.ref l) H'
include Z in
theorem yu:Gx P w K mg base CX0 "cores_in" [zH] 5 ["self", "text", "below"] (yf K zH):=by
 refine WR Z.bb (l3N (by intros;rfl)) fun fq fd F=>?_
 refine F.ok qa (fun vs H Q E=>?_) (fun _ _ _ s H vs Q E hr h=>?_)
 ·walk_at "ln"
 obtain ⟨a,fg,pl,b,sn,z,m,pt,wy,wd,f,x,st,t,bl,rfl,F0,ok,ht,q⟩:=h
 refine ⟨_,zC (zm (zQ QY (j0 (pv 0) rfl) (zY) (zU _)) (zE (zK (zo (ZJ (xI Z) in0) Z.bY qj hr (pv 0) (zA (pv 1) (zD))))) (zV))
  (zC (zJ (i:=3) qa.nd rfl (Or.inr rfl) (zR zT (zF (Qc Z) hr rfl (zA (j0 (pv 0) rfl) (zA (pv 2) (zD)))) (zB) (fun _ _=>rfl)))
  (zC (Jj (cl:=[("lead", s.heap.objs.size+1+1)]) (fr:=["lead"]) (is:=[3]) (i:=4) qa.nd rfl (Or.inl rfl) rfl rfl rfl ⟨rfl,trivial⟩ rfl ⟨⟨rfl,rfl,Or.inl rfl⟩,trivial⟩ (by decide) (by decide +kernel) rfl (by decide +kernel) rfl (jS (zF (ZR Z :) hr rfl (zA (pv 1) (zA (pv 3) (zA (j0 (pv 0) rfl) (zA (j0 (pv 0) rfl) (zD))))))) (fun _ _ _ _=>xT) (fun _ _ _ _=>zM zk (pv 1) (pv 0)))
  (zE (zK (ju (cl:=[("self", s.heap.objs.size+1+0)]) (fr:=["self"]) (is:=[0]) rfl rfl ⟨rfl,trivial⟩ rfl ⟨⟨rfl,rfl,Or.inl rfl⟩,trivial⟩ (by decide) (by decide +kernel) rfl (by decide +kernel) rfl (jS (pv 4)) (fun _ _ _ _=>y8 (qw (qc (zo (ZJ (qS Z) in0 :) Z.bY qj hr (pv 1) (zA (pv 0) (zD)))))) (fun _ _ _ _=>pv 0)))))),?_⟩
 walk_at "st"
 have sl:=Jb ok.sn bl
 have w0:=ok.wd1;have w1:=ok.wd2;have o7:=ok.sn
 have ec : ∀ b:Bool,(x = "inside")->cin t sn bl wd f x st=((X3 t (stL sn bl) wd f).map fun r=>stL sn bl++r).filter (nwd wd st):=fun _ h=>by unfold cin;rw [if_pos h]
 walk_at "rd"
 ·rename_i hc p0 s0 l1 H1 g1 n1 e1
  have F1:=F0.same g1
  have sl1:=Vl (t:=t) (l:=stL sn bl) (f:=f) w1
  have sb1 : ∀ r ∈ X3 t (stL sn bl) wd f,r.length<=t.length:=fun r hr=>by
   unfold X3 at hr
   split at hr
   ·have:=(y6 r hr).1
    rw [length_drop] at this
    omega
   ·cases hr
  refine qX (SqL.of e1) (qm (by rw [zr];omega)) (fun i ys H'=>H'=H1/\ys=tsV (((X3 t (stL sn bl) wd f).take i).map fun r=>stL sn bl++r)) ⟨rfl,rfl⟩ (fun i ys H' hi h=>⟨h.1 ▸ SqL.of e1,by rw [h.2,zr,length_map,length_take];omega⟩) ?_ ?_
  ·rintro i v ys H2 hv hi ⟨rfl,rfl⟩
   obtain ⟨c,hc2,rfl⟩:=yl hv
   have cb:=sb1 c (mem_of_getElem? hc2)
   walk_at "rd"
   refine nxC hi ⟨rfl,?_⟩
   rw [take_succ,hc2,map_append,<- xL];rfl
  ·rintro ys H2 ⟨rfl,rfl⟩ p2 H3 g3 n3 e3
   rw [take_of_length_le (by rw [zr];exact Nat.le_refl _)] at e3
   have F3:=F1.same g3
   have g03:=g1.trans g3
   generalize hcs:(X3 t (stL sn bl) wd f).map (fun r=>stL sn bl++r)=cs at e3
   have lcs:cs.length<=41:=by rw [<- hcs,length_map];exact sl1
   have bcs : ∀ c ∈ cs,c.length<=400:=fun c hc=>by
    rw [<- hcs] at hc
    obtain ⟨r,hr,rfl⟩:=List.mem_map.mp hc
    have:=sb1 r hr
    rw [length_append];omega
   walk_at "rd"
   refine qX (SqL.of e3) (qm (by rw [zr];omega)) (fun i ys H'=>zW H3 H'/\ys=tsV ((cs.take i).filter (nwd wd st))) ⟨zW.refl _,rfl⟩ (fun i ys H' hi h=>⟨SqL.of (h.1.at e3),by rw [h.2,zr];exact le_trans (length_filter_le _ _) (by rw [length_take];omega)⟩) ?_ ?_
   ·rintro i v ys H4 hv hi ⟨g4,rfl⟩
    obtain ⟨c,hc2,rfl⟩:=yl hv
    have F4:=F3.same g4
    have cb:=bcs c (mem_of_getElem? hc2)
    walk_at "rd"
    ·rename_i hk
     refine nxC hi ⟨g4,?_⟩
     rw [Yv hc2,filter_cons_of_pos (show nwd wd st c=true from hk),<- xL];rfl
    ·rename_i hk
     refine nxC hi ⟨g4,?_⟩
     rw [Yv hc2,filter_cons_of_neg (show ¬ nwd wd st c=true by unfold nwd;rw [hk];decide),filter_nil,append_nil]
   ·rintro ys H4 ⟨g4,rfl⟩ p4 H5 g5 n5 e5
    rw [take_of_length_le (by rw [zr];exact Nat.le_refl _)] at e5
    exact q _ _ (g03.trans (g4.trans g5)) (by rw [ec true hc,hcs];exact e5)
 ·rename_i hc
  have sx:kN x:=ok.x.elim id fun z=>absurd z hc
  refine ZM (.num F0) sx (by omega) w0 w1 fun l1 H1 g1 e1=>?_
  exact q _ _ g1 (by unfold cin;rw [if_neg hc];exact e1)
def jD (K:W.Frag) (C:Addr):Sp:=fun vs H Q _=>∃ (a:Addr) (fg pl b:Int) (sn:Str) (z:Int) (m pt:Nat) (wy:Str) (wd:Int) (f:Nat) (x:Str) (st:Bool) (t:List Nat) (bl:Bool),vs=[.ref a,.str (T t),.bl bl]/\zc K H a C wd f x st (jb fg pl b sn z m pt wy)/\QF fg pl b sn z m pt wy wd f x/\Asc t/\t.length<=300 /\ ∀ l H',zW H H'->H' l=some (.lst (((cin t sn bl wd f x st).filterMap (qD fg pl b sn z m pt bl)).map V.int))->Q (.ref l) H'
theorem Zq {a:Addr} {b:Int} {pt:Nat} {f:Nat} {t:List Nat} (h1:zc K H a C wd f x st (jb fg pl b sn z m pt wy)) (h2:QF fg pl b sn z m pt wy wd f x) (h4:Asc t) (h5:t.length<=300) (q : ∀ l H',zW H H'->H' l=some (.lst (((cin t sn bl wd f x st).filterMap (qD fg pl b sn z m pt bl)).map V.int))->Q (.ref l) H'):jD K C (.ref a::([.str (T t),.bl bl]++[])) H Q E:=⟨a,fg,pl,b,sn,z,m,pt,wy,wd,f,x,st,t,bl,rfl,h1,h2,h4,h5,q⟩
theorem zIV (g:List Nat->Option Int) (cs:List (List Nat)):((cs.map fun c=>oV (g c)).filter fun v=>decide (v ≠ .non))=(cs.filterMap g).map V.int:=by
 induction cs with
 | nil=>rfl
 | cons c cs ih =>
  rw [map_cons,filterMap_cons]
  cases h:g c with
  | none=>rw [filter_cons_of_neg (by simp [oV]),ih]
  | some k=>rw [filter_cons_of_pos (by simp [oV]),ih];rfl
include Z in
theorem jT:Gx P w K mg base CX0 "numbers_in" [zH] 6 ["self", "text", "below"] (jD K zH):=by
 refine WR Z.bc (l3N (by intros;rfl)) fun fq fd F=>?_
 refine F.ok jN (fun vs H Q E=>?_) (fun _ _ _ s H vs Q E hr h=>?_)
 ·walk_at "ln"
 obtain ⟨a,fg,pl,b,sn,z,m,pt,wy,wd,f,x,st,t,bl,rfl,F0,ok,at',ht,q⟩:=h
 refine ⟨_,zC (Jj (cl:=[("self", s.heap.objs.size+1+0),("below", s.heap.objs.size+1+1)]) (fr:=["below", "self"]) (is:=[2,0]) (i:=3) jN.nd rfl (Or.inl rfl) rfl rfl rfl ⟨rfl,⟨rfl,trivial⟩⟩ rfl ⟨⟨rfl,rfl,Or.inl rfl⟩,⟨⟨rfl,rfl,Or.inl rfl⟩,trivial⟩⟩ (by decide) (by decide +kernel) rfl (by decide +kernel) rfl (jS (zo (ZJ (yu Z) in0 :) Z.bY qj hr (pv 0) (zA (pv 1) (zA (pv 2) (zD))))) (fun _ _ _ _=>xT) (fun _ _ _ _=>zo (ZJ (x0 Z) in0 :) Z.bY qj hr (pv 2) (zA (pv 0) (zA (pv 1) (zD)))))
  (zE (zK (ju (cl:=[]) (fr:=[]) (is:=[]) rfl rfl trivial rfl trivial (by decide) (by decide +kernel) rfl (by decide +kernel) rfl (jS (pv 3)) (fun _ _ _ _=>y8 (zQ V2 (pv 0) (wR) (zU _))) (fun _ _ _ _=>pv 0)))),?_⟩
 walk_at "st"
 have ul:=Xi (t:=t) (sn:=sn) (bl:=bl) (f:=f) (x:=x) (st:=st) ok.wd2
 have ub:=zFl (t:=t) (bl:=bl) (wd:=wd) (f:=f) (x:=x) (st:=st) ok.sn
 walk_at "rd"
 refine ⟨a,fg,pl,b,sn,z,m,pt,wy,wd,f,x,st,t,bl,rfl,F0,ok,ht,fun l1 H1 g1 e1=>?_⟩
 have F1:=F0.same g1
 refine qX (SqL.of e1) (qm (by rw [zr];omega)) (fun i ys H'=>zW H1 H'/\ys=((cin t sn bl wd f x st).take i).map fun c=>oV (qD fg pl b sn z m pt bl c)) ⟨zW.refl _,rfl⟩ (fun i ys H' hi h=>⟨SqL.of (h.1.at e1),by rw [h.2,length_map,length_take];omega⟩) ?_ ?_
 ·rintro i v ys H2 hv hi ⟨g2,rfl⟩
  obtain ⟨c,hc,rfl⟩:=yl hv
  have F2:=F1.same g2
  have cb:=ub c (mem_of_getElem? hc)
  walk_at "rd"
  refine Xf F2 ok (cb.2 at') (by omega) fun H3 g3=>nxC hi ⟨g2.trans g3,?_⟩
  rw [take_succ,hc,map_append];rfl
 ·rintro ys H2 ⟨g2,rfl⟩ p2 H3 g3 n3 e3
  rw [take_of_length_le (by rw [zr];exact Nat.le_refl _)] at e3
  have g03:=g1.trans (g2.trans g3)
  walk_at "rd"
  generalize hks:(cin t sn bl wd f x st).map (fun c=>oV (qD fg pl b sn z m pt bl c))=ks at e3
  have lk:ks.length<=41:=by rw [<- hks,length_map];exact ul
  refine qX (SqL.of e3) (qm (by omega)) (fun i ys H'=>zW H3 H'/\ys=(ks.take i).filter fun v=>decide (v ≠ .non)) ⟨zW.refl _,rfl⟩ (fun i ys H' hi h=>⟨SqL.of (h.1.at e3),by rw [h.2];exact le_trans (length_filter_le _ _) (by rw [length_take];omega)⟩) ?_ ?_
  ·rintro i v ys H4 hv hi ⟨g4,rfl⟩
   have hm:v ∈ (cin t sn bl wd f x st).map fun c=>oV (qD fg pl b sn z m pt bl c):=hks ▸ mem_of_getElem? hv
   obtain ⟨c,_,hov⟩:=List.mem_map.mp hm
   cases ho:qD fg pl b sn z m pt bl c with
   | none =>
    have hov:V.non=v:=by rw [ho] at hov;exact hov
    subst hov
    walk_at "rd"
    refine ⟨rfl,?_⟩
    rw [decide_eq_true rfl]
    walk_at "rd"
    refine nxC hi ⟨g4,?_⟩
    rw [Yv hv,filter_cons_of_neg (by simp),filter_nil,append_nil]
   | some k =>
    have hov:V.int k=v:=by rw [ho] at hov;exact hov
    subst hov
    walk_at "rd"
    refine zDn ?_
    walk_at "rd"
    refine nxC hi ⟨g4,?_⟩
    rw [Yv hv,filter_cons_of_pos (by simp),filter_nil]
  ·rintro ys H4 ⟨g4,rfl⟩ p4 H5 g5 n5 e5
   rw [take_length,<- hks,zIV] at e5
   exact q _ _ (g03.trans (g4.trans g5)) e5
noncomputable def nks (fg pl b:Int) (sn:Str) (z:Int) (m pt:Nat) (wd:Int) (f:Nat) (x:Str) (st:Bool) (t:List Nat):List Int:=(cin t sn false wd f x st).filterMap (qD fg pl b sn z m pt false)++(cin t sn true wd f x st).filterMap (qD fg pl b sn z m pt true)
def jE (K:W.Frag) (C:Addr):Sp:=fun vs H Q _=>∃ (a:Addr) (fg pl b:Int) (sn:Str) (z:Int) (m pt:Nat) (wy:Str) (wd:Int) (f:Nat) (x:Str) (st:Bool) (t:List Nat),vs=[.ref a,.str (T t)]/\zc K H a C wd f x st (jb fg pl b sn z m pt wy)/\QF fg pl b sn z m pt wy wd f x/\Asc t/\t.length<=300 /\ ∀ l H' us ms,zW H H'->H l=none->H' l=some (.lst us)->ms.Perm (nks fg pl b sn z m pt wd f x st t)->ms.Pairwise (· <= ·)->Al (RT H' (b ^ pl.toNat)) us ms->Q (.ref l) H'
include Z in
theorem z9:Gx P w K mg base CX0 "values_for" [zH] 7 ["self", "text"] (jE K zH):=by
 refine WR Z.bd (l2N (by intros;rfl)) fun fq fd F=>?_
 refine F.ok jM (fun vs H Q E=>?_) (fun _ _ _ s H vs Q E hr h=>?_)
 ·walk_at "ln"
 obtain ⟨a,fg,pl,b,sn,z,m,pt,wy,wd,f,x,st,t,rfl,F0,ok,at',ht,q⟩:=h
 refine ⟨_,zC (zJ (i:=2) jM.nd rfl (Or.inl rfl) (zM zAH (zo (ZJ (jT Z) in0) Z.bY qj hr (pv 0) (zA (pv 1) (zA (yJ) (zD)))) (zo (ZJ (jT Z) in0) Z.bY qj hr (pv 0) (zA (pv 1) (zA (yJ) (zD))))))
  (zE (zK (ju (cl:=[("self", s.heap.objs.size+1+0)]) (fr:=["self"]) (is:=[0]) rfl rfl ⟨rfl,trivial⟩ rfl ⟨⟨rfl,rfl,Or.inl rfl⟩,trivial⟩ (by decide) (by decide +kernel) rfl (by decide +kernel) rfl (jS (zI Y7 Z.aA rfl Ys (zA (pv 2) (zD)))) (fun _ _ _ _=>xT) (fun _ _ _ _=>zF (Xq Z :) hr rfl (zA (pv 0) (zA (yG (K:=K) rfl (pv 1) rfl) (zA (yG (K:=K) rfl (pv 1) rfl) (zD)))))))),?_⟩
 walk_at "st"
 have tw:=zAR (fg:=fg) (pl:=pl) (b:=b) (z:=z) (m:=m) (pt:=pt) (t:=t) (f:=f) (x:=x) (st:=st) ok.sn ok.wd2
 have o3:=ok.pl1;have o4:=ok.pl2;have o5:=ok.b1;have o6:=ok.b2
 walk_at "rd"
 refine Zq F0 ok at' ht fun l1 H1 g1 e1=>?_
 have F1:=F0.same g1
 walk_at "rd"
 refine Zq F1 ok at' ht fun l2 H2 g2 e2=>?_
 have F2:=F1.same g2
 have e12:=g2.at e1
 generalize hA:(cin t sn false wd f x st).filterMap (qD fg pl b sn z m pt false)=A at *
 generalize hB:(cin t sn true wd f x st).filterMap (qD fg pl b sn z m pt true)=Bs at *
 walk_at "rd"
 refine zG3 e12 e2 (qm (by rw [length_map,length_map];omega)) fun l3 H3 g3 e3=>?_
 rw [<- map_append] at e3
 have F3:=F2.same g3
 walk_at "rd"
 refine zBV (SqL.of e3) (by rw [length_append];omega) fun ms l4 H4 pm ps g4 e4=>?_
 have F4:=F3.same g4
 have lm:ms.length<=42:=by rw [pm.length_eq,length_append];omega
 refine qX (SqL.of e4) (qm (by rw [length_map];omega)) (fun i ys H'=>zW H4 H'/\Al (RT H' (b ^ pl.toNat)) ys (ms.take i)) ⟨zW.refl _,.nil⟩ (fun i ys H' hi h=>⟨SqL.of (h.1.at e4),by rw [h.2.len,length_take];omega⟩) ?_ ?_
 ·rintro i v ys H5 hv hi ⟨g5,al⟩
  obtain ⟨k,hk,rfl⟩ : ∃ k,ms[i]? = some k/\v = .int k:=by
   rw [getElem?_map] at hv
   cases hc:ms[i]? with
   | none=>rw [hc] at hv;cases hv
   | some c=>rw [hc] at hv;cases hv;exact ⟨c,rfl,rfl⟩
  have F5:=F4.same g5
  walk_at "rd"
  rename_i p6 H6 g6 e6
  refine nxC hi ⟨g5.trans g6,?_⟩
  rw [take_succ,hk]
  exact (al.imp fun _ _ h=>h.same g6).app (.one ⟨p6,rfl,e6⟩)
 ·rintro ys H5 ⟨g5,al⟩ p6 H6 g6 n6 e6
  rw [take_of_length_le (by rw [length_map];exact Nat.le_refl _)] at al
  refine q _ _ _ ms (by walk_at "sm") (none_of (by walk_at "sm") n6) e6 ?_ ps (al.imp fun _ _ h=>h.same g6)
  unfold nks
  rw [hA,hB]
  exact pm
theorem zG5 {X:Cx} (e:X.K=K):OpR X (compareOp .In) (rIn K false):=e ▸ Yf
def cvs (ns:List (List Nat)) (t:List Nat) (wd:Int) (f:Nat) (x:Str) (st:Bool):List (List Nat):=ns.filter fun n=>decide (n ∈ ucs t wd f x st)
def jF (K:W.Frag) (C:Addr):Sp:=fun vs H Q _=>∃ (a L:Addr) (ns:List (List Nat)) (wd:Int) (f:Nat) (x:Str) (st:Bool) (t:List Nat),vs=[.ref a,.str (T t)]/\zc K H a C wd f x st (Y4 L)/\H L=some (.lst (tsV ns))/\ns.length<=40/\kN x/\0<=wd/\wd<=40/\t.length<=400 /\ ∀ l H',zW H H'->H l=none->H' l=some (.lst (tsV (cvs ns t wd f x st)))->Q (.ref l) H'
include Z in
theorem qA:Gx P w K mg base CX0 "values_for" [zN] 5 ["self", "text"] (jF K zN):=by
 refine WR Z.be (l2N (by intros;rfl)) fun fq fd F=>?_
 refine F.ok jL (fun vs H Q E=>?_) (fun _ _ _ s H vs Q E hr h=>?_)
 ·walk_at "ln"
 obtain ⟨a,L,ns,wd,f,x,st,t,rfl,F0,e0,nl,hs,w0,w1,ht,q⟩:=h
 refine ⟨_,zC (zJ (i:=2) jL.nd rfl (Or.inr rfl) (zo (ZJ (xI Z) in1) Z.b4 qj hr (pv 0) (zA (pv 1) (zD))))
  (zE (zK (ju (cl:=[("cores", s.heap.objs.size+1+0)]) (fr:=["cores"]) (is:=[2]) rfl rfl ⟨rfl,trivial⟩ rfl ⟨⟨rfl,rfl,Or.inl rfl⟩,trivial⟩ (by decide) (by decide +kernel) rfl (by decide +kernel) rfl (jS (j0 (pv 0) rfl)) (fun _ _ _ _=>y8 (zQ (zG5 (K:=K) rfl) (pv 0) (pv 1) (by with_unfolding_all rfl))) (fun _ _ _ _=>pv 0)))),?_⟩
 walk_at "st"
 walk_at "rd"
 refine ZM (.cho F0) hs ht w0 w1 fun l1 H1 g1 e1=>?_
 have F1:=F0.same g1
 have e01:=g1.at e0
 walk_at "rd"
 refine qX (SqL.of e01) (qm (by rw [zr];omega)) (fun i ys H'=>zW H1 H'/\ys=tsV ((ns.take i).filter fun n=>decide (n ∈ ucs t wd f x st))) ⟨zW.refl _,rfl⟩ (fun i ys H' hi h=>⟨SqL.of (h.1.at e01),by rw [h.2,zr];exact le_trans (length_filter_le _ _) (by rw [length_take];omega)⟩) ?_ ?_
 ·rintro i v ys H2 hv hi ⟨g2,rfl⟩
  obtain ⟨c,hc,rfl⟩:=yl hv
  have e12:=g2.at e1
  walk_at "rd"
  ·rename_i hk
   refine nxC hi ⟨g2,?_⟩
   rw [Yv hc,filter_cons_of_pos (p:=fun n=>decide (n ∈ ucs t wd f x st)) (decide_eq_true hk),<- xL];rfl
  ·rename_i hk
   refine nxC hi ⟨g2,?_⟩
   rw [Yv hc,filter_cons_of_neg (p:=fun n=>decide (n ∈ ucs t wd f x st)) (by simpa using hk),filter_nil,append_nil]
 ·rintro ys H2 ⟨g2,rfl⟩ p2 H3 g3 n3 e3
  rw [take_of_length_le (by rw [zr];exact Nat.le_refl _)] at e3
  exact q _ _ (g1.trans (g2.trans g3)) (none_of (g1.trans g2) n3) e3
def wvs (sg:List Nat) (lo hi:Int) (t:List Nat) (wd:Int) (f:Nat) (x:Str) (st:Bool):List (List Nat):=(ucs t wd f x st).filter fun c=>decide (Isw sg lo hi c)
def jZ (K:W.Frag) (C:Addr):Sp:=fun vs H Q _=>∃ (a:Addr) (sg:List Nat) (lo hi:Int) (wd:Int) (f:Nat) (x:Str) (st:Bool) (t:List Nat),vs=[.ref a,.str (T t)]/\zc K H a C wd f x st (k8 sg lo hi)/\kN x/\0<=wd/\wd<=40/\t.length<=400 /\ ∀ l H' ds,zW H H'->H l=none->H' l=some (.lst (tsV ds))->ds.Perm (wvs sg lo hi t wd f x st)->SrT ds->Q (.ref l) H'
include Z in
theorem qL:Gx P w K mg base CX0 "values_for" [zP] 5 ["self", "text"] (jZ K zP):=by
 refine WR Z.bf (l2N (by intros;rfl)) fun fq fd F=>?_
 refine F.ok yY (fun vs H Q E=>?_) (fun _ _ _ s H vs Q E hr h=>?_)
 ·walk_at "ln"
 obtain ⟨a,sg,lo,hi,wd,f,x,st,t,rfl,F0,hs,w0,w1,ht,q⟩:=h
 refine ⟨_,zE (zK (zI XR Z.aA rfl Ys (zA (ju (cl:=[("self", s.heap.objs.size+1+0)]) (fr:=["self"]) (is:=[0]) rfl rfl ⟨rfl,trivial⟩ rfl ⟨⟨rfl,rfl,Or.inl rfl⟩,trivial⟩ (by decide) (by decide +kernel) rfl (by decide +kernel) rfl (jS (zo (ZJ (xI Z) in2 :) Z.b1 qj hr (pv 0) (zA (pv 1) (zD)))) (fun _ _ _ _=>y8 (qc (zo (ZJ (wY Z) in0 :) Z.b1 qj hr (pv 1) (zA (pv 0) (zD))))) (fun _ _ _ _=>pv 0)) (zD)))),?_⟩
 walk_at "st"
 obtain ⟨ul,ub⟩:=KA (t:=t) (f:=f) (x:=x) (st:=st) w1
 walk_at "rd"
 refine ZM (.word F0) hs ht w0 w1 fun l1 H1 g1 e1=>?_
 have F1:=F0.same g1
 refine qX (SqL.of e1) (qm (by rw [zr];omega)) (fun i ys H'=>zW H1 H'/\ys=tsV (((ucs t wd f x st).take i).filter fun c=>decide (Isw sg lo hi c))) ⟨zW.refl _,rfl⟩ (fun i ys H' hi h=>⟨SqL.of (h.1.at e1),by rw [h.2,zr];exact le_trans (length_filter_le _ _) (by rw [length_take];omega)⟩) ?_ ?_
 ·rintro i v ys H2 hv hi' ⟨g2,rfl⟩
  obtain ⟨c,hc,rfl⟩:=yl hv
  have F2:=F1.same g2
  have cb:=(ub c (mem_of_getElem? hc)).1
  walk_at "rd"
  ·rename_i H3 g3 hk
   refine nxC hi' ⟨g2.trans g3,?_⟩
   rw [Yv hc,filter_cons_of_pos (p:=fun c=>decide (Isw sg lo hi c)) (by simpa using hk),<- xL];rfl
  ·rename_i H3 g3 hk
   refine nxC hi' ⟨g2.trans g3,?_⟩
   rw [Yv hc,filter_cons_of_neg (p:=fun c=>decide (Isw sg lo hi c)) (by simpa using hk),filter_nil,append_nil]
 ·rintro ys H2 ⟨g2,rfl⟩ p2 H3 g3 n3 e3
  rw [take_of_length_le (by rw [zr];exact Nat.le_refl _)] at e3
  walk_at "rd"
  refine WK e3 (Nat.lt_of_le_of_lt (length_filter_le _ _) (by omega)) fun ds l4 H4 pm so g4 n4 e4=>?_
  exact q _ _ _ (g1.trans (g2.trans (g3.trans g4))) (none_of (g1.trans (g2.trans g3)) n4) e4 pm so
theorem zB8 {b:Int} (hb:0 < b):Int.gcd (xO t b) (jt t b)=1:=by
 unfold xO jt kA
 have e0:(0:Int)<=(Int.gcd t b:Int):=by omega
 rw [if_neg (show ¬ b < 0 by omega),Int.fdiv_eq_ediv_of_nonneg _ e0,Int.fdiv_eq_ediv_of_nonneg _ e0]
 exact Int.gcd_ediv_gcd_ediv_gcd (Int.gcd_pos_of_ne_zero_right _ (show b≠0 by omega))
def Za (pl b:Int) (sn:Str) (z:Int) (m pt:Nat) (k:Int):List Nat:=bdI k.natAbs b pl pt z m++stT sn (decide (k < 0))
theorem zGn {b n:Int} (o1:1<=fg) (o2:fg<=12) (o3:0<=pl) (o4:pl<=6) (o5:2<=b) (o6:b<=16) (h0:0<=n) (h:JO fg pl b n):n < 1766847064778384329583297500742918515827483896875618958121606201292619776:=by
 unfold JO at h
 have a:=zHu (b:=b) (n:=(fg+pl).toNat) o5 o6 (by omega)
 have e:((b.toNat ^ (fg+pl).toNat:Nat):Int)=b ^ (fg+pl).toNat:=by rw [natCast_pow,Int.toNat_of_nonneg (by omega)]
 omega
inductive VlA (H:Hp) (v:V):Fd->List Nat->List Nat->Prop
 | num {p:Addr} {fg pl b:Int} {sn:Str} {z:Int} {m pt:Nat} {wy:Str} {k:Int} (hv:v = .ref p) (hp:H p=some (.tup [.int (xO k (b ^ pl.toNat)),.int (jt k (b ^ pl.toNat))])) (lim:JO fg pl b k):VlA H v (.num fg pl b sn z m pt wy) (stL sn (decide (k < 0))) (Za pl b sn z m pt k)
 | word {sg:List Nat} {lo hi:Int} {t:List Nat} (hv:v = .str (T t)) (iw:Isw sg lo hi t):VlA H v (.word sg lo hi) [] t
 | cho {ns:Ce} {t:List Nat} (hv:v = .str (T t)) (hm:t ∈ ns):VlA H v (.cho ns) [] t
variable {ld rs:List Nat}
theorem VlA.same (g:zW H H') (h:VlA H v d ld rs):VlA H' v d ld rs:=by
 cases h with
 | num hv hp lim=>exact .num hv (g.at hp) lim
 | word hv iw=>exact .word hv iw
 | cho hv hm=>exact .cho hv hm
def okS (wd:Int) (f:Nat) (x:Str):Fd->Prop
 | .num fg pl b sn z m pt wy=>QF fg pl b sn z m pt wy wd f x
 | .word sg lo hi=>WdS sg lo hi wd f x
 | .cho ns=>ChS ns wd f x
theorem Je.okS {f:Nat} (h:Je K H o cN cW cC wd f x st d):okS wd f x d:=by
 cases h <;> assumption
theorem VlA.ok {f:Nat} (D:okS wd f x d) (h:VlA H v d ld rs):ld.length<=2/\rs.length<=200/\Asc ld/\Asc rs:=by
 cases h with
 | @num q fg pl b sn z m pt wy k hv hp lim =>
  have ok:QF fg pl b sn z m pt wy wd f x:=D
  obtain ⟨nb,n2,n3,n4⟩:=XY ok lim
  have sl:=Jb ok.sn (decide (k < 0))
  have sa:=zAe ok.sn (decide (k < 0))
  have bs:=KG (z:=z.toNat) (b:=b.toNat) (p:=pl.toNat) (n:=(k.natAbs:Int).toNat) (by have:=ok.b1;omega) (by have:=ok.b2;omega) (by have:=ok.pl2;omega) nb.2.2.2.2.2 ok.pt ok.m
  refine ⟨by omega,?_,sa.1,?_⟩
  ·unfold Za bdI;rw [length_append];have:=bs.2.2;omega
  ·unfold Za bdI;exact bs.2.1.app sa.2
 | @word sg lo hi t hv iw =>
  have ok:WdS sg lo hi wd f x:=D
  have h1:=iw.1.2;have h2:=ok.hi2
  exact ⟨by decide,by omega,Asc.nil,fun c hc=>ok.sa c (iw.2 c hc)⟩
 | @cho ns t hv hm =>
  have ok:ChS ns wd f x:=D
  exact ⟨by decide,le_trans (ok.len _ hm) (by decide),Asc.nil,ok.ta _ hm⟩
theorem zBr {b p pt z n:Nat} (h2:2<=b) (h16:b<=16) (hp:p<=6) (h:n < b ^ (40+p)):IsB b p pt z m (bdy b p pt z m n)/\KR b p z (bdy b p pt z m n)=n:=by
 obtain ⟨d1,d2,d3,d4,d5⟩:=QN h2 h16 hp h
 have ul:(whl b p n).length=(dgs b p n).length - p:=by unfold whl;rw [length_take];omega
 have rl:(rst b p n).length=p:=by unfold rst;rw [length_drop];omega
 have ur:whl b p n++rst b p n=dgs b p n:=List.take_append_drop _ _
 generalize hu:whl b p n=u at *
 generalize hr:rst b p n=r at *
 generalize dgs b p n=D at *
 have key:WE p pt (bdy b p pt z m n)/\jO p (bdy b p pt z m n)=gr z m u/\ZE p (bdy b p pt z m n)=r:=by
  unfold bdy WE jO ZE
  rw [hu,hr]
  rcases Nat.eq_zero_or_pos p with e | e
  ·subst e
   rw [if_pos rfl]
   exact ⟨.inl rfl,rfl,(List.length_eq_zero_iff.mp rl).symm⟩
  ·rw [if_neg (by omega),if_neg (by omega),if_neg (by omega)]
   have tl:(gr z m u++[pt]++r).length=(gr z m u).length+1+p:=by rw [length_append,length_append,rl];rfl
   rw [tl]
   have e1:(gr z m u).length+1+p - p - 1=(gr z m u).length:=by omega
   have e2:(gr z m u).length+1+p - p=(gr z m u++[pt]).length:=by rw [length_append,length_singleton];omega
   refine ⟨.inr ⟨by omega,?_⟩,?_,?_⟩
   ·rw [e1,append_assoc,getD_eq_getElem?_getD,List.getElem?_append_right (Nat.le_refl _),Nat.sub_self];rfl
   ·rw [e1,append_assoc,take_left]
   ·rw [e2,drop_left]
 obtain ⟨k1,k2,k3⟩:=key
 unfold IsB KR
 rw [k2,k3,zCH,ur]
 refine ⟨⟨k1,⟨by rw [zCH];omega,by rw [zCH];omega,by rw [zCH]⟩,d1,?_⟩,d2⟩
 rintro ⟨a,c⟩
 have:D.getD 0 0=48:=by rw [<- ur,getD_eq_getElem?_getD,List.getElem?_append_left (by omega),<- getD_eq_getElem?_getD];exact c
 have:=d5 this
 omega
variable {B:List Nat}
theorem W1:bod sn bl (sg sn bl B)=B:=by
 unfold bod sg
 rw [length_append,Nat.add_sub_cancel,take_left,drop_left]
theorem xu {b:Int} {pt:Nat}:yZ pl b sn z m pt k=stL sn (decide (k < 0))++Za pl b sn z m pt k:=by unfold yZ sg Za;rw [append_assoc]
theorem WA {b:Int} {pt:Nat} {f:Nat} (ok:QF fg pl b sn z m pt wy wd f x) (h:JO fg pl b k):qD fg pl b sn z m pt (decide (k < 0)) (yZ pl b sn z m pt k)=some k:=by
 obtain ⟨nb,n2,n3,n4⟩:=XY ok h
 obtain ⟨B,rfl⟩:=eq_ofNat_of_zero_le (show 0<=b by have:=ok.b1;omega)
 have o5:=ok.b1;have o6:=ok.b2;have o4:=ok.pl2;have o3:=ok.pl1
 have nb6:=nb.2.2.2.2.2
 rw [toNat_natCast,toNat_natCast] at nb6
 obtain ⟨i1,i2⟩:=zBr (b:=B) (p:=pl.toNat) (pt:=pt) (z:=z.toNat) (m:=m) (n:=k.natAbs) (by omega) (by omega) (by omega) nb6
 have eb:bod sn (decide (k < 0)) (yZ pl B sn z m pt k)=bdy B pl.toNat pt z.toNat m k.natAbs:=by
  unfold yZ;rw [W1];unfold bdI;rw [toNat_natCast,toNat_natCast]
 have pe:((B ^ (fg+pl).toNat:Nat):Int)=(B:Int) ^ (fg+pl).toNat:=natCast_pow ..
 unfold JO at h
 rw [toNat_natCast] at h
 unfold qD
 rw [eb,i2,if_pos ⟨n2,i1,by omega,fun e=>by have:=of_decide_eq_true e;omega⟩]
 by_cases e:k < 0
 ·rw [if_pos (decide_eq_true e)];congr 1;omega
 ·rw [if_neg (by simpa using e)];congr 1;omega
theorem W2 {n f:Nat} (hf:f < 127):Asc (List.replicate n f):=fun c hc=>by rw [(List.mem_replicate.mp hc).2];exact hf
theorem Wa {t:List Nat} {f:Nat} (h:Asc t) (hf:f < 127):Asc (pad t wd f x):=((W2 hf).app h).app (W2 hf)
theorem Wf {f:Nat} (sx:XS x) (w0:0<=wd) (hw:wd<=40) (hf:f < 127) (l1:ld.length<=2) (l2:rs.length<=200) (a1:Asc ld) (a2:Asc rs):Asc (Zb ld (ld++rs) wd f x)/\(Zb ld (ld++rs) wd f x).length<=250:=by
 unfold Zb
 split
 ·rw [drop_left]
  have pl:=XC (f:=f) (xl (x:="right") (n:=rs.length) (w:=wd - ld.length) (.inr (.inl rfl)) (by omega) (by omega))
  have b2:=Z8 rs.length (wd - ld.length) (by omega) (by omega)
  exact ⟨a1.app (Wa a2 hf),by rw [length_append];omega⟩
 ·rename_i hc
  have sx':kN x:=sx.elim id fun z=>absurd z hc
  have pl:=XC (f:=f) (xl (x:=x) (n:=(ld++rs).length) (w:=wd) sx' (by omega) hw)
  have b2:=Z8 (ld++rs).length wd (by omega) hw
  rw [length_append] at pl b2
  exact ⟨Wa (a1.app a2) hf,by omega⟩
def sD (t:List Nat):PyData:=.str (T t)
def rD (S k:Int):PyData:=.tuple [.int (xO k S),.int (jt k S)]
theorem Y1 {t:List Nat} {f:Nat} (sx:kN x) (hw:wd<=40) {c:List Nat}:c ∈ ucs t wd f x st↔pad c wd f x=t/\nwd wd st c=true:=by
 unfold ucs
 rw [mem_filter,ZN sx hw]
theorem YQ {t:List Nat} {f:Nat} (sx:kN x) (hw:wd<=40):(ucs t wd f x st).Nodup:=List.Pairwise.filter _ (y2 sx hw)
theorem xp {b:Int} {pt:Nat} {f:Nat} {c:List Nat} (ok:QF fg pl b sn z m pt wy wd f x) (h:qD fg pl b sn z m pt bl c=some k):JO fg pl b k/\decide (k < 0)=bl/\c=yZ pl b sn z m pt k:=by
 have o1:=ok.fg1;have o2:=ok.fg2;have o3:=ok.pl1;have o4:=ok.pl2;have o5:=ok.b1;have o6:=ok.b2
 obtain ⟨B,rfl⟩:=eq_ofNat_of_zero_le (show 0<=b by omega)
 unfold qD at h
 split at h
 ·rename_i a
  obtain ⟨sd,ib,lt,pos⟩:=a
  obtain ⟨v0,v1,v2⟩:=zBa (b:=B) (p:=pl.toNat) (by omega) (by omega) (by omega) ib
  have pe:((B ^ (fg+pl).toNat:Nat):Int)=(B:Int) ^ (fg+pl).toNat:=natCast_pow ..
  generalize hv:KR (B:Int) pl.toNat z.toNat (bod sn bl c)=v at *
  have fin:decide (k < 0)=bl/\k.natAbs=v.toNat:=by
   cases bl with
   | true =>
    have p:=pos rfl
    rw [if_pos rfl] at h
    have:k = -v:=by cases h;rfl
    exact ⟨decide_eq_true (by omega),by omega⟩
   | false =>
    rw [if_neg (by decide)] at h
    have:k=v:=by cases h;rfl
    exact ⟨decide_eq_false (by omega),by omega⟩
  refine ⟨by unfold JO;rw [toNat_natCast,fin.2];omega,fin.1,?_⟩
  unfold yZ bdI
  rw [fin.1,toNat_natCast,toNat_natCast,fin.2,v2]
  exact sd.2.symm
 ·cases h
theorem Wb {t:List Nat} {f:Nat} (sx:XS x) (hw:wd<=40):stL sn bl++rs ∈ cin t sn bl wd f x st↔Zb (stL sn bl) (stL sn bl++rs) wd f x=t/\nwd wd st (stL sn bl++rs)=true:=by
 unfold cin Zb
 split
 ·rw [drop_left,mem_filter]
  refine and_congr ?_ Iff.rfl
  rw [mem_map]
  unfold X3
  constructor
  ·rintro ⟨r,hr,e⟩
   rw [append_cancel_left e] at hr
   split at hr
   ·rename_i ht
    rw [ZN (.inr (.inl rfl)) (by omega)] at hr
    rw [hr]
    conv=>rhs;rw [<- List.take_append_drop (stL sn bl).length t,ht]
   ·cases hr
  ·intro e
   refine ⟨rs,?_,rfl⟩
   rw [if_pos (by rw [<- e,take_left]),ZN (.inr (.inl rfl)) (by omega),<- e,drop_left]
 ·rename_i hx
  exact Y1 (sx.elim id fun z=>absurd z hx) hw
theorem zAk {b:Int} {pt:Nat} {f:Nat} {t:List Nat} (ok:QF fg pl b sn z m pt wy wd f x):k ∈ nks fg pl b sn z m pt wd f x st t↔JO fg pl b k/\nwd wd st (yZ pl b sn z m pt k)=true/\Zb (stL sn (decide (k < 0))) (yZ pl b sn z m pt k) wd f x=t:=by
 have half : ∀ bl,k ∈ (cin t sn bl wd f x st).filterMap (qD fg pl b sn z m pt bl)↔decide (k < 0)=bl/\JO fg pl b k/\nwd wd st (yZ pl b sn z m pt k)=true/\Zb (stL sn (decide (k < 0))) (yZ pl b sn z m pt k) wd f x=t:=fun bl=>by
  rw [List.mem_filterMap]
  constructor
  ·rintro ⟨c,hc,hn⟩
   obtain ⟨l,e,rfl⟩:=xp ok hn
   rw [xu,e] at hc
   have:=(Wb ok.x ok.wd2).mp hc
   rw [<- e,<- xu] at this
   exact ⟨e,l,this.2,this.1⟩
  ·rintro ⟨e,l,h1,h2⟩
   refine ⟨yZ pl b sn z m pt k,?_,by rw [<- e];exact WA ok l⟩
   rw [xu,e]
   refine (Wb ok.x ok.wd2).mpr ?_
   rw [<- e,<- xu]
   exact ⟨h2,h1⟩
 unfold nks
 rw [List.mem_append,half,half]
 constructor
 ·rintro (h | h) <;> exact h.2
 ·intro h
  cases e:decide (k < 0)
  ·rw [e] at h;exact .inl ⟨rfl,h⟩
  ·rw [e] at h;exact .inr ⟨rfl,h⟩
theorem zAz {t:List Nat} {f:Nat} (sx:XS x) (hw:wd<=40):(cin t sn bl wd f x st).Nodup:=by
 unfold cin
 split
 ·refine List.Pairwise.filter _ ?_
  refine List.pairwise_map.mpr ?_
  unfold X3
  split
  ·exact (y2 (.inr (.inl rfl)) (by omega)).imp fun h e=>h (append_cancel_left e)
  ·exact List.Pairwise.nil
 ·rename_i hx
  exact YQ (sx.elim id fun z=>absurd z hx) hw
theorem W8 {b:Int} {pt:Nat} {f:Nat} {t:List Nat} (ok:QF fg pl b sn z m pt wy wd f x):(nks fg pl b sn z m pt wd f x st t).Nodup:=by
 unfold nks
 have half : ∀ bl,((cin t sn bl wd f x st).filterMap (qD fg pl b sn z m pt bl)).Nodup:=fun bl=>by
  refine List.pairwise_filterMap.mpr ((zAz ok.x ok.wd2).imp ?_)
  intro a a' hne k hk k' hk' e
  subst e
  exact hne ((xp ok hk).2.2.trans (xp ok hk').2.2.symm)
 refine List.nodup_append.mpr ⟨half false,half true,fun k hk k' hk' e=>?_⟩
 subst e
 obtain ⟨c,_,h1⟩:=List.mem_filterMap.mp hk
 obtain ⟨c',_,h2⟩:=List.mem_filterMap.mp hk'
 have:=(xp ok h1).2.1.symm.trans (xp ok h2).2.1
 cases this
theorem Al.map {α β:Type} {R:V->β->Prop} {g:α->β} {as:List α} (h:Al (fun v a=>R v (g a)) vs as):Al R vs (as.map g):=by
 induction h with
 | nil=>exact .nil
 | cons h _ ih=>exact .cons h ih
theorem Kz {c:List Nat}:nwd wd st c=true↔(st && decide (wd < (c.length:Int)))=false:=by
 unfold nwd;cases (st && decide (wd < (c.length:Int))) <;> simp
inductive Vc where
 | n (k:Int)
 | t (t:List Nat)
def VcN (H:Hp) (v:V):Fd->Vc->Prop
 | .num _ pl b _ _ _ _ _,.n k=>∃ p,v = .ref p/\H p=some (.tup [.int (xO k (b ^ pl.toNat)),.int (jt k (b ^ pl.toNat))])
 | .word _ _ _,.t t=>v = .str (T t)
 | .cho _,.t t=>v = .str (T t)
 | _,_=>False
def Vok:Fd->Vc->Prop
 | .num fg pl b _ _ _ _ _,.n k=>JO fg pl b k
 | .word sg lo hi,.t t=>Isw sg lo hi t
 | .cho ns,.t t=>t ∈ ns
 | _,_=>False
def pr:Fd->Vc->List Nat × List Nat
 | .num _ pl b sn z m pt _,.n k=>(stL sn (decide (k < 0)),Za pl b sn z m pt k)
 | _,.t t=>([],t)
 | _,_=>([],[])
def Tld (wd:Int) (f:Nat) (x:Str) (st:Bool) (t:List Nat) (d:Fd) (c:Vc):Prop:=Vok d c/\(st && decide (wd < (((pr d c).1++(pr d c).2).length:Int)))=false/\Zb (pr d c).1 ((pr d c).1++(pr d c).2) wd f x=t
def Ris:Fd->Vc->Vc->Prop
 | .num _ _ _ _ _ _ _ _,.n k,.n k'=>k < k'
 | .word _ _ _,.t t,.t t'=>t < t'
 | .cho ns,.t t,.t t'=>∃ a b:Nat,a < b/\ns[a]? = some t/\ns[b]? = some t'
 | _,_,_=>False
theorem VcN.same {c:Vc} (g:zW H H') (h:VcN H v d c):VcN H' v d c:=by
 cases d <;> cases c <;> first | exact h | (obtain ⟨p,e,k⟩:=h;exact ⟨p,e,g.at k⟩)
theorem VcN.vl {c:Vc} (h:VcN H v d c) (o:Vok d c):VlA H v d (pr d c).1 (pr d c).2:=by
 cases d with
 | num fg pl b sn z m pt wy=>cases c with
  | n k=>obtain ⟨p,e,hp⟩:=h;exact .num e hp o
  | t t=>exact h.elim
 | word sg lo hi=>cases c with
  | n k=>exact h.elim
  | t t=>exact .word h o
 | cho ns=>cases c with
  | n k=>exact h.elim
  | t t=>exact .cho h o
theorem VlA.vc (h:VlA H v d ld rs) : ∃ c,VcN H v d c/\Vok d c/\ld=(pr d c).1/\rs=(pr d c).2:=by
 cases h with
 | @num p fg pl b sn z m pt wy k hv hp lim=>exact ⟨.n k,⟨p,hv,hp⟩,lim,rfl,rfl⟩
 | word hv iw=>exact ⟨.t rs,hv,iw,rfl,rfl⟩
 | cho hv hm=>exact ⟨.t rs,hv,hm,rfl,rfl⟩
theorem Vok.ok {f:Nat} {c:Vc} (D:okS wd f x d) (o:Vok d c):(pr d c).1.length<=2/\(pr d c).2.length<=200/\Asc (pr d c).1/\Asc (pr d c).2:=by
 cases d with
 | num fg pl b sn z m pt wy=>cases c with
  | n k=>exact VlA.ok (H:=fun _=>some (.tup [.int (xO k (b ^ pl.toNat)),.int (jt k (b ^ pl.toNat))])) (v:=.ref default) D (.num rfl rfl o)
  | t t=>exact o.elim
 | word sg lo hi=>cases c with
  | n k=>exact o.elim
  | t t=>exact VlA.ok (H:=fun _=>none) (v:=.str (T t)) D (.word rfl o)
 | cho ns=>cases c with
  | n k=>exact o.elim
  | t t=>exact VlA.ok (H:=fun _=>none) (v:=.str (T t)) D (.cho rfl o)
theorem QO {α:Type} {l:List α} (h:l.Nodup) {i j:Nat} {a:α} (hi:l[i]? = some a) (hj:l[j]? = some a):i=j:=by
 obtain ⟨h1,e1⟩:=List.getElem?_eq_some_iff.mp hi
 obtain ⟨h2,e2⟩:=List.getElem?_eq_some_iff.mp hj
 have pw:=List.pairwise_iff_getElem.mp h
 rcases Nat.lt_trichotomy i j with z | z | z
 ·exact absurd (e1.trans e2.symm) (pw i j h1 h2 z)
 ·exact z
 ·exact absurd (e2.trans e1.symm) (pw j i h2 h1 z)
variable {c':Vc}
theorem Ris.asym {f:Nat} (D:okS wd f x d) {c:Vc} (h:Ris d c c') : ¬ Ris d c' c:=by
 intro h'
 cases d with
 | num fg pl b sn z m pt wy=>cases c <;> cases c' <;> first | exact h.elim | (have h:_ < _:=h;have h':_ < _:=h';omega)
 | word sg lo hi=>cases c <;> cases c' <;> first | exact h.elim | exact (List.not_lt.mpr (List.le_of_lt h)) h'
 | cho ns=>cases c <;> cases c' <;> first | exact h.elim | (
   obtain ⟨a,b,l,e1,e2⟩:=h
   obtain ⟨a',b',l',e1',e2'⟩:=h'
   have nd:ns.Nodup:=(show ChS ns wd f x from D).nd
   have z1:=QO nd e1 e2'
   have z2:=QO nd e2 e1'
   omega)
theorem Jm {α:Type} {R:α->α->Prop} (as : ∀ {a b},R a b -> ¬ R b a) : ∀ {l m:List α},l.Pairwise R->m.Pairwise R->(∀ a,a ∈ l↔a ∈ m)->l=m
 | [],[],_,_,_=>rfl
 | [],b::m,_,_,h=>absurd ((h b).mpr (mem_cons_self ..)) (not_mem_nil)
 | a::l,[],_,_,h=>absurd ((h a).mp (mem_cons_self ..)) (not_mem_nil)
 | a::l,b::m,p,q,h=>by
  obtain ⟨p1,p2⟩:=List.pairwise_cons.mp p
  obtain ⟨q1,q2⟩:=List.pairwise_cons.mp q
  have e:a=b:=by
   rcases List.mem_cons.mp ((h a).mp (mem_cons_self ..)) with z | z
   ·exact z
   ·rcases List.mem_cons.mp ((h b).mpr (mem_cons_self ..)) with y | y
    ·exact y.symm
    ·exact absurd (q1 a z) (as (p1 b y))
  subst e
  rw [Jm as p2 q2 fun c=>?_]
  constructor
  ·intro z
   rcases List.mem_cons.mp ((h c).mp (mem_cons_of_mem _ z)) with y | y
   ·subst y;exact absurd (p1 c z) (as (p1 c z))
   ·exact y
  ·intro z
   rcases List.mem_cons.mp ((h c).mpr (mem_cons_of_mem _ z)) with y | y
   ·subst y;exact absurd (q1 c z) (as (q1 c z))
   ·exact y
structure WS (wd:Int) (f:Nat) (x:Str) (st:Bool) (t:List Nat) (d:Fd) (cs:List Vc):Prop where
 up:cs.Pairwise (Ris d)
 mem : ∀ c,c ∈ cs↔Tld wd f x st t d c
 len:cs.length<=42
variable {cs:List Vc}
theorem WS.eq {f:Nat} {t:List Nat} {cs':List Vc} (D:okS wd f x d) (h:WS wd f x st t d cs) (h':WS wd f x st t d cs'):cs=cs':=Jm (Ris.asym D) h.up h'.up fun c=>(h.mem c).trans (h'.mem c).symm
theorem Js {α:Type} {R:α->α->Prop} (tr : ∀ {a b c},R a b->R b c->R a c) : ∀ {l:List α},(∀ i a b,l[i]? = some a->l[i+1]? = some b->R a b)->l.Pairwise R
 | [],_=>.nil
 | [a],_=>List.pairwise_cons.mpr ⟨fun _ h=>absurd h not_mem_nil,.nil⟩
 | a::b::l,h=>by
  have ih:=Js (R:=R) tr (l:=b::l) fun i u v (hu:(b::l)[i]? = some u) (hv:(b::l)[i+1]? = some v)=>h (i+1) u v hu hv
  have ab:=h 0 a b rfl rfl
  refine List.pairwise_cons.mpr ⟨fun c hc=>?_,ih⟩
  rcases List.mem_cons.mp hc with rfl | hc
  ·exact ab
  ·exact tr ab ((List.pairwise_cons.mp ih).1 c hc)
theorem V9 {f:Nat} {t:List Nat} {tt:TA} (F:Je K H o cN cW cC wd f x st d) (at':Asc t) (tl:t.length<=300)
  (hta : ∀ Q':VK,Q' (.ref o) H->ta σ H Q') (ht : ∀ Q':List V->Hp->Prop,Q' [.str (T t)] H->tt σ H Q') (q : ∀ l H' us cs,zW H H'->H l=none->H' l=some (.lst us)->Al (fun v c=>VcN H' v d c) us cs->WS wd f x st t d cs->Q (.ref l) H') :
  zBg (XX cN "values_for" (jE K cN) [] E ta tt) (zBg (XX cW "values_for" (jZ K cW) [] E ta tt) (XX cC "values_for" (jF K cC) [] E ta tt)) σ H Q:=by
 obtain ⟨_,_,_,sx,w0,w1⟩:=F.bd
 cases F with
 | @num fg pl b sn z m pt wy F ok =>
  refine K9 (JN (hta _ (kZ (VR F (by decide +kernel) (by decide +kernel)) (ht _ ?_))))
  refine ⟨o,_,_,_,_,_,_,_,_,_,_,_,_,_,rfl,F,ok,at',tl,fun l H' us ms g nl e pm srt al=>?_⟩
  have nd:ms.Nodup:=pm.nodup_iff.mpr (W8 ok)
  have hl:ms.length<=42:=by
   have:=zAR (fg:=fg) (pl:=pl) (b:=b) (z:=z) (m:=m) (pt:=pt) (t:=t) (f:=f) (x:=x) (st:=st) ok.sn ok.wd2
   rw [pm.length_eq];unfold nks;rw [length_append];exact this
  refine q l H' us (ms.map .n) g nl e (Al.map al) ⟨?_,fun c=>?_,by rw [length_map];exact hl⟩
  ·refine List.pairwise_map.mpr ((List.Pairwise.and nd srt).imp ?_)
   intro a b h
   show a < b
   have h1:=h.1;have h2:=h.2
   omega
  ·rw [mem_map]
   constructor
   ·rintro ⟨k,hk,rfl⟩
    obtain ⟨l1,l2,l3⟩:=(zAk ok).mp (pm.mem_iff.mp hk)
    have nc:=xu (pl:=pl) (b:=b) (sn:=sn) (z:=z) (m:=m) (pt:=pt) (k:=k)
    exact ⟨l1,by show (st && decide (wd < ((stL sn (decide (k < 0))++Za pl b sn z m pt k).length:Int)))=false;rw [<- nc];exact Kz.mp l2,by show Zb (stL sn (decide (k < 0))) (stL sn (decide (k < 0))++Za pl b sn z m pt k) wd f x=t;rw [<- nc];exact l3⟩
   ·rintro ⟨h1,h2,h3⟩
    cases c with
    | t t=>exact h1.elim
    | n k =>
     have nc:=xu (pl:=pl) (b:=b) (sn:=sn) (z:=z) (m:=m) (pt:=pt) (k:=k)
     have h2:(st && decide (wd < ((stL sn (decide (k < 0))++Za pl b sn z m pt k).length:Int)))=false:=h2
     have h3:Zb (stL sn (decide (k < 0))) (stL sn (decide (k < 0))++Za pl b sn z m pt k) wd f x=t:=h3
     rw [<- nc] at h2 h3
     exact ⟨k,pm.mem_iff.mpr ((zAk ok).mpr ⟨h1,Kz.mpr h2,h3⟩),rfl⟩
 | @word sg lo hi F ok =>
  refine XE (K9 (JN (hta _ (kZ (VQ F (by decide +kernel) (by decide +kernel) (by decide +kernel) (by decide +kernel)) (ht _ ?_)))))
  refine ⟨o,_,_,_,_,_,_,_,_,rfl,F,ok.x,w0,w1,by omega,fun l H' ds g nl e pm so=>?_⟩
  have mi : ∀ c,c ∈ ds↔(pad c wd f x=t/\nwd wd st c=true)/\Isw sg lo hi c:=fun c=>by
   rw [pm.mem_iff];unfold wvs;rw [mem_filter,Y1 ok.x w1,decide_eq_true_iff]
  have nd:ds.Nodup:=pm.nodup_iff.mpr (List.Pairwise.filter _ (YQ ok.x w1))
  have hl:ds.length<=42:=by
   have:=(KA (t:=t) (f:=f) (x:=x) (st:=st) w1).1
   rw [pm.length_eq];exact le_trans (length_filter_le _ _) (by omega)
  have nx:=Vu ok.x
  refine q l H' _ (ds.map .t) g nl e ?_ ⟨?_,fun c=>?_,by rw [length_map];exact hl⟩
  ·refine Al.map ?_
   clear pm nd hl mi e so
   induction ds with
   | nil=>exact .nil
   | cons c ds ih=>exact .cons rfl ih
  ·refine List.pairwise_map.mpr (Js (R:=fun a b:List Nat=>a < b) (fun h k=>List.lt_trans h k) fun i a b ha hb=>W0 so ha hb fun z=>?_)
   have:=QO nd (z ▸ ha) hb
   omega
  ·rw [mem_map]
   constructor
   ·rintro ⟨c,hc,rfl⟩
    obtain ⟨⟨h1,h2⟩,h3⟩:=(mi _).mp hc
    exact ⟨h3,Kz.mp h2,by show Zb [] c wd f x=t;unfold Zb;rw [if_neg nx];exact h1⟩
   ·rintro ⟨h1,h2,h3⟩
    cases c with
    | n k=>exact h1.elim
    | t c =>
     have h3:Zb [] c wd f x=t:=h3
     unfold Zb at h3;rw [if_neg nx] at h3
     exact ⟨c,(mi c).mpr ⟨⟨h3,Kz.mpr h2⟩,h1⟩,rfl⟩
 | @cho L ns F e0 ok =>
  refine XE (XE (JN (hta _ (kZ (Y9 F (by decide +kernel) (by decide +kernel)) (ht _ ?_)))))
  refine ⟨o,_,_,_,_,_,_,_,rfl,F,e0,by have:=ok.n2;omega,ok.x,w0,w1,by omega,fun l H' g nl e=>?_⟩
  have nx:=Vu ok.x
  have mi : ∀ c,c ∈ cvs ns t wd f x st↔c ∈ ns/\(pad c wd f x=t/\nwd wd st c=true):=fun c=>by
   unfold cvs;rw [mem_filter,decide_eq_true_iff,Y1 ok.x w1]
  have hl:(cvs ns t wd f x st).length<=42:=le_trans (length_filter_le _ _) (by have:=ok.n2;omega)
  have pw:(cvs ns t wd f x st).Pairwise fun t t'=>∃ a b:Nat,a < b/\ns[a]? = some t/\ns[b]? = some t':=
   List.Pairwise.filter _ (List.pairwise_iff_getElem.mpr fun i j hi hj hij=>⟨i,j,hij,getElem?_eq_getElem hi,getElem?_eq_getElem hj⟩)
  refine q l H' _ ((cvs ns t wd f x st).map .t) g nl e ?_ ⟨List.pairwise_map.mpr pw,fun c=>?_,by rw [length_map];exact hl⟩
  ·refine Al.map ?_
   clear hl mi e pw
   generalize cvs ns t wd f x st=ds
   induction ds with
   | nil=>exact .nil
   | cons c ds ih=>exact .cons rfl ih
  ·rw [mem_map]
   constructor
   ·rintro ⟨c,hc,rfl⟩
    obtain ⟨h3,h1,h2⟩:=(mi _).mp hc
    exact ⟨h3,Kz.mp h2,by show Zb [] c wd f x=t;unfold Zb;rw [if_neg nx];exact h1⟩
   ·rintro ⟨h1,h2,h3⟩
    cases c with
    | n k=>exact h1.elim
    | t c =>
     have h3:Zb [] c wd f x=t:=h3
     unfold Zb at h3;rw [if_neg nx] at h3
     exact ⟨c,(mi c).mpr ⟨h1,h3,Kz.mpr h2⟩,rfl⟩
local macro_rules | `(tactic| walk_at "rdc")=>`(tactic| first
 | (with_reducible first | apply zDr | apply zI2 | apply zEl | apply zBl | apply zIB | apply zFy)
 | fail "k45 stops")
def y0 (K:W.Frag) (C:Addr):Sp:=fun vs H Q _=>∃ (y l:Addr) (xs:List V),vs=[.ref y,.ref l]/\H y=some (.ext (KH y C))/\H l=some (.lst xs) /\ ∀ H' l' d,SB y H H'->H l'=none->H' l'=some (.lst xs)->H' y=some (.ext (WQ y C d))->d≠y->H' d=some (.ext (XD d [("told", .ref l')]))->Q .non H'
include Z in
theorem kC:Gx P w K mg base CX0 "__init__" [zZ] 1 ["self", "told"] (y0 K zZ):=by
 have xt : ∃ f,ExF K zZ f "told" := Z.b9
 refine WR Z.bg (l2N (by intros;rfl)) fun fq fd F=>?_
 refine F.ok yn (fun vs H Q E=>?_) (fun _ _ _ s H vs Q E hr h=>?_)
 ·walk_at "ln"
 obtain ⟨y,l,xs,rfl,hy,hl,q⟩:=h
 refine ⟨_,zC (jo (zCb Z.pi rfl Z.ab (zA (pv 0) (zA (zY) (zD)))))
  (zE (zD2 (pv 0) (y1 xM rfl Z.ax ZP (zA (pv 1) (zD))) rfl)),?_⟩
 walk_at "st"
 walk_at "rd"
 refine zBX hy xt ?_
 walk_at "rd"
 rename_i l' H' g' n' e'
 refine zGi (g'.at hy) xt fun d fr=>?_
 have nd:d≠y:=(za (g'.at hy) fr).symm
 have nl:l'≠y:=fun z=>by subst z;rw [g'.at hy] at e';cases e'
 walk_at "rd"
 exact q _ l' d (fun b o nb e=>by rw [ze nb,ze (za (g'.at e) fr)];exact g'.at e) n' (by rw [ze nl,ze (za e' fr)];exact e') zS nd (by rw [ze nd,zS])
def QG (K:W.Frag) (cN cW cC cX c2:Addr):Sp:=fun vs H Q E=>∃ (o:Addr) (t:List Nat) (wd:Int) (f:Nat) (x:Str) (st:Bool) (d:Fd),vs=[.ref o,.str (T t)]/\Je K H o cN cW cC wd f x st d/\Asc t/\t.length<=300 /\ ∀ cs,WS wd f x st t d cs ->
 (cs=[] -> ∀ H',zW H H'->E (.ref cX) none H')/\(∀ c,cs=[c] -> ∀ v H',zW H H'->VcN H' v d c->Q v H') /\
 (1 < cs.length -> ∀ dx L us H',zW H H'->H' dx=some (.ext (XD dx [("told", .ref L)]))->H L=none->H' L=some (.lst us)->Al (fun v c=>VcN H' v d c) us cs->E (.ref c2) (some dx) H')
include Z in
theorem xF:Gx P w K mg base (WP P w) "value_of" [zH,zP,zN] 8 ["self", "text"] (QG K zH zP zN qb zZ):=by
 refine WR Z.bh (l2N (by intros;rfl)) fun fq fd F=>?_
 refine F.okX3 yW (fun vs H Q E=>?_) (fun _ _ _ s H vs Q E hr h tk td=>?_)
 ·walk_at "ln"
 refine ⟨_,zC (zJ (i:=2) yW.nd rfl (Or.inl rfl) (yV (zo (ZJ (z9 Z) in0) Z.bY qj hr (pv 0) (zA (pv 1) (zD))) (yV (zo (ZJ (qL Z) in0) Z.b1 qj hr (pv 0) (zA (pv 1) (zD))) (zo (ZJ (qA Z) in0) Z.b4 qj hr (pv 0) (zA (pv 1) (zD))))))
  (zC (zm (zQ qd (zI jg Z.am rfl z4 (zA (pv 2) (zD))) (zB) (zU _)) (zE (yN tk rfl Z.bT rfl Z.ag (zA (zY) (zD)))) (zV))
  (zC (zm (zQ Zc (zI jg Z.am rfl z4 (zA (pv 2) (zD))) (zB) (zU _)) (zE (zAp td rfl (zB5 (zJs (kC Z) Z.b8) qj hr rfl Z.ah (zA (pv 2) (zD))))) (zV))
  (zE (zK (zR zi (pv 2) (zB) (fun _ _=>rfl)))))),?_⟩
 obtain ⟨o,t,wd,f,x,st,d,rfl,D0,at',tl,q⟩:=h
 all_goals walk_at "st"
 walk_at "rd"
 refine V9 D0 at' tl (fun Q' h=>by walk_at "rd"; exact h) (fun Q' h=>by walk_at "rd"; exact h) fun l H1 us cs g1 n1 e1 al td1=>?_
 obtain ⟨q0,q1,q2⟩:=q cs td1
 have ln:=al.len
 walk_at "rd"
 ·rename_i hc
  exact ⟨qm (by decide),q0 (List.length_eq_zero_iff.mp (by omega)) _ g1⟩
 ·rename_i hc1 hc
  refine ⟨by show 1<=1000;decide,fun y fy=>⟨y,l,us,rfl,zS,by rw [ze (za e1 fy)];exact e1,fun H2 l' dx sb nl el ey nd ed=>⟨rfl,?_⟩⟩⟩
  obtain ⟨fx,ex⟩:=Z.b9
  have ny:H y=none:=none_of g1 fy
  have s12:zW H1 (unt H2 y):=fun b o e=>by
   have nb:b≠y:=fun z=>by rw [z,fy] at e;cases e
   rw [kT nb];exact sb b o nb (by rw [ze nb];exact e)
  have nly:l'≠y:=fun z=>by rw [z,zS] at nl;cases nl
  rw [ze nly] at nl
  exact ⟨y,zZ,fx,dx,rfl,ex.ex,ey,ny,q2 (by omega) dx l' us _ (g1.trans s12) (by rw [kT nd];exact ed) (none_of g1 nl) (by rw [kT nly];exact el) (al.imp fun _ _ h=>h.same s12)⟩
 ·rename_i hc1 hc
  refine ZT (SqL.of e1) (by decide) (by omega) fun y hy=>?_
  obtain ⟨c,hcs,vc⟩:=al.get hy
  obtain ⟨c0,rfl⟩ : ∃ c0,cs=[c0]:=List.length_eq_one_iff.mp (by omega)
  cases hcs
  exact q1 _ rfl _ _ g1 vc
def RP (H:Hp) (P:Addr->Prop) (v:V) (x:Ce × Ce):Prop:=∃ t a b,v = .ref t/\(P t/\P a/\P b)/\H t=some (.tup [.ref a,.ref b])/\H a=some (.lst (tsV x.1))/\H b=some (.lst (tsV x.2))
theorem RL.same {P:Addr->Prop} {cs:Ce} (g:zW H H') (h:RL H P v cs):RL H' P v cs:=let ⟨q,e,p,k⟩:=h;⟨q,e,p,g.at k⟩
theorem RP.same {P:Addr->Prop} {x:Ce × Ce} (g:zW H H') (h:RP H P v x):RP H' P v x:=let ⟨t,a,b,e,p,k,k1,k2⟩:=h;⟨t,a,b,e,p,g.at k,g.at k1,g.at k2⟩
theorem zB3 (l:Ce) (n:Nat):(tsV l).take n=tsV (l.take n):=by unfold tsV;rw [List.map_take]
theorem zBT (l:Ce) (n:Nat):(tsV l).drop n=tsV (l.drop n):=by unfold tsV;rw [List.map_drop]
section
variable {K : W.Frag} {H : Hp} {Q : VK}
theorem zE8 (q : ∀ p H',zW H H'->H p=none->H' p=some (.lst (tsV []))->Q (.ref p) H'):zHy Q [] H:=Xj (qm (by simp only [length_cons,length_nil];decide)) fun p H1 g n e=>q p H1 g n e
variable {xs:Ce}
theorem zDI {l b:Addr} {zs:Ce} (h1:H l=some (.lst (tsV xs))) (h2:H b=some (.lst (tsV zs))) (hz:xs.length+zs.length<=900) (q : ∀ p H',zW H H'->H p=none->H' p=some (.lst (tsV (xs++zs)))->Q (.ref p) H'):zIi (.ref l) (.ref b) H Q:=
 ⟨l,b,_,_,rfl,rfl,h1,h2,Nat.le_of_lt (qr (by rw [zr,zr];omega)),fun p hp=>q p _ (qR (zW.refl _) hp) hp (by rw [zS];unfold tsV;rw [map_append])⟩
theorem zF7 {a:Addr} {ys:Ce} {lo hi:Option Int} (h:H a=some (.lst (tsV xs))) (e:(xs.drop (HT.sIx xs.length 0 lo)).take (HT.sIx xs.length xs.length hi - HT.sIx xs.length 0 lo)=ys) (q : ∀ p H',zW H H'->H p=none->H' p=some (.lst (tsV ys))->Q (.ref p) H'):zHL K (.ref a) lo hi H Q:=
 ⟨a,_,rfl,SqL.of h,fun p hp=>q p _ (qR (zW.refl _) hp) hp (by rw [zS,<- e];unfold zBA;rw [zr,zBT,zB3])⟩
theorem Vo {n d:Nat} {v:Int} (h:0<=v):HT.sIx n d (some v)=min v.toNat n:=by
 show (if v < 0 then (v+(n:Int)).toNat else min v.toNat n)=_
 rw [if_neg (by omega)]
theorem zHS {a:Addr} {j:Int} (h:H a=some (.lst (tsV xs))) (h1:0<=j) (q : ∀ p H',zW H H'->H p=none->H' p=some (.lst (tsV (xs.take j.toNat)))->Q (.ref p) H'):zHL K (.ref a) none (some j) H Q:=by
 refine zF7 h ?_ q
 rw [HT.sIx_none,Vo h1,List.drop_zero,Nat.sub_zero]
 rcases Nat.le_total j.toNat xs.length with y | y
 ·rw [Nat.min_eq_left y]
 ·rw [Nat.min_eq_right y,take_length,take_of_length_le y]
theorem zCW {a:Addr} (h:H a=some (.lst (tsV xs))) (h0:0<=i) (q : ∀ p H',zW H H'->H p=none->H' p=some (.lst (tsV (xs.drop i.toNat)))->Q (.ref p) H'):zHL K (.ref a) (some i) none H Q:=by
 refine zF7 h ?_ q
 rw [HT.sIx_none,Vo h0]
 rcases Nat.le_total i.toNat xs.length with z | z
 ·rw [Nat.min_eq_left z,take_of_length_le (by rw [length_drop];exact Nat.le_refl _)]
 ·rw [Nat.min_eq_right z,List.drop_of_length_le (Nat.le_refl _),List.drop_of_length_le z,List.take_nil]
theorem zF2 {p:Addr} {ys:Ce} (h:H p=some (.lst (tsV ys))) (q:Q (.int ys.length) H):zCT K [.ref p] H Q:=zC7 (SqL.of h) (by rw [zr];exact q)
end
local macro_rules | `(tactic| walk_at "rd1")=>`(tactic| first | ((with_reducible refine' zF2 ?h ?_);(case h=>walk_at "hp")) | fail "none")
local macro_rules | `(tactic| walk_at "rd1")=>`(tactic| first | ((with_reducible refine' Xj ?hz ?_);(case hz=>exact qm (by simp only [length_cons,length_nil];decide));intro p' H' g' n' e') | fail "none")
local macro_rules | `(tactic| walk_at "rd1")=>`(tactic| first | ((with_reducible refine zE8 ?_);intro p' H' g' n' e') | fail "none")
local macro_rules | `(tactic| walk_at "rd1")=>`(tactic| first | ((with_reducible refine' zDI ?h1 ?h2 ?hz ?_);(case h1|h2=>walk_at "hp");(case hz=>walk_at "tl");intro p' H' g' n' e') | fail "none")
local macro_rules | `(tactic| walk_at "rd1")=>`(tactic| first | ((with_reducible refine' r_sl2 ?h ?h0 ?h1 ?_);(case h=>walk_at "hp");(case h0|h1=>omega);intro p' H' g' n' e') | ((with_reducible refine' zHS ?h ?h1 ?_);(case h=>walk_at "hp");(case h1=>omega);intro p' H' g' n' e') | ((with_reducible refine' zCW ?h ?h0 ?_);(case h=>walk_at "hp");(case h0=>omega);intro p' H' g' n' e'))
local macro_rules | `(tactic| walk_at "tl")=>`(tactic| (simp only [length_map,length_append,List.length_replicate,length_cons,length_nil,length_take,length_drop];first | (with_reducible refine le_trans (sub_le _ _) (le_trans (min_le_right _ _) ?_);omega) | (with_reducible refine le_trans (sub_le _ _) ?_;omega) | (with_reducible refine le_trans (min_le_right _ _) ?_;omega) | omega))
local macro_rules | `(tactic| walk_at "fm")=>`(tactic| first | assumption | (refine' zc.same ?s (by assumption);(case s=>walk_at "sm")))
def yw (K:W.Frag):Sp:=fun vs H Q _=>vs=[] /\ ∀ l:List Nat,l.length=94->Asc l->l.Pairwise (· < ·)->Q (.str (T l)) H
theorem zAn (q : ∀ l:List Nat,l.length=94->Asc l->Q (.str (T l)) H):yw K ([]++[]) H Q E:=⟨rfl,fun l h a _=>q l h a⟩
theorem zBh (q : ∀ l:List Nat,l.length=94->Asc l->l.Pairwise (· < ·)->Q (.str (T l)) H):yw K ([]++[]) H Q E:=⟨rfl,q⟩
local macro_rules | `(tactic| walk_at "rdc")=>`(tactic| ((with_reducible refine zAn ?_);intro l' hl' al'))
def JM (K:W.Frag):Sp:=fun vs H Q _=>∃ n t:Int,vs=[.int n,.int t]/\0<=t /\ ∀ c:Nat,c < 127->Q (.str (T [c])) H
theorem zFY {n:Int} (h1:0<=t) (q : ∀ c:Nat,c < 127->Q (.str (T [c])) H):JM K ([.int n,.int t]++[]) H Q E:=⟨n,t,rfl,h1,q⟩
local macro_rules | `(tactic| walk_at "rdc")=>`(tactic| ((with_reducible refine' zFY ?h1 ?_);(case h1=>omega);intro c' hc'))
inductive xk (H:Hp) (p:Addr) (wd:Int) (f:Nat) (x:Str) (st:Bool):Fd->Prop
 | num {fg pl b:Int} {sn:Str} {z:Int} {m pt:Nat} {wy:Str} (e:H p=some (.tup [.str "number", .int fg,.int pl,.int b,.str sn,.int z,.str (T [m]),.str (T [pt]),.str wy,.int wd,.str (T [f]),.str x,.bl st])) (ok:QF fg pl b sn z m pt wy wd f x):xk H p wd f x st (.num fg pl b sn z m pt wy)
 | word {sg:List Nat} {lo hi:Int} (e:H p=some (.tup [.str "word", .str (T sg),.int lo,.int hi,.int wd,.str (T [f]),.str x,.bl st])) (ok:WdS sg lo hi wd f x):xk H p wd f x st (.word sg lo hi)
 | cho {L:Addr} {ns:Ce} (e:H p=some (.tup [.str "choice", .ref L,.int wd,.str (T [f]),.str x,.bl st])) (eL:H L=some (.lst (tsV ns))) (ok:ChS ns wd f x):xk H p wd f x st (.cho ns)
variable {p:Addr}
theorem xk.same {f:Nat} (g:zW H H') (h:xk H p wd f x st d):xk H' p wd f x st d:=by
 cases h with
 | num e ok=>exact .num (g.at e) ok
 | word e ok=>exact .word (g.at e) ok
 | cho e eL ok=>exact .cho (g.at e) (g.at eL) ok
include Z in
theorem kz:Has P w K mg base "_law_signs" 1 [] (yw K):=by
 refine jm Z.kn Z.bi (l0N (by intros;rfl)) fun fq fd F=>?_
 refine F.ok YA (fun vs H Q E=>?_) (fun _ _ _ s H vs Q E hr h=>?_)
 ·walk_at "ln"
 obtain ⟨rfl,q⟩:=h
 refine ⟨_,zE (zK (zY)),?_⟩
 walk_at "st"
 walk_at "rd"
 have q':=q (Lt " !\"#$&'()*+,-./0123456789:;<=>?@ABCDEFGHIJKLMNOPQRSTUVWXYZ[\\]^_`abcdefghijklmnopqrstuvwxyz{|}~") (by decide +kernel) (by unfold Asc;decide +kernel) (by decide +kernel)
 rw [zF3] at q'
 exact q'
include Z in
theorem xB:Has P w K mg base "_law_sign" 2 ["_law_cell", "_law_salt"] (JM K):=by
 refine jm Z.kn Z.bj (l2N (by intros;rfl)) fun fq fd F=>?_
 refine F.ok Q0 (fun vs H Q E=>?_) (fun _ _ _ s H vs Q E hr h=>?_)
 ·walk_at "ln"
 obtain ⟨n,t,rfl,h0,q⟩:=h
 refine ⟨_,zC (zJ (i:=2) Q0.nd rfl (Or.inl rfl) (zY))
  (zC (zm (zQ Zc (zF (zL Z) hr rfl (zA (pv 0) (zA (pv 1) (zA (zB) (zD))))) (zB) (zU _)) (zE (zK (zR jz (pv 2) (zF (zL Z) hr rfl (zA (pv 0) (zA (zM zp (pv 1) (zB)) (zA (zI zd Z.am rfl z4 (zA (pv 2) (zD))) (zD))))) (fun _ _=>rfl)))) (zV))
  (zE (zK (zR jz (Qh (kz Z) hr rfl) (zF (zL Z) hr rfl (zA (pv 0) (zA (zM zp (pv 1) (zB)) (zA (zB) (zD))))) (fun _ _=>rfl))))),?_⟩
 walk_at "st"
 have l13:(Lt " 0-+(1*)_,.9f").length=13:=by decide +kernel
 have a1 : ∀ c ∈ Lt " 0-+(1*)_,.9f", c < 127:=by decide +kernel
 walk_at "rd"
 ·rename_i c' hc';exact q _ (a1 _ hc')
 ·rename_i l' hl' al' v' h0' h1'
  refine q _ (al' _ ?_)
  rw [getD_eq_getElem?_getD,getElem?_eq_getElem (by omega)]
  exact getElem_mem _
variable {xs:List V}
theorem yz (P:Int->Prop) (e:H p=some (.lst xs)) (h0:0<=i) (h1:i < xs.length) (hx : ∀ v ∈ xs,∃ k,v = .int k/\P k) (q : ∀ k,P k->Q (.int k) H):zCM K (.ref p) (.int i) H Q:=
 ZT (SqL.of e) h0 h1 fun x hi=>by
  obtain ⟨k,rfl,hk⟩:=hx x (mem_of_getElem? hi)
  exact q k hk
theorem kg (P:Str->Prop) (e:H p=some (.lst xs)) (h0:0<=i) (h1:i < xs.length) (hx : ∀ v ∈ xs,∃ k,v = .str k/\P k) (q : ∀ k,P k->Q (.str k) H):zCM K (.ref p) (.int i) H Q:=
 ZT (SqL.of e) h0 h1 fun x hi=>by
  obtain ⟨k,rfl,hk⟩:=hx x (mem_of_getElem? hi)
  exact q k hk
theorem zFF : ∀ v ∈ [V.str "minus", V.str "plus", V.str "blank", V.str "brackets", V.str "behind"],∃ k,v = .str k/\kD k:=by
 simp only [mem_cons,not_mem_nil,or_false]
 rintro v (rfl | rfl | rfl | rfl | rfl)
 ·exact ⟨_,rfl,.inl rfl⟩
 ·exact ⟨_,rfl,.inr (.inl rfl)⟩
 ·exact ⟨_,rfl,.inr (.inr (.inl rfl))⟩
 ·exact ⟨_,rfl,.inr (.inr (.inr (.inl rfl)))⟩
 ·exact ⟨_,rfl,.inr (.inr (.inr (.inr rfl)))⟩
theorem zET : ∀ v ∈ [V.str "down", V.str "up", V.str "cut", V.str "near", V.str "even"],∃ k,v = .str k/\Way k:=by
 simp only [mem_cons,not_mem_nil,or_false]
 rintro v (rfl | rfl | rfl | rfl | rfl)
 ·exact ⟨_,rfl,.inl rfl⟩
 ·exact ⟨_,rfl,.inr (.inl rfl)⟩
 ·exact ⟨_,rfl,.inr (.inr (.inl rfl))⟩
 ·exact ⟨_,rfl,.inr (.inr (.inr (.inl rfl)))⟩
 ·exact ⟨_,rfl,.inr (.inr (.inr (.inr rfl)))⟩
theorem zCK : ∀ v ∈ [V.str "right", V.str "left", V.str "middle", V.str "inside"],∃ k,v = .str k/\XS k:=by
 simp only [mem_cons,not_mem_nil,or_false]
 rintro v (rfl | rfl | rfl | rfl)
 ·exact ⟨_,rfl,.inl (.inr (.inl rfl))⟩
 ·exact ⟨_,rfl,.inl (.inl rfl)⟩
 ·exact ⟨_,rfl,.inl (.inr (.inr rfl))⟩
 ·exact ⟨_,rfl,.inr rfl⟩
theorem Vx : ∀ v ∈ [V.str "left", V.str "right", V.str "middle"],∃ k,v = .str k/\kN k:=by
 simp only [mem_cons,not_mem_nil,or_false]
 rintro v (rfl | rfl | rfl)
 ·exact ⟨_,rfl,.inl rfl⟩
 ·exact ⟨_,rfl,.inr (.inl rfl)⟩
 ·exact ⟨_,rfl,.inr (.inr rfl)⟩
variable {s:Int}
theorem zIh {b:Int} (e:H p=some (.lst [.int a,.int b])) (h:s=0\/s=1) (q : ∀ k,k=a\/k=b->Q (.int k) H):zCM K (.ref p) (.int s) H Q:=
 yz (fun k=>k=a\/k=b) e (by omega) (by show _ < (2:Int);omega) (by simp only [mem_cons,not_mem_nil,or_false];rintro v (rfl | rfl) <;> simp) q
local macro_rules | `(tactic| walk_at "rd1")=>`(tactic| ((with_reducible refine' zIh ?e ?h ?_);(case e=>walk_at "hp");(case h=>assumption);intro k' hk'))
def xV (K:W.Frag):Sp:=fun vs H Q _=>∃ (c o s:Int),vs=[.int c,.int o,.int s]/\(s=0\/s=1) /\ ∀ p H' wd f x st d,zW H H'->xk H' p wd f x st d->Q (.ref p) H'
theorem Xk {o:Int} (h:s=0\/s=1) (q : ∀ p H' wd f x st d,zW H H'->xk H' p wd f x st d->Q (.ref p) H'):xV K ([.int c,.int o,.int s]++[]) H Q E:=⟨c,o,s,rfl,h,q⟩
include Z in
theorem ZO:Has P w K mg base "_law_number_spec" 3 ["_law_cell", "_law_other", "_law_small"] (xV K):=by
 refine jm Z.kn Z.bk (l3N (by intros;rfl)) fun fq fd F=>?_
 refine F.ok zb (fun vs H Q E=>?_) (fun _ _ _ s H vs Q E hr h=>?_)
 ·walk_at "ln"
 obtain ⟨c,o,s0,rfl,hs,q⟩:=h
 refine ⟨_,zC (zJ (i:=3) zb.nd rfl (Or.inl rfl) (zM zp (zB) (zF (zL Z) hr rfl (zA (pv 0) (zA (zB) (zA (zR zi (zt (zA (zB) (zA (zB) (zD)))) (pv 2) (fun _ _=>rfl)) (zD)))))))
  (zC (zJ (i:=4) zb.nd rfl (Or.inl rfl) (zF (zL Z) hr rfl (zA (pv 0) (zA (zB) (zA (zR zi (zt (zA (zB) (zA (zB) (zD)))) (pv 2) (fun _ _=>rfl)) (zD))))))
  (zC (zJ (i:=5) zb.nd rfl (Or.inl rfl) (zR zi (zt (zA (zB) (zA (zB) (zA (zR zi (zt (zA (zB) (zA (zB) (zD)))) (pv 2) (fun _ _=>rfl)) (zA (zR zi (zt (zA (zM zp (zB) (zF (zL Z) hr rfl (zA (pv 0) (zA (zB) (zA (zB) (zD)))))) (zA (zB) (zD)))) (pv 2) (fun _ _=>rfl)) (zD)))))) (zF (zL Z) hr rfl (zA (pv 0) (zA (zB) (zA (zB) (zD))))) (fun _ _=>rfl)))
  (zC (zJ (i:=6) zb.nd rfl (Or.inl rfl) (zR zi (zt (zA (zY) (zA (zY) (zA (zY) (zA (zY) (zA (zY) (zD))))))) (zF (zL Z) hr rfl (zA (pv 0) (zA (zB) (zA (zB) (zD))))) (fun _ _=>rfl)))
  (zC (zJ (i:=7) zb.nd rfl (Or.inl rfl) (zR zi (zt (zA (zB) (zA (zB) (zA (zM zp (zB) (zF (zL Z) hr rfl (zA (pv 0) (zA (zB) (zA (zB) (zD)))))) (zD))))) (zF (zL Z) hr rfl (zA (pv 0) (zA (zB) (zA (zB) (zD))))) (fun _ _=>rfl)))
  (zC (zJ (i:=8) zb.nd rfl (Or.inl rfl) (zR zi (zt (zA (zY) (zA (zY) (zA (zY) (zA (zY) (zA (zY) (zD))))))) (zF (zL Z) hr rfl (zA (pv 0) (zA (zB) (zA (zB) (zD))))) (fun _ _=>rfl)))
  (zC (zJ (i:=9) zb.nd rfl (Or.inl rfl) (qh (zA (zF (xB Z) hr rfl (zA (pv 1) (zA (zB) (zD)))) (zA (zF (xB Z) hr rfl (zA (pv 1) (zA (zB) (zD)))) (zA (zF (xB Z) hr rfl (zA (pv 1) (zA (zB) (zD)))) (zD))))))
  (zC (zJ (i:=10) zb.nd rfl (Or.inl rfl) (zt (zA (zB) (zA (zM zp (zB) (zF (zL Z) hr rfl (zA (pv 1) (zA (zB) (zA (zR zi (zt (zA (zB) (zA (zB) (zD)))) (pv 2) (fun _ _=>rfl)) (zD)))))) (zA (zM zp (zB) (zF (zL Z) hr rfl (zA (pv 1) (zA (zB) (zA (zR zi (zt (zA (zB) (zA (zB) (zD)))) (pv 2) (fun _ _=>rfl)) (zD)))))) (zD))))))
  (zC (zJ (i:=11) zb.nd rfl (Or.inl rfl) (zR zi (pv 10) (zF (zL Z) hr rfl (zA (pv 1) (zA (zB) (zA (zB) (zD))))) (fun _ _=>rfl)))
  (zC (zJ (i:=12) zb.nd rfl (Or.inl rfl) (zR zi (zt (zA (zY) (zA (zY) (zA (zY) (zA (zY) (zD)))))) (zF (zL Z) hr rfl (zA (pv 1) (zA (zB) (zA (zB) (zD))))) (fun _ _=>rfl)))
  (zC (zJ (i:=13) zb.nd rfl (Or.inl rfl) (qY qd (zF (zL Z) hr rfl (zA (pv 1) (zA (zB) (zA (zB) (zD))))) (zB) (zU _)))
  (zE (zK (qh (zA (zY) (zA (pv 3) (zA (pv 4) (zA (pv 5) (zA (pv 6) (zA (pv 7) (zA (zR zT (pv 9) (zB) (fun _ _=>rfl)) (zA (zR zT (pv 9) (zB) (fun _ _=>rfl)) (zA (pv 8) (zA (pv 11) (zA (zR zT (pv 9) (zB) (fun _ _=>rfl)) (zA (pv 12) (zA (pv 13) (zD) zy) zy) qB) zy) zy) qB) qB) zy) zy) zy) zy) zy) QT)))))))))))))),?_⟩
 walk_at "st"
 walk_at "rd"
 rename_i p4 H4 g4 n4 e4 ka hka v3 h03 h13 p3 H3 g3 n3 e3 kb hkb v2 h02 h12 p2 H2 g2 n2 e2 kc hkc v1 h01 h11 p1 H1 g1 n1 e1 kd hkd p0 H0 g0 n0 e0 v0 h00 h10
 refine yz (fun b=>2<=b/\b<=16) e0 (by omega) (by show _ < (4:Int);omega) (by simp only [mem_cons,not_mem_nil,or_false];rintro v (rfl | rfl | rfl | rfl) <;> exact ⟨_,rfl,by omega,by omega⟩) fun b hb=>?_
 have gA:zW H H0:=by walk_at "sm"
 clear e0 e1 e2 e3 e4
 walk_at "rd"
 rename_i p5 H5 g5 n5 e5 v5 h05 h15
 refine kg kD e5 (by omega) (by show _ < (5:Int);omega)  zFF fun sn hsn=>?_
 clear e5
 walk_at "rd"
 rename_i v6 h06 h16 p7 H7 g7 n7 e7 v7 h07 h17
 refine yz (fun z=>0<=z/\z<=9) e7 (by omega) (by show _ < (3:Int);omega) (by simp only [mem_cons,not_mem_nil,or_false];rintro v (rfl | rfl | rfl) <;> exact ⟨_,rfl,by omega,by omega⟩) fun z hz=>?_
 clear e7
 walk_at "rd"
 rename_i p8 H8 g8 n8 e8 v8 h08 h18
 refine kg Way e8 (by omega) (by show _ < (5:Int);omega)  zET fun wy hwy=>?_
 clear e8
 walk_at "rd"
 rename_i c3 hc3 c2 hc2 c1 hc1 pA HA gA1 eA pB HB gB nB eB ke hke v9 h09 h19 pC HC gC nC eC kf hkf v10 h010 h110 pD HD gD nD eD v11 h011 h111
 refine yz (fun wd=>0<=wd/\wd<=40) eD (by omega) (by show _ < (3:Int);omega) (by simp only [mem_cons,not_mem_nil,or_false];rintro v (rfl | rfl | rfl) <;> exact ⟨_,rfl,by omega,by omega⟩) fun wd hwd=>?_
 clear eD eC eB
 walk_at "rd"
 rename_i pE HE gE nE eE v12 h012 h112
 refine kg XS eE (by omega) (by show _ < (4:Int);omega) zCK fun y hy=>?_
 clear eE
 walk_at "rd"
 rename_i v13 h013 h113 pF HF gF eF
 exact q _ _ _ _ _ _ _ (by walk_at "sm") (.num eF ⟨by omega,by omega,by omega,by omega,hb.1,hb.2,hsn,hz.1,hz.2,by assumption,by assumption,hwy,hwd.1,hwd.2,by assumption,hy⟩)
def wT (K:W.Frag) (C:Addr):Sp:=fun vs H Q _=>∃ (p:Addr) (fg pl b:Int) (sn:Str) (z:Int) (m pt:Nat) (wy:Str) (wd:Int) (f:Nat) (x:Str) (st:Bool),vs=[.ref p]/\H p=some (.tup [.str "number", .int fg,.int pl,.int b,.str sn,.int z,.str (T [m]),.str (T [pt]),.str wy,.int wd,.str (T [f]),.str x,.bl st]) /\ ∀ o H',zW H H'->zc K H' o C wd f x st (jb fg pl b sn z m pt wy)->Q (.ref o) H'
theorem zB1 {a:Addr} {lo hi:Option Int} {n:Nat} (h:H a=some (.tup xs)) (hn:xs.length=n) (hw : ¬ (HT.sIx n 0 lo=0/\HT.sIx n n hi=n)) (q : ∀ p H',zW H H'->H' p=some (.tup (zBA xs lo hi))->Q (.ref p) H'):zJK K (.ref a) lo hi H Q:=⟨a,xs,rfl,SqT.of h,by rw [hn];exact hw,fun p hp=>q p _ (jd hp _) zS⟩
include Z in
theorem ZW:Has P w K mg base "_law_number_form" 4 ["_law_spec_here"] (wT K zH):=by
 have cl:Cls K zH:=Z.bY
 have na:qp K zH (bns++nns):=Z.bZ
 refine jm Z.kn Z.bl (l1N (by intros;rfl)) fun fq fd F=>?_
 refine F.ok zX (fun vs H Q E=>?_) (fun _ _ _ s H vs Q E hr h=>?_)
 ·walk_at "ln"
 obtain ⟨p,fg,pl,b,sn,z,m,pt,wy,wd,f,x,st,rfl,hp,q⟩:=h
 refine ⟨_,zC (Jv (zj KJ (pv 0) (zh (zB)) (zh (zB))) (JI rfl (zv (zg (i:=1) zX.nd rfl (Or.inl rfl)) (zv (zg (i:=2) zX.nd rfl (Or.inl rfl)) (zv (zg (i:=3) zX.nd rfl (Or.inl rfl)) (zv (zg (i:=4) zX.nd rfl (Or.inl rfl)) (zv (zg (i:=5) zX.nd rfl (Or.inl rfl)) (zv (zg (i:=6) zX.nd rfl (Or.inl rfl)) (zv (zg (i:=7) zX.nd rfl (Or.inl rfl)) (ky))))))))))
  (zC (Jv (zj KJ (pv 0) (zh (zB)) (qO)) (JI rfl (zv (zg (i:=8) zX.nd rfl (Or.inl rfl)) (zv (zg (i:=9) zX.nd rfl (Or.inl rfl)) (zv (zg (i:=10) zX.nd rfl (Or.inl rfl)) (zv (zg (i:=11) zX.nd rfl (Or.inl rfl)) (zv (zg (i:=12) zX.nd rfl (Or.inl rfl)) (ky))))))))
  (zE (zK (XJ (zIX (yi Z) Z.b0) qj hr rfl Z.aj (zA (pv 1) (zA (pv 2) (zA (pv 3) (zA (pv 4) (zA (pv 5) (zA (pv 6) (zA (pv 7) (zA (pv 8) (zA (pv 9) (zA (pv 10) (zA (pv 11) (zA (pv 12) (zD) zy) zy) zy) zy) zy) zy) zy) zy) zy) zy) zy) zy))))),?_⟩
 walk_at "st"
 walk_at "rd"
 refine zB1 (n:=13) hp rfl (by decide) fun p1 H1 g1 e1=>?_
 have e1':H1 p1=some (.tup [.int fg,.int pl,.int b,.str sn,.int z,.str (T [m]),.str (T [pt])]):=e1
 clear e1
 walk_at "rd"
 refine zB1 (n:=13) (g1.at hp) rfl (by decide) fun p2 H2 g2 e2=>?_
 have e2':H2 p2=some (.tup [.str wy,.int wd,.str (T [f]),.str x,.bl st]):=e2
 clear e2
 walk_at "rd"
 intro o dx no nd ne
 refine ⟨o,dx,fg,pl,b,sn,z,m,pt,wy,wd,f,x,st,rfl,zS,?_⟩
 have F0:zc K (upd (upd (upd H2 dx (.own o)) o (.ins zH dx [])) o (.ins zH dx (bfs wd f x st (jb fg pl b sn z m pt wy)))) o zH wd f x st (jb fg pl b sn z m pt wy):=⟨⟨dx,zS⟩,cl,na⟩
 have g3:zW H2 (upd (upd (upd H2 dx (.own o)) o (.ins zH dx [])) o (.ins zH dx (bfs wd f x st (jb fg pl b sn z m pt wy)))):=qR (qR (qR (zW.refl _) nd) no) no
 generalize upd (upd (upd H2 dx (.own o)) o (.ins zH dx [])) o (.ins zH dx (bfs wd f x st (jb fg pl b sn z m pt wy)))=H3 at F0 g3 ⊢
 exact ⟨rfl,q _ _ ((g1.trans g2).trans g3) F0⟩
theorem Xa {l:List Nat} (h:Asc l) (k:Nat):l.getD k 0 < 127:=by
 rw [getD_eq_getElem?_getD]
 cases e:l[k]? with
 | none=>decide
 | some c=>exact h c (mem_of_getElem? e)
local macro_rules | `(tactic| walk_at "asc")=>`(tactic| first | assumption | exact Asc.nil | exact Asc.one (Xa (by assumption) _) | exact Asc.one (by decide) | (with_reducible refine Asc.app ?_ ?_ <;> walk_at "asc") | (with_reducible refine Asc.take ?_ _;walk_at "asc") | (with_reducible refine Asc.drop ?_ _;walk_at "asc"))
def yR (K:W.Frag):Sp:=fun vs H Q _=>∃ (c o s:Int),vs=[.int c,.int o,.int s]/\(s=0\/s=1) /\ ∀ p H' wd f x st d,zW H H'->xk H' p wd f x st d->Q (.ref p) H'
theorem VB {o:Int} (h:s=0\/s=1) (q : ∀ p H' wd f x st d,zW H H'->xk H' p wd f x st d->Q (.ref p) H'):yR K ([.int c,.int o,.int s]++[]) H Q E:=⟨c,o,s,rfl,h,q⟩
include Z in
theorem Qw:Has P w K mg base "_law_word_spec" 3 ["_law_cell", "_law_other", "_law_small"] (yR K):=by
 refine jm Z.kn Z.bm (l3N (by intros;rfl)) fun fq fd F=>?_
 refine F.ok zn (fun vs H Q E=>?_) (fun _ _ _ s H vs Q E hr h=>?_)
 ·walk_at "ln"
 obtain ⟨c,o,s0,rfl,hs,q⟩:=h
 refine ⟨_,zC (zJ (i:=3) zn.nd rfl (Or.inl rfl) (zF (zL Z) hr rfl (zA (pv 0) (zA (zB) (zA (zB) (zD))))))
  (zC (zJ (i:=4) zn.nd rfl (Or.inl rfl) (zM zp (zB) (zF (zL Z) hr rfl (zA (pv 0) (zA (zB) (zA (zB) (zD)))))))
  (zC (zJ (i:=5) zn.nd rfl (Or.inl rfl) (zj jH (zBF (Qh (kz Z) hr rfl) (zh (pv 3)) (qO) (pv 4)) (qO) (zh (zM zp (zB) (zF (zL Z) hr rfl (zA (pv 0) (zA (zB) (zA (zR zi (zt (zA (zB) (zA (zB) (zD)))) (pv 2) (fun _ _=>rfl)) (zD)))))))))
  (zC (zJ (i:=6) zn.nd rfl (Or.inl rfl) (zF (zL Z) hr rfl (zA (pv 1) (zA (zB) (zA (zR zi (zt (zA (zB) (zA (zB) (zD)))) (pv 2) (fun _ _=>rfl)) (zD))))))
  (zC (zJ (i:=7) zn.nd rfl (Or.inl rfl) (zI (xm rfl) Z.ar rfl Xw (zA (zB) (zA (zM zp (pv 6) (zF (zL Z) hr rfl (zA (pv 1) (zA (zB) (zA (zR zi (zt (zA (zB) (zA (zB) (zD)))) (pv 2) (fun _ _=>rfl)) (zD)))))) (zD)))))
  (zC (zJ (i:=8) zn.nd rfl (Or.inl rfl) (zR zi (zt (zA (zR jz (pv 5) (zB) (fun _ _=>rfl)) (zA (zF (xB Z) hr rfl (zA (pv 1) (zA (zB) (zD)))) (zA (zR jz (pv 5) (k7 xE (zB)) (fun _ _=>rfl)) (zD))))) (zF (zL Z) hr rfl (zA (pv 1) (zA (zB) (zA (zB) (zD))))) (fun _ _=>rfl)))
  (zC (zJ (i:=9) zn.nd rfl (Or.inl rfl) (zR zi (zt (zA (zB) (zA (zM zp (zB) (zF (zL Z) hr rfl (zA (pv 1) (zA (zB) (zA (zR zi (zt (zA (zB) (zA (zB) (zD)))) (pv 2) (fun _ _=>rfl)) (zD)))))) (zA (pv 7) (zD))))) (zF (zL Z) hr rfl (zA (pv 1) (zA (zB) (zA (zB) (zD))))) (fun _ _=>rfl)))
  (zC (zJ (i:=10) zn.nd rfl (Or.inl rfl) (zR zi (zt (zA (zY) (zA (zY) (zA (zY) (zD))))) (zF (zL Z) hr rfl (zA (pv 1) (zA (zB) (zA (zB) (zD))))) (fun _ _=>rfl)))
  (zE (zK (qh (zA (zY) (zA (pv 5) (zA (pv 6) (zA (pv 7) (zA (pv 9) (zA (pv 8) (zA (pv 10) (zA (qY qd (zF (zL Z) hr rfl (zA (pv 1) (zA (zB) (zA (zB) (zD))))) (zB) (zU _)) (zD) WC) zy) zy) zy) zy) zy) zy) QT))))))))))),?_⟩
 walk_at "st"
 walk_at "rd"
 rename_i v1 h01 h11 v0 h00 h10 l hl al
 obtain ⟨p1,p2,p3⟩:=WD (a:=l) (s:=v1) (st:=1+v0) h01 (by omega) (by omega)
 refine ⟨T l,rfl,by omega,by show l.length<=sizeLine;rw [hl];decide,Nat.le_of_lt (qr (by omega)),fun y hy=>?_⟩
 have hy' : ∃ z:List Nat,y=T z/\0 < z.length/\z.length<=200/\Asc z:=by
  rcases hy with rfl | ⟨_,rfl⟩
  ·exact ⟨_,rfl,List.length_pos_iff.mpr p1,by omega,fun c hc=>al c (p2 c hc)⟩
  ·exact ⟨l,rfl,by omega,by omega,al⟩
 obtain ⟨z,rfl,z1,z2,z3⟩:=hy'
 clear hy p1 p2 p3
 walk_at "rd"
 rename_i q3 H3 g3 m3 e3 ka hka v3 h03 h13 q2 H2 g2 m2 e2 kb hkb v2 h02 h12 q1 H1 g1 m1 e1 kc hkc v9 h09 h19 k0 hk0 c0 hc0 qf Hf gf mf ef vf hf0 hf1
 have s1:0 < (z.take (1+v3).toNat).length:=by rw [length_take];omega
 have s2:(z.take (1+v3).toNat).length<=200:=by rw [length_take];omega
 have s3:Asc (z.take (1+v3).toNat):=z3.take _
 generalize z.take (1+v3).toNat=sg at ef s1 s2 s3 ⊢
 have sm : ∀ k,k < sg.length->sg.getD k 0 < 127:=fun k hk=>s3 _ (by rw [getD_eq_getElem?_getD,getElem?_eq_getElem hk];exact getElem_mem _)
 refine kg (fun y=>∃ f:Nat,y=T [f]/\f < 127) ef (by omega) (by show _ < (3:Int);omega) (by simp only [mem_cons,not_mem_nil,or_false];rintro v (rfl | rfl | rfl) <;> exact ⟨_,rfl,_,rfl,by first | assumption | exact Xa s3 _⟩) fun y hy=>?_
 obtain ⟨f,rfl,hf⟩:=hy
 have g0:zW H Hf:=by walk_at "sm"
 clear ef e1 e2 e3
 walk_at "rd"
 rename_i q8 H8 g8 m8 e8 kd hkd v8 h08 h18 q7 H7 g7 m7 e7 v7 h07 h17
 refine yz (fun wd=>0<=wd/\wd<=40) e7 (by omega) (by show _ < (3:Int);omega) (by simp only [mem_cons,not_mem_nil,or_false];rintro v (rfl | rfl | rfl) <;> exact ⟨_,rfl,by omega,by omega⟩) fun wd hwd=>?_
 clear e7 e8
 walk_at "rd"
 rename_i q6 H6 g6 m6 e6 v6 h06 h16
 refine kg kN e6 (by omega) (by show _ < (3:Int);omega) Vx fun y hy=>?_
 clear e6
 walk_at "rd"
 rename_i v5 h05 h15 q5 H5 g5 e5
 exact q _ _ _ _ _ _ _ (by walk_at "sm") (.word e5 ⟨by omega,s2,h02,by omega,by omega,hwd.1,hwd.2,hy,s3,hf⟩)
def Z5 (K:W.Frag):Sp:=fun vs H Q _=>∃ (c n:Int),vs=[.int c,.int n]/\1<=n/\n<=12 /\ ∀ L H' ns,zW H H'->H' L=some (.lst (tsV ns))->(ns.length:Int)=n->((∀ t ∈ ns,1<=t.length/\t.length<=13/\Asc t)/\ns.Nodup)->Q (.ref L) H'
theorem zDo {n:Int} (h1:1<=n) (h2:n<=12) (q : ∀ L H' ns,zW H H'->H' L=some (.lst (tsV ns))->(ns.length:Int)=n->((∀ t ∈ ns,1<=t.length/\t.length<=13/\Asc t)/\ns.Nodup)->Q (.ref L) H'):Z5 K ([.int c,.int n]++[]) H Q E:=⟨c,n,rfl,h1,h2,q⟩
theorem fl1 : ∀ cs:List Nat,(cs.map fun c=>[c]).flatten=cs
 | []=>rfl
 | c::cs=>by rw [map_cons,List.flatten_cons,fl1 cs];rfl
theorem zAM {H4:Hp} {ns:Ce} {t:List Nat} (nL:H' L=none) (g4:zW H' H4) (e4:H4 L=some (.lst (tsV ns))) (hz:ns.length<=900) (q : ∀ H5,zW H' H5->H5 L=some (.lst (tsV (ns++[t])))->Q .non H5):Y0 (.ref L) [.str (T t)] H4 Q:=
 Xn e4 (qr (by rw [zr];omega)) (q _ (qR g4 nL) (by rw [zS,<- xL];rfl))
theorem Ya {l:List Nat} (h:Asc l) (k:Nat):l.getD k 0 < 127:=by
 rw [getD_eq_getElem?_getD]
 cases e:l[k]? with
 | none=>decide
 | some c=>exact h c (mem_of_getElem? e)
def Jk (way mn sz st v:Int) (S B:List Nat) (k:Nat):List Nat:=if way=0 then B.take (k+1) else if way=1 then B.take mn.toNat++[S.getD ((v+k*st) % 93).toNat 0]++(B.take sz.toNat).drop (mn+1).toNat else B.take k++[48]
section
variable {way mn sz st v : Int} {S B : List Nat} (hS : S.length = 93) (hB : B.length = 12) (up : S.Pairwise (· < ·)) (m0 : 0 <= mn) (m1 : mn < sz) (z1 : sz <= 12) (t0 : 1 <= st) (t1 : st <= 8)
include hB m0 m1 z1 in
theorem zGv {k:Nat} (hk:k < 12):1<=(Jk way mn sz st v S B k).length/\(Jk way mn sz st v S B k).length<=12:=by
 unfold Jk
 split
 ·rw [length_take,hB];omega
 ·split
  ·simp only [length_append,length_take,length_drop,length_cons,length_nil,hB];omega
  ·simp only [length_append,length_take,length_cons,length_nil,hB];omega
include hS hB up t0 t1 in
theorem WV {i j:Nat} (hij:i < j) (hj:j < 12):Jk way mn sz st v S B i≠Jk way mn sz st v S B j:=by
 intro e
 unfold Jk at e
 split at e
 ·have:=congrArg List.length e
  rw [length_take,length_take,hB] at this;omega
 ·split at e
  ·rw [append_assoc,append_assoc] at e
   have e2:=(List.cons.injEq .. ▸ append_cancel_left e:_/\_).1
   have a0:=emod_nonneg (v+(i:Int)*st) (show (93:Int)≠0 by decide)
   have a1:=emod_lt_of_pos (v+(i:Int)*st) (show (0:Int) < 93 by decide)
   have b0:=emod_nonneg (v+(j:Int)*st) (show (93:Int)≠0 by decide)
   have b1:=emod_lt_of_pos (v+(j:Int)*st) (show (0:Int) < 93 by decide)
   have ne:(v+(i:Int)*st) % 93≠(v+(j:Int)*st) % 93:=by
    obtain ⟨d,rfl⟩ : ∃ d:Nat,j=i+d:=⟨j - i,by omega⟩
    have ed:((i+d:Nat):Int)*st=(i:Int)*st+(d:Int)*st:=by rw [Int.natCast_add,Int.add_mul]
    have d1:1*1<=(d:Int)*st:=mul_le_mul (by omega) t0 (by decide) (by omega)
    have d2:(d:Int)*st<=11*8:=mul_le_mul (by omega) t1 (by omega) (by decide)
    rw [ed]
    omega
   generalize (v+(i:Int)*st) % 93=a at *
   generalize (v+(j:Int)*st) % 93=b at *
   rw [getD_eq_getElem?_getD,getElem?_eq_getElem (show a.toNat < S.length by omega),getD_eq_getElem?_getD,getElem?_eq_getElem (show b.toNat < S.length by omega)] at e2
   have e3:S[a.toNat]'(by omega)=S[b.toNat]'(by omega):=e2
   have pw:=List.pairwise_iff_getElem.mp up
   rcases Nat.lt_trichotomy a.toNat b.toNat with h | h | h
   ·have:=pw a.toNat b.toNat (by omega) (by omega) h;omega
   ·omega
   ·have:=pw b.toNat a.toNat (by omega) (by omega) h;omega
  ·have:=congrArg List.length e
   simp only [length_append,length_take,length_cons,length_nil,hB] at this
   omega
end
theorem zGE {way mn sz st v:Int} {S:List Nat} (hS:Asc S) (hB:Asc B) {k:Nat}:Asc (Jk way mn sz st v S B k):=by
 unfold Jk
 split
 ·exact hB.take _
 ·split
  ·exact ((hB.take _).app (Asc.one (Ya hS _))).app ((hB.take _).drop _)
  ·exact (hB.take _).app (Asc.one (by decide))
local macro_rules | `(tactic| walk_at "rdc")=>`(tactic| ((with_reducible refine' zE0 ?h1 ?h2 ?_);(case h1|h2=>omega);intro h0' h1'))
local macro_rules | `(tactic| walk_at "rdc")=>`(tactic| ((with_reducible refine zBh ?_);intro l' hl' al' pl'))
include Z in
theorem Vd:Has P w K mg base "_law_names" 2 ["_law_cell", "_law_many"] (Z5 K):=by
 refine jm Z.kn Z.bn (l2N (by intros;rfl)) fun fq fd F=>?_
 refine F.ok z6 (fun vs H Q E=>?_) (fun _ _ _ s H vs Q E hr h=>?_)
 ·walk_at "ln"
 obtain ⟨c,n,rfl,h1,h2,q⟩:=h
 refine ⟨_,zC (zJ (i:=2) z6.nd rfl (Or.inr rfl) (zj jH (Qh (kz Z) hr rfl) (zh (zB)) (qO)))
  (zC (zJ (i:=3) z6.nd rfl (Or.inl rfl) (kv PySem.F.plainAttrs_str PySem.F.slot_str_join PySem.F.type_str_join QK (qi (l:=[]) (by decide +kernel)) (zA (ju (cl:=[("_law_signs_here", s.heap.objs.size+1+1),("_law_cell", s.heap.objs.size+1+0)]) (fr:=["_law_cell", "_law_signs_here"]) (is:=[0,2]) rfl rfl ⟨rfl,⟨rfl,trivial⟩⟩ rfl ⟨⟨rfl,rfl,Or.inl rfl⟩,⟨⟨rfl,rfl,Or.inl rfl⟩,trivial⟩⟩ (by decide) (by decide +kernel) rfl (by decide +kernel) rfl (yA rfl Z.an (zA (zB) (zD))) (fun _ _ _ _=>xT) (fun _ _ _ _=>zR jz (pv 2) (zF (zL Z :) hr rfl (zA (pv 1) (zA (zM zp (zB) (pv 0)) (zA (zB) (zD))))) (fun _ _=>rfl))) (zD))))
  (zC (zJ (i:=4) z6.nd rfl (Or.inl rfl) (zF (zL Z :) hr rfl (zA (pv 0) (zA (zB) (zA (zB) (zD))))))
  (zC (zJ (i:=5) z6.nd rfl (Or.inl rfl) (zF (zL Z :) hr rfl (zA (pv 0) (zA (zB) (zA (zB) (zD))))))
  (zC (zJ (i:=6) z6.nd rfl (Or.inl rfl) (zM zp (zB) (zF (zL Z :) hr rfl (zA (pv 0) (zA (zB) (zA (zB) (zD)))))))
  (zC (zJ (i:=7) z6.nd rfl (Or.inl rfl) (zR zi (zt (zA (zB) (zA (zB) (zA (zB) (zA (zB) (zA (zB) (zA (zB) (zD)))))))) (zF (zL Z :) hr rfl (zA (pv 0) (zA (zB) (zA (zB) (zD))))) (fun _ _=>rfl)))
  (zC (zJ (i:=8) z6.nd rfl (Or.inl rfl) (zt (zD)))
  (zC (xx PassesOwn.never rfl (yA rfl Z.an (zA (pv 1) (zD))) (zg (i:=9) z6.nd rfl (Or.inl rfl)) (zC (zJ (i:=10) z6.nd rfl (Or.inl rfl) (zR jz (pv 2) (zM qJ (zM zp (zF (zL Z :) hr rfl (zA (pv 0) (zA (zB) (zA (zB) (zD))))) (zM qH (pv 9) (pv 7))) (zB)) (fun _ _=>rfl)))
  (zE (zm (zQ qd (pv 4) (zB) (zU _)) (zE (jo (kv PySem.F.plainAttrs_list PySem.F.slot_list_append PySem.F.type_list_append yp (pv 8) (zA (zj jH (pv 3) (qO) (zh (zM zp (pv 9) (zB)))) (zD))))) (zE (zm (zQ qd (pv 4) (zB) (zU _)) (zE (jo (kv PySem.F.plainAttrs_list PySem.F.slot_list_append PySem.F.type_list_append yp (pv 8) (zA (zM zk (zM zk (zj jH (pv 3) (qO) (zh (zI (xm rfl) Z.ar rfl Xw (zA (pv 5) (zA (zM jJ (pv 6) (zB)) (zD)))))) (pv 10)) (zj jH (pv 3) (zh (zM zp (zI (xm rfl) Z.ar rfl Xw (zA (pv 5) (zA (zM jJ (pv 6) (zB)) (zD)))) (zB))) (zh (pv 6)))) (zD))))) (zE (jo (kv PySem.F.plainAttrs_list PySem.F.slot_list_append PySem.F.type_list_append yp (pv 8) (zA (zM zk (zj jH (pv 3) (qO) (zh (pv 9))) (qi (l:=[48]) (by decide +kernel))) (zD)))))))))))
  (zC (zJ (i:=11) z6.nd rfl (Or.inl rfl) (zF (zL Z :) hr rfl (zA (pv 0) (zA (zB) (zA (pv 1) (zD))))))
  (zE (zK (zM zAH (zj Y3 (pv 8) (zh (pv 11)) (qO)) (zj Y3 (pv 8) (qO) (zh (pv 11)))))))))))))),?_⟩
 walk_at "st"
 walk_at "rd"
 rename_i l hl al pw
 have lS:(l.drop (Int.toNat 1)).length=93:=by rw [length_drop,hl];rfl
 have aS:Asc (l.drop (Int.toNat 1)):=Asc.drop al _
 have pS:(l.drop (Int.toNat 1)).Pairwise (· < ·):=List.Pairwise.sublist (List.drop_sublist _ _) pw
 generalize l.drop (Int.toNat 1)=S at lS aS pS ⊢
 refine X9 (by decide) (by decide) (Nat.le_of_lt (qr (by decide))) (fun i ys H'=>H'=H /\ ∃ cs:List Nat,cs.length=i/\Asc cs/\ys=tsV (cs.map fun c=>[c])) ⟨rfl,[],rfl,Asc.nil,rfl⟩ (fun i ys H' _ zz=>by obtain ⟨_,cs,h,_,e⟩:=zz;rw [e,zr,length_map];omega) ?_ ?_
 ·rintro i ys H' hi ⟨rfl,cs,c1,c2,rfl⟩
  walk_at "rd"
  refine nxC hi ⟨rfl,cs++[S.getD (pk c (70+(0+(i:Int))) 93).toNat 0],by rw [length_append,c1];rfl,c2.app (.one (Ya aS _)),?_⟩
  rw [map_append,<- xL];rfl
 ·rintro ys H' ⟨rfl,B,lB,aB,rfl⟩ p1 H1 g1 n1 e1
  have lB':B.length=12:=lB
  walk_at "rd"
  refine Xe e1 (by rw [fl1,length_map];show B.length+B.length*0<=_;omega) ?_
  rw [show Lt (T [])=[] from rfl,zA7,fl1]
  clear e1
  walk_at "rd"
  rename_i w10 w11 w20 w21 w30 w31 p2 H2 g2 n2 e2 w40 w41
  refine yz (fun s=>1<=s/\s<=8) e2 (by omega) (by show _ < (6:Int);omega) (by simp only [mem_cons,not_mem_nil,or_false];rintro v (rfl | rfl | rfl | rfl | rfl | rfl) <;> exact ⟨_,rfl,by omega,by omega⟩) fun s hs=>?_
  have g02:=g1.trans g2
  clear e2
  walk_at "rd"
  rename_i L H3 g3 n3 e3
  have g03:=g02.trans g3
  have nL:H' L=none:=none_of g02 n3
  generalize pk c 83 3=way at *
  generalize pk c 84 12=at0 at *
  obtain ⟨sz,hsz⟩ : ∃ sz:Int,sz=1+pk c 85 12:=⟨_,rfl⟩
  rw [<- hsz]
  obtain ⟨mn,hmn⟩ : ∃ mn:Int,mn=if sz - 1 < at0 then sz - 1 else at0:=⟨_,rfl⟩
  have mn0:0<=mn/\mn < sz:=by rw [hmn];split <;> omega
  have sz1:1<=sz/\sz<=12:=by omega
  refine Xl (by omega) (by omega) (fun i σ H4=>∃ (r1 r2:Option V),zW H' H4/\H4 L=some (.lst (tsV ((List.range i).map (Jk way mn sz s (pk c 87 93) S B))))/\σ=[some (.int c),some (.int n),some (.str (T S)),some (.str (T B)),some (.int way),some (.int at0),some (.int sz),some (.int s),some (.ref L),r1,r2,none]) ⟨none,none,g03,e3,rfl⟩ ?_ ?_
  ·rintro i σ H4 hi ⟨r1,r2,g4,e4,rfl⟩
   have m0:0<=(i:Int)*s:=Int.mul_nonneg (by omega) (by omega)
   have m1:(i:Int)*s<=12*8:=mul_le_mul (by omega) hs.2 (by omega) (by omega)
   have nn:=emod_nonneg (pk c 87 93+(i:Int)*s) (show (93:Int)≠0 by decide)
   have nn2:=emod_lt_of_pos (pk c 87 93+(i:Int)*s) (show (0:Int) < 93 by decide)
   have ln:((List.range i).map (Jk way mn sz s (pk c 87 93) S B)).length<=900:=by rw [length_map,length_range];omega
   walk_at "rd"
   ·rename_i v0 v1 hc
    have e:Jk way mn sz s (pk c 87 93) S B i=B.take (0+(i:Int)+1).toNat:=by
     unfold Jk;rw [if_pos hc,show (0+(i:Int)+1).toNat=i+1 by omega]
    exact zAM nL g4 e4 ln fun H5 g5 e5=>⟨_,_,g5,by rw [e5,range_succ,map_append,map_cons,map_nil,e],rfl⟩
   ·rename_i v0 v1 hc hc2 k1 hk1 k2 hk2
    have e:Jk way mn sz s (pk c 87 93) S B i=B.take k1.toNat++[S.getD ((pk c 87 93+(0+(i:Int))*s) % 93).toNat 0]++(B.take sz.toNat).drop (k2+1).toNat:=by
     unfold Jk;rw [if_neg hc,if_pos hc2,show k1=mn by rw [hmn];split <;> omega,show k2=mn by rw [hmn];split <;> omega,show (0:Int)+(i:Int)=(i:Int) by omega]
    exact zAM nL g4 e4 ln fun H5 g5 e5=>⟨_,_,g5,by rw [e5,range_succ,map_append,map_cons,map_nil,e],rfl⟩
   ·rename_i v0 v1 hc hc2
    have e:Jk way mn sz s (pk c 87 93) S B i=B.take (0+(i:Int)).toNat++[48]:=by
     unfold Jk;rw [if_neg hc,if_neg hc2,show (0+(i:Int)).toNat=i by omega]
    exact zAM nL g4 e4 ln fun H5 g5 e5=>⟨_,_,g5,by rw [e5,range_succ,map_append,map_cons,map_nil,e],rfl⟩
  ·rintro σ H4 ⟨r1,r2,g4,e4,rfl⟩
   walk_at "rd"
   rename_i v50 v51 p5 H5 g5 n5 e5 p6 H6 g6 n6 e6
   have ok:(∀ t ∈ (List.range n.toNat).map (Jk way mn sz s (pk c 87 93) S B),1<=t.length/\t.length<=13/\Asc t)/\((List.range n.toNat).map (Jk way mn sz s (pk c 87 93) S B)).Nodup:=by
    refine ⟨fun t ht=>?_,?_⟩
    ·obtain ⟨k,hk,rfl⟩:=List.mem_map.mp ht
     have:=zGv (way:=way) (st:=s) (v:=pk c 87 93) (S:=S) lB' mn0.1 mn0.2 sz1.2 (k:=k) (by have:=List.mem_range.mp hk;omega)
     exact ⟨this.1,by omega,zGE aS aB⟩
    ·unfold List.Nodup
     rw [List.pairwise_map]
     refine List.Pairwise.imp_of_mem ?_ List.pairwise_lt_range
     intro i j hi hj hij
     exact WV lS lB' pS hs.1 hs.2 hij (by have:=List.mem_range.mp hj;omega)
   have lN:((List.range n.toNat).map (Jk way mn sz s (pk c 87 93) S B)).length=n.toNat:=by rw [length_map,length_range]
   generalize (List.range n.toNat).map (Jk way mn sz s (pk c 87 93) S B)=N at *
   have pm : ∀ k,(N.drop k++N.take k).Perm N:=fun k=>List.perm_append_comm.trans (by rw [List.take_append_drop])
   refine zDI (g6.at e5) e6 (by rw [length_drop,length_take];omega) fun p7 H7 g7 n7 e7=>?_
   exact q _ _ _ (g4.trans (g5.trans (g6.trans g7))) e7 (by rw [(pm _).length_eq,lN];omega) ⟨fun t h=>ok.1 t ((pm _).mem_iff.mp h),(pm _).nodup_iff.mpr ok.2⟩
local macro_rules | `(tactic| walk_at "rdc")=>`(tactic| ((with_reducible refine' zDF ?h1 ?h2 ?_);(case h1|h2=>omega);intro v' h0' h1'))
local macro_rules | `(tactic| walk_at "rdc")=>`(tactic| ((with_reducible refine zAn ?_);intro l' hl' al'))
local macro_rules | `(tactic| walk_at "rdc")=>`(tactic| first | ((with_reducible refine' zDo ?h1 ?h2 ?_);(case h1|h2=>omega);intro L' H' ns' g' e' hn' ht') | fail "none")
def xU (K:W.Frag):Sp:=fun vs H Q _=>∃ (c o s:Int),vs=[.int c,.int o,.int s]/\(s=0\/s=1) /\ ∀ p H' wd f x st d,zW H H'->xk H' p wd f x st d->Q (.ref p) H'
theorem Xh {o:Int} (h:s=0\/s=1) (q : ∀ p H' wd f x st d,zW H H'->xk H' p wd f x st d->Q (.ref p) H'):xU K ([.int c,.int o,.int s]++[]) H Q E:=⟨c,o,s,rfl,h,q⟩
include Z in
theorem Zd:Has P w K mg base "_law_choice_spec" 3 ["_law_cell", "_law_other", "_law_small"] (xU K):=by
 refine jm Z.kn Z.bo (l3N (by intros;rfl)) fun fq fd F=>?_
 refine F.ok qK (fun vs H Q E=>?_) (fun _ _ _ s H vs Q E hr h=>?_)
 ·walk_at "ln"
 obtain ⟨c,o,s0,rfl,hs,q⟩:=h
 refine ⟨_,zC (zJ (i:=3) qK.nd rfl (Or.inl rfl) (zF (Vd Z) hr rfl (zA (pv 0) (zA (zM zp (zB) (zF (zL Z) hr rfl (zA (pv 1) (zA (zB) (zA (zR zi (zt (zA (zB) (zA (zB) (zD)))) (pv 2) (fun _ _=>rfl)) (zD)))))) (zD)))))
  (zC (zJ (i:=4) qK.nd rfl (Or.inl rfl) (zR zi (zt (zA (zR jz (zR zi (pv 3) (zB) (fun _ _=>rfl)) (k7 xE (zB)) (fun _ _=>rfl)) (zA (zF (xB Z) hr rfl (zA (pv 1) (zA (zB) (zD)))) (zA (qi (l:=[48]) (by decide +kernel)) (zD))))) (zF (zL Z) hr rfl (zA (pv 1) (zA (zB) (zA (zB) (zD))))) (fun _ _=>rfl)))
  (zC (zJ (i:=5) qK.nd rfl (Or.inl rfl) (zR zi (zt (zA (zB) (zA (zM zp (zB) (zF (zL Z) hr rfl (zA (pv 1) (zA (zB) (zA (zR zi (zt (zA (zB) (zA (zB) (zD)))) (pv 2) (fun _ _=>rfl)) (zD)))))) (zA (zM zp (zI zd Z.am rfl z4 (zA (zR zi (pv 3) (k7 xE (zB)) (fun _ _=>rfl)) (zD))) (zB)) (zD))))) (zF (zL Z) hr rfl (zA (pv 1) (zA (zB) (zA (zB) (zD))))) (fun _ _=>rfl)))
  (zC (zJ (i:=6) qK.nd rfl (Or.inl rfl) (zR zi (zt (zA (zY) (zA (zY) (zA (zY) (zD))))) (zF (zL Z) hr rfl (zA (pv 1) (zA (zB) (zA (zB) (zD))))) (fun _ _=>rfl)))
  (zE (zK (qh (zA (zY) (zA (pv 3) (zA (pv 5) (zA (pv 4) (zA (pv 6) (zA (qY qd (zF (zL Z) hr rfl (zA (pv 1) (zA (zB) (zA (zB) (zD))))) (zB) (zU _)) (zD))))))))))))),?_⟩
 walk_at "st"
 walk_at "rd"
 rename_i p0 H0 g0 n0 e0 ka hka v0 h00 h10 L H1 ns g1 e1 hn ht2
 obtain ⟨ht,nd⟩:=ht2
 have l0:0 < ns.length:=by omega
 have t0:=ht (ns.getD (Int.toNat 0) []) (by rw [getD_eq_getElem?_getD,getElem?_eq_getElem (show Int.toNat 0 < ns.length from l0)];exact getElem_mem _)
 generalize ns.getD (Int.toNat 0) []=t at t0 ⊢
 have g01:=g0.trans g1
 clear e0
 walk_at "rd"
 rename_i c2 hc2 p2 H2 g2 n2 e2 v2 h02 h12
 refine kg (fun y=>∃ f:Nat,y=T [f]/\f < 127) e2 (by omega) (by show _ < (3:Int);omega) (by simp only [mem_cons,not_mem_nil,or_false];rintro v (rfl | rfl | rfl) <;> exact ⟨_,rfl,_,rfl,by first | assumption | exact Xa t0.2.2 _ | decide⟩) fun y hy=>?_
 obtain ⟨f,rfl,hf⟩:=hy
 clear e2
 have t1:=ht (ns.getD (ns.length - 1) []) (by rw [getD_eq_getElem?_getD,getElem?_eq_getElem (show ns.length - 1 < ns.length by omega)];exact getElem_mem _)
 walk_at "rd"
 rename_i p3 H3 g3 n3 e3 kb hkb v3 h03 h13 p4 H4 g4 n4 e4 v4 h04 h14
 generalize ns.getD (ns.length - 1) []=u at t1 e4 ⊢
 clear e3
 refine yz (fun wd=>0<=wd/\wd<=40) e4 (by omega) (by show _ < (3:Int);omega) (by simp only [mem_cons,not_mem_nil,or_false];rintro v (rfl | rfl | rfl) <;> exact ⟨_,rfl,by omega,by omega⟩) fun wd hwd=>?_
 clear e4
 walk_at "rd"
 rename_i p5 H5 g5 n5 e5 v5 h05 h15
 refine kg kN e5 (by omega) (by show _ < (3:Int);omega) Vx fun y hy=>?_
 clear e5
 walk_at "rd"
 rename_i v6 h06 h16 p6 H6 g6 e6
 exact q _ _ _ _ _ _ _ (by walk_at "sm") (.cho e6 (g6.at (g5.at (g4.at (g3.at (g2.at e1))))) ⟨by omega,by omega,fun t h=>(ht t h).2.1,hwd.1,hwd.2,hy,fun t h=>(ht t h).2.2,nd,hf⟩)
def YY (H:Hp) (p:Addr) (fg pl b:Int) (sn:Str) (z:Int) (m pt:Nat) (wy:Str) (wd:Int) (f:Nat) (x:Str) (st:Bool):Prop:=H p=some (.tup [.str "number", .int fg,.int pl,.int b,.str sn,.int z,.str (T [m]),.str (T [pt]),.str wy,.int wd,.str (T [f]),.str x,.bl st])
def Zk (K:W.Frag):Sp:=fun vs H Q _=>∃ b t:Int,vs=[.int b,.int t]/\2<=b/\b<=16/\0<=t/\t<=60/\Q (.int (b ^ t.toNat)) H
theorem zFM {b:Int} (h1:2<=b) (h2:b<=16) (h3:0<=t) (h4:t<=60) (q:Q (.int (b ^ t.toNat)) H):Zk K ([.int b,.int t]++[]) H Q E:=⟨b,t,rfl,h1,h2,h3,h4,q⟩
local macro_rules | `(tactic| walk_at "rdc")=>`(tactic| ((with_reducible refine' zFM ?h1 ?h2 ?h3 ?h4 ?_);(case h1|h2|h3|h4=>omega)))
def kI (K:W.Frag):Sp:=fun vs H Q _=>∃ a b:Int,vs=[.int a,.int b]/\0 < b/\Q (.int (Int.gcd a b)) H
theorem zA0 {b:Int} (h:0 < b) (q:Q (.int (Int.gcd a b)) H):kI K ([.int a,.int b]++[]) H Q E:=⟨a,b,rfl,h,q⟩
local macro_rules | `(tactic| walk_at "rdc")=>`(tactic| ((with_reducible refine' zA0 ?h ?_);(case h=>omega)))
def ZG (K:W.Frag):Sp:=fun vs H Q _=>∃ t b:Int,vs=[.int t,.int b]/\0 < b/\b < 10000000000000000000000000000000000000000000000000000000000000000000000000000000000000000000000000000000000000000000000000000000000000000000000000000000000000000000000000000000000000000000000 /\ ∀ p H',zW H H'->H' p=some (.tup [.int (xO t b),.int (jt t b)])->Q (.ref p) H'
def kL (K:W.Frag):Sp:=fun vs H Q _=>∃ n b:Int,vs=[.int n,.int b]/\0<=n/\2<=b/\b<=16/\n < 1766847064778384329583297500742918515827483896875618958121606201292619776/\Q (.str (T (yB b.toNat n.toNat))) H
theorem Ku {n b:Int} (h1:0<=n) (h2:2<=b) (h3:b<=16) (h4:n < 1766847064778384329583297500742918515827483896875618958121606201292619776) (q:Q (.str (T (yB b.toNat n.toNat))) H):kL K ([.int n,.int b]++[]) H Q E:=⟨n,b,rfl,h1,h2,h3,h4,q⟩
local macro_rules | `(tactic| walk_at "rdc")=>`(tactic| ((with_reducible refine' Ku ?h1 ?h2 ?h3 ?h4 ?_);(case h1|h2|h3|h4=>omega)))
include Z in
theorem qg:Has P w K mg base "_law_power" 1 ["_law_base", "_law_times"] (Zk K):=by
 refine jm Z.kn Z.bp (l2N (by intros;rfl)) fun fq fd F=>?_
 refine F.ok xY (fun vs H Q E=>?_) (fun _ _ _ s H vs Q E hr h=>?_)
 ·walk_at "ln"
 obtain ⟨b,t,rfl,h1,h2,h3,h4,q⟩:=h
 refine ⟨_,zC (zJ (i:=2) xY.nd rfl (Or.inl rfl) (zB))
  (zC (xx PassesOwn.never rfl (yA rfl Z.an (zA (pv 1) (zD))) (zg (i:=3) xY.nd rfl (Or.inl rfl)) (zE (zJ (i:=2) xY.nd rfl (Or.inl rfl) (zM qH (pv 2) (pv 0)))))
  (zE (zK (pv 2)))),?_⟩
 walk_at "st"
 walk_at "rd"
 refine Xl (by omega) (by omega) (fun i σ H'=>H'=H /\ ∃ r,σ=[some (.int b),some (.int t),some (.int (b ^ i)),r]) ⟨rfl,none,by rw [Int.pow_zero];rfl⟩ ?_ ?_
 ·rintro i σ H' hi ⟨rfl,r,rfl⟩
  have z:=zHu (n:=i) h1 h2 (by omega)
  walk_at "rd"
  exact ⟨rfl,some (.int (0+i)),by rw [pow_succ];rfl⟩
 ·rintro σ H' ⟨rfl,r,rfl⟩
  walk_at "rd"
  exact q
theorem Wz (hl:0 < l):Int.gcd l (g % l)=Int.gcd g l:=by
 rw [Int.gcd_comm g l]
 have e:g % l=g+l*(-(g / l)):=by
  have:=Int.emod_add_mul_ediv g l
  rw [mul_neg];omega
 rw [e,Int.gcd_add_mul_left_right]
include Z in
theorem wX:Has P w K mg base "_law_divisor" 1 ["_law_one", "_law_other"] (kI K):=by
 refine jm Z.kn Z.bq (l2N (by intros;rfl)) fun fq fd F=>?_
 refine F.ok kP (fun vs H Q E=>?_) (fun _ _ _ s H vs Q E hr h=>?_)
 ·walk_at "ln"
 obtain ⟨a,b,rfl,h0,q⟩:=h
 refine ⟨_,zC (QM PassesOwn.never (zQ QY (pv 1) (zB) (zU _)) (zE (zCt (i:=0) (j:=1) rfl kP.nd rfl rfl (by decide) rfl rfl (zA (pv 1) (zA (zM qJ (pv 0) (pv 1)) (zD))) rfl)))
  (zE (zK (zI x5 Z.aw rfl Jw (zA (pv 0) (zD))))),?_⟩
 walk_at "st"
 walk_at "rd"
 refine XO (fun m σ H'=>H'=H /\ ∃ (g l:Int),σ=[some (.int g),some (.int l)]/\0<=l/\Int.gcd g l=Int.gcd a b/\m=l.toNat) ⟨_,rfl,a,b,rfl,by omega,rfl,rfl⟩ ?_
 rintro m σ H' ⟨rfl,g,l,rfl,hl,hgl,rfl⟩
 walk_at "rd"
 ·rename_i hc k' hk'
  subst hc
  rw [Int.gcd_zero_right] at hgl
  rw [<- hgl] at q
  rw [show k'=(g.natAbs:Int) by omega];exact q
 ·rename_i hc
  have e1:=emod_nonneg g (show l≠0 by omega)
  have e2:=emod_lt_of_pos g (show 0 < l by omega)
  exact ⟨_,by omega,rfl,l,g % l,rfl,e1,(Wz (by omega)).trans hgl,rfl⟩
include Z in
theorem Z1:Has P w K mg base "_law_lowest" 2 ["_law_top", "_law_bottom"] (ZG K):=by
 refine jm Z.kn Z.br (l2N (by intros;rfl)) fun fq fd F=>?_
 refine F.ok ZF (fun vs H Q E=>?_) (fun _ _ _ s H vs Q E hr h=>?_)
 ·walk_at "ln"
 obtain ⟨t,b,rfl,h0,h1,q⟩:=h
 refine ⟨_,zC (zJ (i:=2) ZF.nd rfl (Or.inl rfl) (zF (wX Z) hr rfl (zA (pv 0) (zA (pv 1) (zD)))))
  (zE (zK (qh (zA (zM qP (pv 0) (pv 2)) (zA (zM qP (pv 1) (pv 2)) (zD)))))),?_⟩
 walk_at "st"
 have e0:0 < (Int.gcd t b:Int):=by have:=Int.gcd_pos_of_ne_zero_right t (show b≠0 by omega);omega
 have e1:(Int.gcd t b:Int)<=b.natAbs:=by have:=Int.gcd_le_natAbs_right (a:=t) (b:=b) (by omega);omega
 walk_at "rd"
 refine q _ _ (by assumption) ?_
 unfold xO jt kA;rw [if_neg (show ¬ b < 0 by omega),Int.fdiv_eq_ediv_of_nonneg _ (Int.le_of_lt e0),Int.fdiv_eq_ediv_of_nonneg _ (Int.le_of_lt e0)];assumption
theorem KL {b:Int} (h1:0 < b) (h2:b < 10000000000000000000000000000000000000000000000000000000000000000000000000000000000000000000000000000000000000000000000000000000000000000000000000000000000000000000000000000000000000000000000) (q : ∀ p H',zW H H'->H' p=some (.tup [.int (xO t b),.int (jt t b)])->Q (.ref p) H'):ZG K ([.int t,.int b]++[]) H Q E:=⟨t,b,rfl,h1,h2,q⟩
include Z in
theorem yD:Has P w K mg base "_law_figures" 1 ["_law_number", "_law_base"] (kL K):=by
 refine jm Z.kn Z.bs (l2N (by intros;rfl)) fun fq fd F=>?_
 refine F.ok jc (fun vs H Q E=>?_) (fun _ _ _ s H vs Q E hr h=>?_)
 ·walk_at "ln"
 obtain ⟨n,b,rfl,h1,h2,h3,h4,q⟩:=h
 refine ⟨_,zC (zJ (i:=2) jc.nd rfl (Or.inl rfl) (zR jz (zY) (zM qJ (pv 0) (pv 1)) (fun _ _=>rfl)))
  (zC (QM PassesOwn.never (zQ zEn (pv 0) (pv 1) (zU _)) (zC (zJ (i:=0) jc.nd rfl (Or.inl rfl) (zM qP (pv 0) (pv 1)))
  (zE (zJ (i:=2) jc.nd rfl (Or.inl rfl) (zM zk (zR jz (zY) (zM qJ (pv 0) (pv 1)) (fun _ _=>rfl)) (pv 2))))))
  (zE (zK (pv 2)))),?_⟩
 walk_at "st"
 obtain ⟨N,rfl⟩:=eq_ofNat_of_zero_le h1
 obtain ⟨m,rfl⟩:=eq_ofNat_of_zero_le (show 0<=b by omega)
 have hz:=Xb (b:=m) (n:=N) (by omega) (by omega)
 have em : ∀ k:Nat,(k:Int) % (m:Int)=((k % m:Nat):Int):=fun k=>(Int.natCast_emod k m).symm
 have ed : ∀ k:Nat,(k:Int) / (m:Int)=((k / m:Nat):Int):=fun k=>(Int.natCast_ediv k m).symm
 have lm : ∀ k:Nat,k % m < m:=fun k=>Nat.mod_lt k (by omega)
 simp only [toNat_natCast] at q
 have l0:=lm N
 have e0:=em N
 walk_at "rd"
 rw [em N,toNat_natCast]
 refine XO (fun k σ H'=>H'=H /\ ∃ l:List Nat,σ=[some (.int k),some (.int m),some (.str (T l))]/\yB m N=if k < m then l else yB m (k / m)++l) ⟨N,rfl,[fc (N % m)],rfl,?_⟩ ?_
 ·split
  ·rename_i z;rw [ja z,Nat.mod_eq_of_lt z]
  ·rename_i z;exact kr (by omega) (by omega)
 ·rintro k σ H' ⟨rfl,l,rfl,e⟩
  have lk:=lm (k / m)
  have ek:=em (k / m)
  have ek':=ed k
  have ll:l.length<=240:=by
   have z:=congrArg List.length e
   split at z
   ·omega
   ·rw [length_append] at z;omega
  walk_at "rd"
  ·rename_i hc
   rw [ed k,em (k / m)]
   walk_at "rd"
   refine ⟨k / m,Nat.div_lt_self (by omega) (by omega),rfl,fc (k / m % m)::l,rfl,?_⟩
   rw [e,if_neg (by omega),WU (by omega) l]
   have dz:=Nat.div_eq_zero_iff_lt (x:=k / m) (show 0 < m by omega)
   by_cases z:k / m < m
   ·rw [if_pos z,if_pos (dz.mpr z)]
   ·rw [if_neg z,if_neg (fun y=>z (dz.mp y))]
  ·rename_i hc
   rw [if_pos (by omega)] at e
   rw [<- e];exact q
def QW (K:W.Frag):Sp:=fun vs H Q _=>∃ (n:Int) (p:Addr) (fg pl b:Int) (sn:Str) (z:Int) (m pt:Nat) (wy:Str) (wd:Int) (f:Nat) (x:Str) (st:Bool),vs=[.int n,.ref p]/\YY H p fg pl b sn z m pt wy wd f x st/\QF fg pl b sn z m pt wy wd f x/\0<=n/\JO fg pl b n /\ ∀ H',zW H H'->Q (.str (T (bdI n b pl pt z m))) H'
theorem zEM {n:Int} {b:Int} {pt:Nat} {f:Nat} (h1:YY H p fg pl b sn z m pt wy wd f x st) (h2:QF fg pl b sn z m pt wy wd f x) (h3:0<=n) (h4:JO fg pl b n) (q : ∀ H',zW H H'->Q (.str (T (bdI n b pl pt z m))) H'):QW K ([.int n,.ref p]++[]) H Q E:=⟨n,p,fg,pl,b,sn,z,m,pt,wy,wd,f,x,st,rfl,h1,h2,h3,h4,q⟩
def Zy (K:W.Frag):Sp:=fun vs H Q _=>∃ (k:Int) (p:Addr) (fg pl b:Int) (sn:Str) (z:Int) (m pt:Nat) (wy:Str) (wd:Int) (f:Nat) (x:Str) (st:Bool),vs=[.int k,.ref p]/\YY H p fg pl b sn z m pt wy wd f x st/\QF fg pl b sn z m pt wy wd f x/\JO fg pl b k /\ ∀ q H',zW H H'->H' q=some (.tup [.str (T (stL sn (decide (k < 0)))),.str (T (Za pl b sn z m pt k))])->Q (.ref q) H'
theorem zEe {b:Int} {pt:Nat} {f:Nat} (h1:YY H p fg pl b sn z m pt wy wd f x st) (h2:QF fg pl b sn z m pt wy wd f x) (h4:JO fg pl b k) (q : ∀ q H',zW H H'->H' q=some (.tup [.str (T (stL sn (decide (k < 0)))),.str (T (Za pl b sn z m pt k))])->Q (.ref q) H'):Zy K ([.int k,.ref p]++[]) H Q E:=⟨k,p,fg,pl,b,sn,z,m,pt,wy,wd,f,x,st,rfl,h1,h2,h4,q⟩
def Zg (K:W.Frag):Sp:=fun vs H Q _=>∃ c t m:Int,vs=[.int c,.int t,.int m]/\0<=t/\t < 1000/\0 < m /\ ∀ v:Int,0<=v->v < m->Q (.int v) H
theorem zEJ {m:Int} (h1:0<=t) (h1':t < 1000) (h2:0 < m) (q : ∀ v:Int,0<=v->v < m->Q (.int v) H):Zg K ([.int c,.int t,.int m]++[]) H Q E:=⟨c,t,m,rfl,h1,h1',h2,q⟩
local macro_rules | `(tactic| walk_at "rdc")=>`(tactic| ((with_reducible refine' zEJ ?h1 ?h1' ?h2 ?_);(case h1|h1'|h2=>omega);intro v' h0' h1'))
theorem zAS {n b:Int} {t:Nat} (h0:0<=n) (h1:0<=b):(n / b ^ t).toNat=n.toNat / b.toNat ^ t/\(n % b ^ t).toNat=n.toNat % b.toNat ^ t:=by
 obtain ⟨N,rfl⟩:=eq_ofNat_of_zero_le h0
 obtain ⟨B,rfl⟩:=eq_ofNat_of_zero_le h1
 have e:((B:Int) ^ t)=((B ^ t:Nat):Int):=by simp
 rw [e]
 exact ⟨by rw [<- Int.natCast_ediv,toNat_natCast,toNat_natCast,toNat_natCast],by rw [<- Int.natCast_emod,toNat_natCast,toNat_natCast,toNat_natCast]⟩
theorem zHo {z:Nat} {a:List Nat} (h:0 < a.length):gr z m (a.drop (a.length - 1))=[a.getD (a.length - 1) 0]:=by
 rw [VE (k:=0) h,if_neg (by omega),Nat.sub_zero,Nat.sub_zero,List.drop_length,show gr z m []=[] by unfold gr;rw [List.reverse_nil,x4 (by simp)];rfl];rfl
include Z in
theorem Kr:Has P w K mg base "_law_body" 2 ["_law_steps_here", "_law_spec_here"] (QW K):=by
 refine jm Z.kn Z.bt (l2N (by intros;rfl)) fun fq fd F=>?_
 refine F.ok zx (fun vs H Q E=>?_) (fun _ _ _ s H vs Q E hr h=>?_)
 ·walk_at "ln"
 obtain ⟨n,p,fg,pl,b,sn,z,m,pt,wy,wd,f,x,st,rfl,hp,ok,h0,h1,q⟩:=h
 refine ⟨_,zC (Jv (zj KJ (pv 1) (zh (zB)) (zh (zB))) (JI rfl (zv (zg (i:=2) zx.nd rfl (Or.inl rfl)) (zv (zg (i:=3) zx.nd rfl (Or.inl rfl)) (ky)))))
  (zC (Jv (zj KJ (pv 1) (zh (zB)) (zh (zB))) (JI rfl (zv (zg (i:=4) zx.nd rfl (Or.inl rfl)) (zv (zg (i:=5) zx.nd rfl (Or.inl rfl)) (zv (zg (i:=6) zx.nd rfl (Or.inl rfl)) (ky))))))
  (zC (zJ (i:=7) zx.nd rfl (Or.inl rfl) (zF (qg Z) hr rfl (zA (pv 3) (zA (pv 2) (zD)))))
  (zC (zJ (i:=8) zx.nd rfl (Or.inl rfl) (zF (yD Z) hr rfl (zA (zM qP (pv 0) (pv 7)) (zA (pv 3) (zD)))))
  (zC (zJ (i:=9) zx.nd rfl (Or.inl rfl) (zR jz (pv 8) (k7 xE (zB)) (fun _ _=>rfl)))
  (zC (xx PassesOwn.never rfl (Xz rfl Z.an (zA (zB) (zA (zI zd Z.am rfl z4 (zA (pv 8) (zD))) (zD)))) (zg (i:=10) zx.nd rfl (Or.inl rfl)) (zC (zm (PW.pt (yU (zQ Zc (pv 4) (zB) (zU _)) (xH (zQ qd (zM qJ (pv 10) (pv 4)) (zB) (zU _))))) (zE (zJ (i:=9) zx.nd rfl (Or.inl rfl) (zM zk (pv 5) (pv 9)))) (zV))
  (zE (zJ (i:=9) zx.nd rfl (Or.inl rfl) (zM zk (zR jz (pv 8) (zM jJ (zM jJ (zI zd Z.am rfl z4 (zA (pv 8) (zD))) (zB)) (pv 10)) (fun _ _=>rfl)) (pv 9))))))
  (zC (zm (zQ qd (pv 2) (zB) (zU _)) (zE (zK (pv 9))) (zV))
  (zC (zJ (i:=11) zx.nd rfl (Or.inl rfl) (zF (yD Z) hr rfl (zA (zM qJ (pv 0) (pv 7)) (zA (pv 3) (zD)))))
  (zE (zK (zM zk (zM zk (zM zk (pv 9) (pv 6)) (zM ZV (qi (l:=[48]) (by decide +kernel)) (zM jJ (pv 2) (zI zd Z.am rfl z4 (zA (pv 11) (zD)))))) (pv 11))))))))))),?_⟩
 walk_at "st"
 unfold YY at hp
 have o1:=ok.fg1;have o2:=ok.fg2;have o3:=ok.pl1;have o4:=ok.pl2;have o5:=ok.b1;have o6:=ok.b2;have o7:=ok.z1;have o8:=ok.z2
 have pw:=pw6 (b:=b) (t:=pl) o5 o6 o4
 have lim:=zGn o1 o2 o3 o4 o5 o6 h0 h1
 have d0:0<=n / b ^ pl.toNat:=Int.ediv_nonneg h0 (by omega)
 have d1:n / b ^ pl.toNat<=n:=Int.ediv_le_self _ h0
 have m0:=emod_nonneg n (show b ^ pl.toNat≠0 by omega)
 have m1:=emod_lt_of_pos n (show 0 < b ^ pl.toNat by omega)
 obtain ⟨c1,c2⟩:=zAS (t:=pl.toNat) h0 (show 0<=b by omega)
 have bd:=zDm (b:=b.toNat) (p:=pl.toNat) (pt:=pt) (z:=z.toNat) (m:=m) (n:=n.toNat) (by omega)
 rw [<- c1,<- c2] at bd
 have a1:=QL (b:=b.toNat) (n:=(n / b ^ pl.toNat).toNat) (by omega)
 have a2:=Xb (b:=b.toNat) (n:=(n / b ^ pl.toNat).toNat) (by omega) (by omega)
 have r1:=QL (b:=b.toNat) (n:=(n % b ^ pl.toNat).toNat) (by omega)
 have r2:=Xb (b:=b.toNat) (n:=(n % b ^ pl.toNat).toNat) (by omega) (by omega)
 walk_at "rd"
 refine zB1 (n:=13) hp rfl (by decide) fun p1 H1 g1 e1=>?_
 have e1':H1 p1=some (.tup [.int pl,.int b]):=e1
 clear e1
 walk_at "rd"
 refine zB1 (n:=13) (g1.at hp) rfl (by decide) fun p2 H2 g2 e2=>?_
 have e2':H2 p2=some (.tup [.int z,.str (T [m]),.str (T [pt])]):=e2
 clear e2
 walk_at "rd"
 generalize yB b.toNat (n / b ^ pl.toNat).toNat=a at *
 have gl:=Vr (z:=z.toNat) (m:=m) (a:=a)
 refine KC (by omega) (fun i σ H'=>H'=H2 /\ ∃ r:Option V,σ=[some (.int n),some (.ref p),some (.int pl),some (.int b),some (.int z),some (.str (T [m])),some (.str (T [pt])),some (.int (b ^ pl.toNat)),some (.str (T a)),some (.str (T (gr z.toNat m (a.drop (a.length - (i+1)))))),r,none]) ⟨rfl,none,by rw [zHo a1];rfl⟩ ?_ ?_
 ·rintro i σ H' hi ⟨rfl,r,rfl⟩
  have hl:=Vr (z:=z.toNat) (m:=m) (a:=a.drop (a.length - (i+1)))
  rw [length_drop] at hl
  have tn:=VE (z:=z.toNat) (m:=m) (a:=a) (k:=i+1) (by omega)
  obtain ⟨Z,rfl⟩:=eq_ofNat_of_zero_le o7
  have em:(1+(i:Int)) % (Z:Int)=(((i+1) % Z:Nat):Int):=by rw [Int.natCast_emod,Int.natCast_add,Int.add_comm];rfl
  rw [toNat_natCast] at *
  have ei:((a.length:Int) - 1 - (1+(i:Int))).toNat=a.length - 1 - (i+1):=by omega
  walk_at "rd"
  ·refine ⟨rfl,some (.int (1+i)),?_⟩
   rw [tn,if_pos ⟨by omega,by omega,by omega⟩,ei];rfl
  ·refine ⟨rfl,some (.int (1+i)),?_⟩
   rw [tn,if_neg (by omega),ei];rfl
  ·refine ⟨rfl,some (.int (1+i)),?_⟩
   rw [tn,if_neg (by omega),ei];rfl
 ·rintro σ H' ⟨rfl,r,rfl⟩
  rw [show a.length - (((a.length:Int) - 1).toNat+1)=0 by omega,List.drop_zero]
  have q':=q _ (g1.trans g2)
  unfold bdI at q'
  rw [bd] at q'
  generalize gr z.toNat m a=ga at *
  walk_at "rd"
  ·rw [if_pos (by omega)] at q';exact q'
  ·rw [if_neg (by omega)] at q'
   unfold pz at q'
   generalize yB b.toNat (n % b ^ pl.toNat).toNat=rr at *
   rw [show pl.toNat - rr.length=(pl - rr.length).toNat by omega,<- append_assoc] at q'
   exact q'
theorem Wc {a:V} (h:stT sn bl=[]):some (HO.tup [a,.str (T B)])=some (.tup [a,.str (T (B++stT sn bl))]):=by rw [h,append_nil]
include Z in
theorem VM:Has P w K mg base "_law_parts" 3 ["_law_steps_here", "_law_spec_here"] (Zy K):=by
 refine jm Z.kn Z.bu (l2N (by intros;rfl)) fun fq fd F=>?_
 refine F.ok Zu (fun vs H Q E=>?_) (fun _ _ _ s H vs Q E hr h=>?_)
 ·walk_at "ln"
 obtain ⟨k,p,fg,pl,b,sn,z,m,pt,wy,wd,f,x,st,rfl,hp,ok,h1,q⟩:=h
 refine ⟨_,zC (zJ (i:=2) Zu.nd rfl (Or.inl rfl) (zF (Kr Z) hr rfl (zA (zI x5 Z.aw rfl Jw (zA (pv 0) (zD))) (zA (pv 1) (zD)))))
  (zC (zm (PW.pt (yU (zQ qd (zR zT (pv 1) (zB) (fun _ _=>rfl)) (zY) (zU _)) (xH (zQ ZZ (pv 0) (zB) (zU _))))) (zE (zK (qh (zA (qi (l:=[40]) (by decide +kernel)) (zA (zM zk (pv 2) (qi (l:=[41]) (by decide +kernel))) (zD)))))) (zV))
  (zC (zm (PW.pt (yU (zQ qd (zR zT (pv 1) (zB) (fun _ _=>rfl)) (zY) (zU _)) (xH (zQ ZZ (pv 0) (zB) (zU _))))) (zE (zK (qh (zA (qi (l:=[]) (by decide +kernel)) (zA (zM zk (pv 2) (qi (l:=[45]) (by decide +kernel))) (zD)))))) (zV))
  (zC (zm (zQ ZZ (pv 0) (zB) (zU _)) (zE (zK (qh (zA (qi (l:=[45]) (by decide +kernel)) (zA (pv 2) (zD)))))) (zV))
  (zC (zm (zQ qd (zR zT (pv 1) (zB) (fun _ _=>rfl)) (zY) (zU _)) (zE (zK (qh (zA (qi (l:=[43]) (by decide +kernel)) (zA (pv 2) (zD)))))) (zV))
  (zC (zm (zQ qd (zR zT (pv 1) (zB) (fun _ _=>rfl)) (zY) (zU _)) (zE (zK (qh (zA (qi (l:=[32]) (by decide +kernel)) (zA (pv 2) (zD)))))) (zV))
  (zE (zK (qh (zA (qi (l:=[]) (by decide +kernel)) (zA (pv 2) (zD))))))))))),?_⟩
 walk_at "st"
 have hp0:=hp
 unfold YY at hp
 walk_at "rd"
 rename_i k' hk'
 obtain rfl:k'=(k.natAbs:Int):=by omega
 obtain ⟨nb,n2,n3,n4⟩:=XY ok h1
 have n5:(bdI k.natAbs b pl pt z m).length<=400:=by
  unfold yZ sg at n4
  rw [length_append,length_append] at n4;omega
 refine zEM hp0 ok (by omega) (by unfold JO;rw [Int.natAbs_natCast];exact h1) fun H1 g1=>?_
 unfold Za at q
 have hp1:=g1.at hp
 generalize bdI k.natAbs b pl pt z m=B at *
 clear hp
 rcases ok.sn with rfl | rfl | rfl | rfl | rfl
 all_goals walk_at "rd"
 all_goals rename_i hc p2 H2 g2 e2
 all_goals first | rw [decide_eq_true hc] at q | rw [decide_eq_false hc] at q
 all_goals refine q _ _ (g1.trans g2) (e2.trans ?_)
 all_goals first | rfl | exact Wc rfl
include Z in
theorem VG:Has P w K mg base "_law_great" 1 ["_law_cell", "_law_at", "_law_limit"] (Zg K):=by
 refine jm Z.kn Z.bv (l3N (by intros;rfl)) fun fq fd F=>?_
 refine F.ok Zf (fun vs H Q E=>?_) (fun _ _ _ s H vs Q E hr h=>?_)
 ·walk_at "ln"
 obtain ⟨c,t,m,rfl,ht,ht',hm,q⟩:=h
 refine ⟨_,zC (zm (PW.pt (yU (zQ Zc (pv 0) (VN (k:=1000000000000000000) (by unfold zGP;decide) (by decide +kernel)) (zU _)) (xH (zQ Zc (zM XM (pv 0) (zM zp (zB) (zM qH (zB) (pv 1)))) (zB) (zU _))))) (zE (zK (zM qJ (zM XM (pv 0) (zM zp (zB) (zM qH (zB) (pv 1)))) (pv 2)))) (zV))
  (zC (zJ (i:=3) Zf.nd rfl (Or.inl rfl) (zM zp (zM zp (zM qJ (pv 0) (VN (k:=10000000000000000000000000000000000000000) (by unfold zGP;decide) (by decide +kernel))) (zM qH (zB) (pv 1))) (zB)))
  (zE (zK (zM qJ (zM qH (pv 3) (zB)) (pv 2))))),?_⟩
 walk_at "st"
 walk_at "rd"
 all_goals exact q _ (emod_nonneg _ (by omega)) (emod_lt_of_pos _ hm)
local macro_rules | `(tactic| walk_at "rd1")=>`(tactic| first | ((with_reducible refine' zFx ?h ?hi (fun hi'=>?_) (fun hi'=>?_));(case h=>walk_at "hp");(case hi=>omega)) | fail "none")
def wV (K:W.Frag):Sp:=fun vs H Q _=>∃ (ld rs:List Nat) (p:Addr) (wd:Int) (f:Nat) (x:Str) (st:Bool) (d:Fd),vs=[.str (T ld),.str (T rs),.ref p]/\xk H p wd f x st d/\ld.length<=2/\rs.length<=200 /\ ∀ H',zW H H'->Q (.str (T (Zb ld (ld++rs) wd f x))) H'
theorem Xr {f:Nat} (h1:xk H p wd f x st d) (h3:ld.length<=2) (h4:rs.length<=200) (q : ∀ H',zW H H'->Q (.str (T (Zb ld (ld++rs) wd f x))) H'):wV K ([.str (T ld),.str (T rs),.ref p]++[]) H Q E:=⟨ld,rs,p,wd,f,x,st,d,rfl,h1,h3,h4,q⟩
theorem xk.bd {f:Nat} (h:xk H p wd f x st d):XS x/\0<=wd/\wd<=40/\f < 127:=by
 cases h with
 | num e ok=>exact ⟨ok.x,ok.wd1,ok.wd2,ok.f⟩
 | word e ok=>exact ⟨.inl ok.x,ok.wd1,ok.wd2,ok.f⟩
 | cho e eL ok=>exact ⟨.inl ok.x,ok.wd1,ok.wd2,ok.f⟩
theorem zHC {f:Nat} (S:xk H p wd f x st d) (q:Q (.int wd) H):zCD K (.ref p) (.int (-4)) H Q:=by
 cases S with
 | num e=>exact kG e rfl q
 | word e=>exact kG e rfl q
 | cho e=>exact kG e rfl q
theorem zI0 {f:Nat} (S:xk H p wd f x st d) (q:Q (.str (T [f])) H):zCD K (.ref p) (.int (-3)) H Q:=by
 cases S with
 | num e=>exact kG e rfl q
 | word e=>exact kG e rfl q
 | cho e=>exact kG e rfl q
theorem zIP {f:Nat} (S:xk H p wd f x st d) (q:Q (.str x) H):zCD K (.ref p) (.int (-2)) H Q:=by
 cases S with
 | num e=>exact kG e rfl q
 | word e=>exact kG e rfl q
 | cho e=>exact kG e rfl q
theorem zIZ {f:Nat} (S:xk H p wd f x st d) (q:Q (.bl st) H):zCD K (.ref p) (.int (-1)) H Q:=by
 cases S with
 | num e=>exact kG e rfl q
 | word e=>exact kG e rfl q
 | cho e=>exact kG e rfl q
include Z in
theorem Xy:Has P w K mg base "_law_filled" 1 ["_law_lead", "_law_rest", "_law_spec_here"] (wV K):=by
 refine jm Z.kn Z.bw (l3N (by intros;rfl)) fun fq fd F=>?_
 refine F.ok j8 (fun vs H Q E=>?_) (fun _ _ _ s H vs Q E hr h=>?_)
 ·walk_at "ln"
 obtain ⟨ld,rs,p,wd,f,x,st,d,rfl,D0,h1,h2,q⟩:=h
 refine ⟨_,zC (zEa (i:=3) (j:=4) (k:=5) rfl j8.nd rfl rfl rfl rfl rfl rfl (zA (zR zT (pv 2) (k7 xE (zB)) (fun _ _=>rfl)) (zA (zR zT (pv 2) (k7 xE (zB)) (fun _ _=>rfl)) (zA (zR zT (pv 2) (k7 xE (zB)) (fun _ _=>rfl)) (zD)))) rfl)
  (zC (zJ (i:=6) j8.nd rfl (Or.inl rfl) (zI (x9 rfl) Z.aq rfl YX (zA (zB) (zA (zM jJ (zM jJ (pv 3) (zI zd Z.am rfl z4 (zA (pv 0) (zD)))) (zI zd Z.am rfl z4 (zA (pv 1) (zD)))) (zD)))))
  (zC (zm (zQ qd (pv 5) (zY) (zU _)) (zE (zK (zM zk (zM zk (pv 0) (zM ZV (pv 4) (pv 6))) (pv 1)))) (zV))
  (zC (zJ (i:=7) j8.nd rfl (Or.inl rfl) (zR zi (zt (zA (zB) (zA (pv 6) (zA (zM qP (pv 6) (zB)) (zD))))) (kv PySem.F.plainAttrs_list PySem.F.slot_list_index PySem.F.type_list_index Qb (zt (zA (zY) (zA (zY) (zA (zY) (zD))))) (zA (pv 5) (zD))) (fun _ _=>rfl)))
  (zE (zK (zM zk (zM zk (zM zk (zM ZV (pv 4) (pv 7)) (pv 0)) (pv 1)) (zM ZV (pv 4) (zM jJ (pv 6) (pv 7))))))))),?_⟩
 walk_at "st"
 obtain ⟨sx0,w0,w1,_⟩:=D0.bd
 have lt:((ld++rs).length:Int)=ld.length+rs.length:=by rw [length_append];omega
 have bl:=Z8 (ld++rs).length wd (by omega) w1
 have bi:=Z8 rs.length (wd - ld.length) (by omega) (by omega)
 unfold Zb at q
 walk_at "rd"
 refine zHC D0 ?_
 walk_at "rd"
 refine zI0 D0 ?_
 walk_at "rd"
 refine zIP D0 ?_
 walk_at "rd"
 ·rename_i k' hk' hc
  rw [if_pos hc,drop_left] at q
  have e1:k'=lk rs.length (wd - ld.length):=by omega
  have q':=q _ (zW.refl _)
  unfold pad at q'
  rw [show pB "right" rs.length (wd - ld.length)=0 by unfold pB;rw [pAr];omega,pAr] at q'
  subst e1
  rw [show Int.toNat 0=0 from rfl,List.replicate_zero,append_nil,<- append_assoc] at q'
  exact q'
 ·rename_i k0 hk0 hc q2 H2 g2 n2 e2 q3 H3 g3 n3 e3
  have sx:kN x:=sx0.elim id fun z=>absurd z hc
  have pb:=xl (n:=(ld++rs).length) sx (by omega) w1
  have hk:k0=lk (ld++rs).length wd:=by omega
  clear hk0
  subst hk
  have fin : ∃ j:Nat,(["left", "right", "middle"]:List Str)[j]? = some x/\(∀ m,m < j->(["left", "right", "middle"]:List Str)[m]? ≠ some x)/\j < 1000/\atI [V.int 0,V.int (lk (ld++rs).length wd),V.int (lk (ld++rs).length wd / 2)] j=some (.int (pA x (ld++rs).length wd)):=by
   rcases sx with rfl | rfl | rfl
   ·exact ⟨0,rfl,fun m hm=>absurd hm (Nat.not_lt_zero m),by decide,by rw [pAl];rfl⟩
   ·exact ⟨1,rfl,fun m hm=>by rw [show m=0 by omega];decide +kernel,by decide,by rw [pAr];rfl⟩
   ·exact ⟨2,rfl,fun m hm=>by rcases (show m=0\/m=1 by omega) with rfl | rfl <;> decide +kernel,by decide,by rw [pAm];rfl⟩
  obtain ⟨j,j1,j2,j3,j4⟩:=fin
  obtain ⟨b1,b2,b3,_⟩:=pb
  have e4:pB x (ld++rs).length wd=lk (ld++rs).length wd - pA x (ld++rs).length wd:=rfl
  refine Xg (zs:=["left", "right", "middle"]) j e3 j1 j2 j3 ?_
  refine Ko (SqL.of (g3.at e2)) j4 ?_
  have q':=q _ (g2.trans g3)
  rw [if_neg hc] at q'
  unfold pad at q'
  rw [e4,<- append_assoc] at q'
  clear q j4 e2 bi
  generalize pA x ((ld++rs).length:Int) wd=A at *
  generalize lk ((ld++rs).length:Int) wd=L at *
  walk_at "rd"
  exact q'
def Z0 (K:W.Frag):Sp:=fun vs H Q _=>∃ c m:Int,vs=[.int c,.int m]/\1 < m/\m < 10000000000000000000000 /\ ∀ (v:Int) (H':Hp),zW H H' -> -m < v->v < m->Q (.int v) H'
theorem zE3 {m:Int} (h1:1 < m) (h2:m < 10000000000000000000000) (q : ∀ (v:Int) (H':Hp),zW H H' -> -m < v->v < m->Q (.int v) H'):Z0 K ([.int c,.int m]++[]) H Q E:=⟨c,m,rfl,h1,h2,q⟩
include Z in
theorem Yz:Has P w K mg base "_law_steps" 2 ["_law_cell", "_law_limit"] (Z0 K):=by
 refine jm Z.kn Z.bx (l2N (by intros;rfl)) fun fq fd F=>?_
 refine F.ok jG (fun vs H Q E=>?_) (fun _ _ _ s H vs Q E hr h=>?_)
 ·walk_at "ln"
 obtain ⟨c,m,rfl,h1,h2,q⟩:=h
 refine ⟨_,zC (zJ (i:=2) jG.nd rfl (Or.inl rfl) (zF (zL Z) hr rfl (zA (pv 0) (zA (zB) (zA (zB) (zD))))))
  (zC (zJ (i:=3) jG.nd rfl (Or.inl rfl) (zF (VG Z) hr rfl (zA (pv 0) (zA (zB) (zA (pv 1) (zD))))))
  (zC (zm (zQ qd (pv 2) (zB) (zU _)) (zE (zJ (i:=3) jG.nd rfl (Or.inl rfl) (zR zi (zt (zA (zB) (zA (zB) (zA (zM jJ (pv 1) (zB)) (zA (zM qP (pv 1) (zB)) (zD)))))) (zF (zL Z) hr rfl (zA (pv 0) (zA (zB) (zA (zB) (zD))))) (fun _ _=>rfl)))) (zV))
  (zC (zm (zQ qd (pv 2) (zB) (zU _)) (zE (zJ (i:=3) jG.nd rfl (Or.inl rfl) (zM qJ (zF (zL Z) hr rfl (zA (pv 0) (zA (zB) (zA (zB) (zD))))) (pv 1)))) (zV))
  (zC (zm (zQ qd (pv 2) (zB) (zU _)) (zE (zJ (i:=3) jG.nd rfl (Or.inl rfl) (zM qJ (zM qJ (pv 3) (zB)) (pv 1)))) (zV))
  (zE (zK (zM qH (pv 3) (zR zi (zt (zA (zB) (zA (k7 xE (zB)) (zD)))) (zF (zL Z) hr rfl (zA (pv 0) (zA (zB) (zA (zB) (zD))))) (fun _ _=>rfl))))))))),?_⟩
 walk_at "st"
 have em : ∀ a:Int,0<=a % m/\a % m < m:=fun a=>⟨emod_nonneg a (by omega),emod_lt_of_pos a (by omega)⟩
 walk_at "rd"
 ·rename_i v2 a0 a1 v1 b0 b1 hc p1 H1 g1 n1 e1 v0 c0 c1
  refine yz (fun k=>0<=k/\k < m) e1 (by omega) (by show _ < (4:Int);omega) (by simp only [mem_cons,not_mem_nil,or_false];rintro v (rfl | rfl | rfl | rfl) <;> exact ⟨_,rfl,by omega,by omega⟩) fun k hk=>?_
  clear e1
  walk_at "rd"
  all_goals exact q _ _ (by walk_at "sm") (by omega) (by omega)
 ·rename_i v3 a0 a1 v2 b0 b1 hc1 hc v1 c0 c1 p1 H1 g1 n1 e1 v0 d0 d1 hi
  have:=em v1
  exact q _ _ g1 (by omega) (by omega)
 ·rename_i v3 a0 a1 v2 b0 b1 hc1 hc v1 c0 c1 p1 H1 g1 n1 e1 v0 d0 d1 hi
  have:=em v1
  exact q _ _ g1 (by omega) (by omega)
 ·rename_i v2 a0 a1 v1 b0 b1 hc2 hc1 hc p1 H1 g1 n1 e1 v0 d0 d1 hi
  have:=em (v1 % 100000)
  exact q _ _ g1 (by omega) (by omega)
 ·rename_i v2 a0 a1 v1 b0 b1 hc2 hc1 hc p1 H1 g1 n1 e1 v0 d0 d1 hi
  have:=em (v1 % 100000)
  exact q _ _ g1 (by omega) (by omega)
 ·exact q _ _ (by assumption) (by omega) (by omega)
 ·exact q _ _ (by assumption) (by omega) (by omega)
def Qg (K:W.Frag):Sp:=fun vs H Q _=>∃ (c:Int) (sg:List Nat) (z:Int),vs=[.int c,.str (T sg),.int z]/\0 < sg.length/\sg.length<=200/\0<=z/\z<=100 /\ ∀ (l:List Nat) (H':Hp),zW H H'->(l.length:Int)=z->(∀ c ∈ l,c ∈ sg)->Q (.str (T l)) H'
theorem zHh {sg:List Nat} (h1:0 < sg.length) (h2:sg.length<=200) (h3:0<=z) (h4:z<=100) (q : ∀ (l:List Nat) (H':Hp),zW H H'->(l.length:Int)=z->(∀ c ∈ l,c ∈ sg)->Q (.str (T l)) H'):Qg K ([.int c,.str (T sg),.int z]++[]) H Q E:=⟨c,sg,z,rfl,h1,h2,h3,h4,q⟩
include Z in
theorem WJ:Has P w K mg base "_law_word" 2 ["_law_cell", "_law_signs_here", "_law_size"] (Qg K):=by
 refine jm Z.kn Z.bz (l3N (by intros;rfl)) fun fq fd F=>?_
 refine F.ok VV (fun vs H Q E=>?_) (fun _ _ _ s H vs Q E hr h=>?_)
 ·walk_at "ln"
 obtain ⟨c,sg,z,rfl,h1,h2,h3,h4,q⟩:=h
 refine ⟨_,zE (zK (kv PySem.F.plainAttrs_str PySem.F.slot_str_join PySem.F.type_str_join QK (qi (l:=[]) (by decide +kernel)) (zA (ju (cl:=[("_law_signs_here", s.heap.objs.size+1+1),("_law_cell", s.heap.objs.size+1+0)]) (fr:=["_law_cell", "_law_signs_here"]) (is:=[0,1]) rfl rfl ⟨rfl,⟨rfl,trivial⟩⟩ rfl ⟨⟨rfl,rfl,Or.inl rfl⟩,⟨⟨rfl,rfl,Or.inl rfl⟩,trivial⟩⟩ (by decide) (by decide +kernel) rfl (by decide +kernel) rfl (yA rfl Z.an (zA (pv 2) (zD))) (fun _ _ _ _=>xT) (fun _ _ _ _=>zR jz (pv 2) (zF (zL Z :) hr rfl (zA (pv 1) (zA (zM zp (zB) (pv 0)) (zA (zI zd Z.am rfl z4 (zA (pv 2) (zD))) (zD))))) (fun _ _=>rfl))) (zD)))),?_⟩
 walk_at "st"
 walk_at "rd"
 refine X9 (by omega) (by omega) (Nat.le_of_lt (qr (by omega))) (fun i ys H'=>H'=H /\ ∃ cs:List Nat,cs.length=i/\(∀ c ∈ cs,c ∈ sg)/\ys=tsV (cs.map fun c=>[c])) ⟨rfl,[],rfl,(by intro c h;cases h),rfl⟩ (fun i ys H' _ zz=>by obtain ⟨_,cs,h,_,e⟩:=zz;rw [e,zr,length_map];omega) ?_ ?_
 ·rintro i ys H' hi ⟨rfl,cs,l1,l2,rfl⟩
  walk_at "rd"
  rename_i v' h0' h1'
  refine nxC hi ⟨rfl,cs++[sg.getD v'.toNat 0],by rw [length_append,l1];rfl,fun c hc=>?_,?_⟩
  ·rcases List.mem_append.mp hc with hc | hc
   ·exact l2 c hc
   ·rw [List.mem_singleton.mp hc,getD_eq_getElem?_getD,getElem?_eq_getElem (by omega)];exact getElem_mem _
  ·rw [map_append,<- xL];rfl
 ·rintro ys H' ⟨rfl,cs,l1,l2,rfl⟩ p H2 g2 n2 e2
  walk_at "rd"
  refine Xe e2 (by rw [fl1,length_map];show cs.length+cs.length*0<=_;omega) ?_
  rw [show Lt (T [])=[] from rfl,zA7,fl1]
  exact q _ _ g2 (by omega) l2
def Q3 (K:W.Frag):Sp:=fun vs H Q _=>∃ (a:Addr) (ns:List Int),vs=[.ref a,.int 0]/\SqL K H a (ns.map V.int)/\ns.length<=63 /\ ∀ p H' wd f x st d,zW H H'->xk H' p wd f x st d->Q (.ref p) H'
theorem zGe {a:Addr} {ns:List Int} (h1:SqL K H a (ns.map V.int)) (h2:ns.length<=63) (q : ∀ p H' wd f x st d,zW H H'->xk H' p wd f x st d->Q (.ref p) H'):Q3 K ([.ref a,.int 0]++[]) H Q E:=⟨a,ns,rfl,h1,h2,q⟩
include Z in
theorem WI:Has P w K mg base "_law_spec" 4 ["_law_script", "_law_small"] (Q3 K):=by
 refine jm Z.kn Z.bA (l2N (by intros;rfl)) fun fq fd F=>?_
 refine F.ok ki (fun vs H Q E=>?_) (fun _ _ _ s H vs Q E hr h=>?_)
 ·walk_at "ln"
 obtain ⟨a,ns,rfl,hS,h63,q⟩:=h
 refine ⟨_,zC (zJ (i:=2) ki.nd rfl (Or.inl rfl) (zF (zL Z) hr rfl (zA (zF (j6 Z) hr rfl (zA (pv 0) (zA (zB) (zD)))) (zA (zB) (zA (zB) (zD))))))
  (zC (zCt (i:=3) (j:=4) rfl ki.nd rfl rfl (by decide) rfl rfl (zA (zF (j6 Z) hr rfl (zA (pv 0) (zA (zB) (zD)))) (zA (zF (j6 Z) hr rfl (zA (pv 0) (zA (zB) (zD)))) (zD))) rfl)
  (zC (zm (zQ ZZ (pv 2) (zB) (zU _)) (zE (zK (zF (ZO Z) hr rfl (zA (pv 3) (zA (pv 4) (zA (pv 1) (zD))))))) (zV))
  (zC (zm (zQ qd (pv 2) (zB) (zU _)) (zE (zK (zF (Qw Z) hr rfl (zA (pv 3) (zA (pv 4) (zA (pv 1) (zD))))))) (zV))
  (zE (zK (zF (Zd Z) hr rfl (zA (pv 3) (zA (pv 4) (zA (pv 1) (zD)))))))))),?_⟩
 walk_at "st"
 walk_at "rd"
 ·exact Xk (.inl rfl) q
 ·exact VB (.inl rfl) q
 ·exact Xh (.inl rfl) q
def JD (K:W.Frag) (cN cW cC:Addr):Sp:=fun vs H Q _=>∃ (p:Addr) (wd:Int) (f:Nat) (x:Str) (st:Bool) (d:Fd),vs=[.ref p]/\xk H p wd f x st d /\ ∀ o H',zW H H'->Je K H' o cN cW cC wd f x st d->Q (.ref o) H'
theorem zG7 {f:Nat} (h:xk H p wd f x st d) (q : ∀ o H',zW H H'->Je K H' o cN cW cC wd f x st d->Q (.ref o) H'):JD K cN cW cC ([.ref p]++[]) H Q E:=⟨p,wd,f,x,st,d,rfl,h,q⟩
include Z in
theorem K1:Has P w K mg base "_law_form" 5 ["_law_spec_here"] (JD K zH zP zN):=by
 have clW:Cls K zP:=Z.b1
 have naW:qp K zP (bns++wns):=Z.b2
 have clC:Cls K zN:=Z.b4
 have naC:qp K zN (bns++cns):=Z.b5
 refine jm Z.kn Z.bB (l1N (by intros;rfl)) fun fq fd F=>?_
 refine F.ok VY (fun vs H Q E=>?_) (fun _ _ _ s H vs Q E hr h=>?_)
 ·walk_at "ln"
 obtain ⟨p,wd,f,x,st,d,rfl,D0,q⟩:=h
 refine ⟨_,zC (zm (zQ qd (zR zT (pv 0) (zB) (fun _ _=>rfl)) (zY) (zU _)) (zE (zK (zF (ZW Z) hr rfl (zA (pv 0) (zD))))) (zV))
  (zC (zm (zQ qd (zR zT (pv 0) (zB) (fun _ _=>rfl)) (zY) (zU _)) (zE (zK (XJ (zIX (kq Z) Z.b3) qj hr rfl Z.ak (zA (zR zT (pv 0) (zB) (fun _ _=>rfl)) (zA (zR zT (pv 0) (zB) (fun _ _=>rfl)) (zA (zR zT (pv 0) (zB) (fun _ _=>rfl)) (zA (zR zT (pv 0) (zB) (fun _ _=>rfl)) (zA (zR zT (pv 0) (zB) (fun _ _=>rfl)) (zA (zR zT (pv 0) (zB) (fun _ _=>rfl)) (zA (zR zT (pv 0) (zB) (fun _ _=>rfl)) (zD) qB) qB) qB) qB) qB) qB) qB)))) (zV))
  (zE (zK (XJ (zIX (yk Z) Z.b6) qj hr rfl Z.al (zA (y1 xM rfl Z.ax ZP (zA (zR zT (pv 0) (zB) (fun _ _=>rfl)) (zD))) (zA (zR zT (pv 0) (zB) (fun _ _=>rfl)) (zA (zR zT (pv 0) (zB) (fun _ _=>rfl)) (zA (zR zT (pv 0) (zB) (fun _ _=>rfl)) (zA (zR zT (pv 0) (zB) (fun _ _=>rfl)) (zD)))))))))),?_⟩
 walk_at "st"
 cases D0 with
 | num e ok =>
  walk_at "rd"
  exact ⟨p,_,_,_,_,_,_,_,_,_,_,_,_,rfl,e,fun o H1 g1 F1=>q _ _ g1 (.num F1 ok)⟩
 | @word sg lo hi e ok =>
  walk_at "rd"
  intro o dx no nd ne
  refine ⟨o,dx,sg,lo,hi,wd,f,x,st,rfl,zS,?_⟩
  have F1:zc K (upd (upd (upd H dx (.own o)) o (.ins zP dx [])) o (.ins zP dx (bfs wd f x st (k8 sg lo hi)))) o zP wd f x st (k8 sg lo hi):=⟨⟨dx,zS⟩,clW,naW⟩
  have g3:zW H (upd (upd (upd H dx (.own o)) o (.ins zP dx [])) o (.ins zP dx (bfs wd f x st (k8 sg lo hi)))):=qR (qR (qR (zW.refl _) nd) no) no
  generalize upd (upd (upd H dx (.own o)) o (.ins zP dx [])) o (.ins zP dx (bfs wd f x st (k8 sg lo hi)))=H3 at F1 g3 ⊢
  exact ⟨rfl,q _ _ g3 (.word F1 ok)⟩
 | @cho L ns e eL ok =>
  walk_at "rd"
  rename_i l2 H2 g2 n2 e2
  intro o dx no nd ne
  have g3:zW H2 (upd (upd H2 dx (.own o)) o (.ins zN dx [])):=qR (qR (zW.refl _) nd) no
  refine ⟨o,dx,l2,ns,wd,f,x,st,rfl,zS,g3.at e2,fun L2 H3 sb n3 e3 eo=>⟨rfl,q _ _ (fun b u eb=>?_) (.cho ⟨⟨dx,eo⟩,clC,naC⟩ e3 ok)⟩⟩
  have eb2:=g2.at eb
  exact sb b u (fun z=>by rw [z,no] at eb2;cases eb2) (g3.at eb2)
theorem xk.okS {f:Nat} (h:xk H p wd f x st d):okS wd f x d:=by
 cases h <;> assumption
def Ze (K:W.Frag):Sp:=fun vs H Q _=>∃ (c:Int) (p:Addr) (wd:Int) (f:Nat) (x:Str) (st:Bool) (d:Fd),vs=[.int c,.ref p]/\xk H p wd f x st d /\ ∀ v H' ld rs,zW H H'->VlA H' v d ld rs->Q v H'
theorem zEf {f:Nat} (h1:xk H p wd f x st d) (q : ∀ v H' ld rs,zW H H'->VlA H' v d ld rs->Q v H'):Ze K ([.int c,.ref p]++[]) H Q E:=⟨c,p,wd,f,x,st,d,rfl,h1,q⟩
include Z in
theorem VA:Has P w K mg base "_law_value" 3 ["_law_cell", "_law_spec_here"] (Ze K):=by
 refine jm Z.kn Z.bC (l2N (by intros;rfl)) fun fq fd F=>?_
 refine F.ok Zx (fun vs H Q E=>?_) (fun _ _ _ s H vs Q E hr h=>?_)
 ·walk_at "ln"
 obtain ⟨c,p,wd,f,x,st,d,rfl,D0,q⟩:=h
 refine ⟨_,zC (zm (zQ qd (zR zT (pv 1) (zB) (fun _ _=>rfl)) (zY) (zU _)) (zC (zJ (i:=2) Zx.nd rfl (Or.inl rfl) (zF (qg Z) hr rfl (zA (zR zT (pv 1) (zB) (fun _ _=>rfl)) (zA (zR zT (pv 1) (zB) (fun _ _=>rfl)) (zD)))))
  (zE (zK (zF (Z1 Z) hr rfl (zA (zF (Yz Z) hr rfl (zA (pv 0) (zA (zM qH (zF (qg Z) hr rfl (zA (zR zT (pv 1) (zB) (fun _ _=>rfl)) (zA (zR zT (pv 1) (zB) (fun _ _=>rfl)) (zD)))) (pv 2)) (zD)))) (zA (pv 2) (zD))))))) (zV))
  (zC (zm (zQ qd (zR zT (pv 1) (zB) (fun _ _=>rfl)) (zY) (zU _)) (zE (zK (zF (WJ Z) hr rfl (zA (pv 0) (zA (zR zT (pv 1) (zB) (fun _ _=>rfl)) (zA (zM zp (zR zT (pv 1) (zB) (fun _ _=>rfl)) (zF (zL Z) hr rfl (zA (pv 0) (zA (zB) (zA (zM zp (zM jJ (zR zT (pv 1) (zB) (fun _ _=>rfl)) (zR zT (pv 1) (zB) (fun _ _=>rfl))) (zB)) (zD)))))) (zD))))))) (zV))
  (zE (zK (zR zi (zR zT (pv 1) (zB) (fun _ _=>rfl)) (zF (zL Z) hr rfl (zA (pv 0) (zA (zB) (zA (zI jg Z.am rfl z4 (zA (zR zT (pv 1) (zB) (fun _ _=>rfl)) (zD))) (zD))))) (fun _ _=>rfl))))),?_⟩
 walk_at "st"
 cases D0 with
 | @num fg pl b sn z m pt wy e ok =>
  have o1:=ok.fg1;have o2:=ok.fg2;have o3:=ok.pl1;have o4:=ok.pl2;have o5:=ok.b1;have o6:=ok.b2
  have pw:=pw6 (b:=b) (t:=pl) o5 o6 o4
  have pf:=zHu (b:=b) (n:=fg.toNat) o5 o6 (by omega)
  have pe:b ^ fg.toNat*b ^ pl.toNat=b ^ (fg+pl).toNat:=by rw [<- Int.pow_add,Int.toNat_add (by omega) o3]
  have pL:=Yt o5 o6 (fg+pl).toNat
  have pM:=XI (n:=(fg+pl).toNat) (m:=18) (by omega)
  have p18:(16:Int) ^ 18=4722366482869645213696:=by decide
  have pn:((b.toNat ^ (fg+pl).toNat:Nat):Int)=b ^ (fg+pl).toNat:=by rw [natCast_pow,Int.toNat_of_nonneg (by omega)]
  have p2:2<=b ^ (fg+pl).toNat:=by
   have e1:b ^ (fg+pl).toNat=b ^ ((fg+pl).toNat - 1)*b:=by rw [<- pow_succ];congr 1;omega
   have e2:=(Yt o5 o6 ((fg+pl).toNat - 1)).1
   rw [e1]
   have:=mul_le_mul e2 o5 (by omega) (by omega)
   omega
  walk_at "rd"
  rw [pe]
  refine zE3 (by omega) (by omega) fun v H1 g1 v1 v2=>?_
  walk_at "rd"
  refine KL (by omega) (by omega) fun p2 H2 g2 e2=>?_
  exact q _ _ _ _ (g1.trans g2) (.num rfl e2 (by unfold JO;omega))
 | @word sg lo hi e ok =>
  have o1:=ok.s1;have o2:=ok.s2;have o3:=ok.lo1;have o4:=ok.lo2;have o5:=ok.hi2
  walk_at "rd"
  rename_i v' h0' h1'
  refine zHh (by omega) o2 (by omega) (by omega) fun l H1 g1 l1 l2=>?_
  exact q _ _ _ _ g1 (.word rfl ⟨⟨by omega,by omega⟩,l2⟩)
 | @cho L ns e eL ok =>
  have o1:=ok.n1;have o2:=ok.n2
  walk_at "rd"
  rename_i v' h0' h1'
  refine q _ _ _ _ (zW.refl _) (.cho rfl ?_)
  rw [getD_eq_getElem?_getD,getElem?_eq_getElem (by omega)]
  exact getElem_mem _
def y4 (K:W.Frag):Sp:=fun vs H Q _=>∃ (v:V) (p:Addr) (wd:Int) (f:Nat) (x:Str) (st:Bool) (d:Fd) (ld rs:List Nat),vs=[v,.ref p]/\xk H p wd f x st d/\VlA H v d ld rs /\ ∀ q H',zW H H'->H' q=some (.tup [.str (T ld),.str (T rs)])->Q (.ref q) H'
theorem Q4 {f:Nat} (h1:xk H p wd f x st d) (h2:VlA H v d ld rs) (q : ∀ q H',zW H H'->H' q=some (.tup [.str (T ld),.str (T rs)])->Q (.ref q) H'):y4 K ([v,.ref p]++[]) H Q E:=⟨v,p,wd,f,x,st,d,ld,rs,rfl,h1,h2,q⟩
include Z in
theorem kO:Has P w K mg base "_law_parts_of" 4 ["_law_value_here", "_law_spec_here"] (y4 K):=by
 refine jm Z.kn Z.bD (l2N (by intros;rfl)) fun fq fd F=>?_
 refine F.ok Qs (fun vs H Q E=>?_) (fun _ _ _ s H vs Q E hr h=>?_)
 ·walk_at "ln"
 obtain ⟨v,p,wd,f,x,st,d,ld,rs,rfl,D0,V0,q⟩:=h
 refine ⟨_,zC (zm (zQ qd (zR zT (pv 1) (zB) (fun _ _=>rfl)) (zY) (zU _)) (zE (zK (zF (VM Z) hr rfl (zA (zM qP (zM qH (zR zT (pv 0) (zB) (fun _ _=>rfl)) (zF (qg Z) hr rfl (zA (zR zT (pv 1) (zB) (fun _ _=>rfl)) (zA (zR zT (pv 1) (zB) (fun _ _=>rfl)) (zD))))) (zR zT (pv 0) (zB) (fun _ _=>rfl))) (zA (pv 1) (zD)))))) (zV))
  (zE (zK (qh (zA (qi (l:=[]) (by decide +kernel)) (zA (pv 0) (zD)))))),?_⟩
 walk_at "st"
 cases V0 with
 | @num p0 fg pl b sn z m pt wy k hv hp lim =>
  subst hv
  cases D0 with
  | num e ok =>
   have o3:=ok.pl1;have o4:=ok.pl2;have o5:=ok.b1;have o6:=ok.b2
   have pw:=pw6 (b:=b) (t:=pl) o5 o6 o4
   have l2:=yI (t:=k) (b:=b ^ pl.toNat) (by omega)
   have l3:=JR (t:=k) (b:=b ^ pl.toNat) (by omega)
   have ek:xO k (b ^ pl.toNat)*b ^ pl.toNat / jt k (b ^ pl.toNat)=k:=by
    have e1:=yL k (b ^ pl.toNat)
    have e2:=j7 k (b ^ pl.toNat)
    generalize kA k (b ^ pl.toNat)=g at *
    have e3:xO k (b ^ pl.toNat)*b ^ pl.toNat=jt k (b ^ pl.toNat)*k:=
     calc xO k (b ^ pl.toNat)*b ^ pl.toNat=xO k (b ^ pl.toNat)*(jt k (b ^ pl.toNat)*g):=by rw [e2]
      _=jt k (b ^ pl.toNat)*(xO k (b ^ pl.toNat)*g):=by ac_rfl
      _=jt k (b ^ pl.toNat)*k:=by rw [e1]
    rw [e3,Int.mul_ediv_cancel_left _ (by omega)]
   walk_at "rd"
   rw [ek]
   exact zEe e ok lim q
 | @word sg lo hi t hv iw =>
  subst hv
  cases D0 with
  | word e ok =>
   walk_at "rd"
   exact q _ _ (by assumption) (by assumption)
 | @cho ns t hv hm =>
  subst hv
  cases D0 with
  | cho e eL ok =>
   walk_at "rd"
   exact q _ _ (by assumption) (by assumption)
def txV (wd:Int) (f:Nat) (x:Str) (st:Bool) (ld rs:List Nat):V:=if (st && decide (wd < ((ld++rs).length:Int)))=true then .non else .str (T (Zb ld (ld++rs) wd f x))
def Q6 (K:W.Frag):Sp:=fun vs H Q _=>∃ (v:V) (p:Addr) (wd:Int) (f:Nat) (x:Str) (st:Bool) (d:Fd) (ld rs:List Nat),vs=[v,.ref p]/\xk H p wd f x st d/\VlA H v d ld rs /\ ∀ H',zW H H'->Q (txV wd f x st ld rs) H'
theorem zAd {f:Nat} (h1:xk H p wd f x st d) (h2:VlA H v d ld rs) (q : ∀ H',zW H H'->Q (txV wd f x st ld rs) H'):Q6 K ([v,.ref p]++[]) H Q E:=⟨v,p,wd,f,x,st,d,ld,rs,rfl,h1,h2,q⟩
include Z in
theorem ZX:Has P w K mg base "_law_text" 5 ["_law_value_here", "_law_spec_here"] (Q6 K):=by
 refine jm Z.kn Z.bE (l2N (by intros;rfl)) fun fq fd F=>?_
 refine F.ok kX (fun vs H Q E=>?_) (fun _ _ _ s H vs Q E hr h=>?_)
 ·walk_at "ln"
 obtain ⟨v,p,wd,f,x,st,d,ld,rs,rfl,D0,V0,q⟩:=h
 refine ⟨_,zC (Jv (zF (kO Z) hr rfl (zA (pv 0) (zA (pv 1) (zD)))) (JI rfl (zv (zg (i:=2) kX.nd rfl (Or.inl rfl)) (zv (zg (i:=3) kX.nd rfl (Or.inl rfl)) (ky)))))
  (zC (zm (PW.pt (yU (qc (zR zT (pv 1) (k7 xE (zB)) (fun _ _=>rfl))) (xH (zQ Zc (zM zp (zI zd Z.am rfl z4 (zA (pv 2) (zD))) (zI zd Z.am rfl z4 (zA (pv 3) (zD)))) (zR zT (pv 1) (k7 xE (zB)) (fun _ _=>rfl)) (zU _))))) (zE (zK (wR))) (zV))
  (zE (zK (zF (Xy Z) hr rfl (zA (pv 2) (zA (pv 3) (zA (pv 1) (zD)))))))),?_⟩
 walk_at "st"
 obtain ⟨l1,l2,a1,a2⟩:=V0.ok D0.okS
 have la:((ld++rs).length:Int)=ld.length+rs.length:=by rw [length_append];omega
 walk_at "rd"
 refine Q4 D0 V0 fun q1 H1 g1 e1=>?_
 have D1:=D0.same g1
 unfold txV at q
 walk_at "rd"
 refine zIZ D1 ?_
 walk_at "rd"
 ·rename_i hc1
  refine zHC D1 ?_
  walk_at "rd"
  ·rename_i hc2
   have q':=q _ g1
   rw [if_pos (by rw [hc1,decide_eq_true (by omega)];rfl)] at q'
   exact q'
  ·rename_i hc2
   refine Xr D1 l1 l2 fun H2 g2=>?_
   have q':=q _ (g1.trans g2)
   rw [if_neg (by rw [hc1,decide_eq_false (by omega)];decide)] at q'
   exact q'
 ·rename_i hc1
  refine Xr D1 l1 l2 fun H2 g2=>?_
  have q':=q _ (g1.trans g2)
  rw [if_neg (by rw [hc1];simp)] at q'
  exact q'
section
open PySem.Spec PyProof.Rows
variable {X : Cx} {H : Hp} {Q : VK} {K : W.Frag}
def zJA (K:W.Frag):R2:=fun x y H Q=>∃ d ds,Dt K H x d/\Dt K H y (.list ds)/\PyData.canLayAll0 ds=true/\d.canLay0=true/\d.depth<=19/\Q (.bl (ds.any fun y=>y.eqv d)) H
def zF5 (K:W.Frag):R2:=fun x y H Q=>∃ d ds,Dt K H x d/\Dt K H y (.list ds)/\PyData.canLayAll0 ds=true/\d.canLay0=true/\d.depth<=19/\Q (.bl (!(ds.any fun y=>y.eqv d))) H
theorem zEY (hu:X.A.units+20 < cLine):OpR X (compareOp .In) (zJA X.K):=by
 intro pins s σ H x y v u Q I rx ry h
 obtain ⟨d,ds,h1,h2,c2,c,dp,q⟩:=h
 obtain ⟨as,r1⟩:=jP I h1 rx
 obtain ⟨bs,r2⟩:=jP I h2 ry
 exact SeqAt.in_list_reads r2 r1 c2 c (by have:=min_le_right (PyData.depthAll ds) d.depth;omega) ⟨.bl _,H,I,rfl,q⟩
theorem zA6 (hu:X.A.units+20 < cLine):OpR X (compareOp .NotIn) (zF5 X.K):=by
 intro pins s σ H x y v u Q I rx ry h
 obtain ⟨d,ds,h1,h2,c2,c,dp,q⟩:=h
 obtain ⟨as,r1⟩:=jP I h1 rx
 obtain ⟨bs,r2⟩:=jP I h2 ry
 exact SeqAt.notIn_list_reads r2 r1 c2 c (by have:=min_le_right (PyData.depthAll ds) d.depth;omega) ⟨.bl _,H,I,rfl,q⟩
def zJX (K:W.Frag):R2:=fun x y H Q=>∃ d d',Dt K H x d/\Dt K H y d'/\d.canLay0=true/\d'.canLay0=true/\d.depth<=18/\Q (.bl (d.eqv d')) H
theorem zA2 (hu:X.A.units+20 < cLine):OpR X (compareOp .Eq) (zJX X.K):=by
 intro pins s σ H x y v u Q I rx ry h
 obtain ⟨d,d',h1,h2,c,c',dp,q⟩:=h
 obtain ⟨as,r1⟩:=jP I h1 rx
 obtain ⟨bs,r2⟩:=jP I h2 ry
 have hm:min d.depth d'.depth<=d.depth:=Nat.min_le_left _ _
 exact SeqAt.compareEq_reads r1 r2 c c' (by omega) ⟨.bl _,H,I,rfl,q⟩
def zJq (K:W.Frag):R2:=fun x y H Q=>∃ d d',Dt K H x d/\Dt K H y d'/\d.canLay0=true/\d'.canLay0=true/\d.depth<=18/\Q (.bl (!(d.eqv d'))) H
theorem zHm (hu:X.A.units+20 < cLine):OpR X (compareOp .NotEq) (zJq X.K):=by
 intro pins s σ H x y v u Q I rx ry h
 obtain ⟨d,d',h1,h2,c,c',dp,q⟩:=h
 obtain ⟨as,r1⟩:=jP I h1 rx
 obtain ⟨bs,r2⟩:=jP I h2 ry
 have hm:min d.depth d'.depth<=d.depth:=Nat.min_le_left _ _
 exact SeqAt.compareNe_reads r1 r2 c c' (by omega) ⟨.bl _,H,I,rfl,q⟩
end
def Kd:Fd->Vc->Prop
 | .num _ _ _ _ _ _ _ _,.n _=>True
 | .word _ _ _,.t _=>True
 | .cho _,.t _=>True
 | _,_=>False
theorem VcN.kd {c:Vc} (h:VcN H v d c):Kd d c:=by cases d <;> cases c <;> first | exact h.elim | trivial
theorem Vok.kd {c:Vc} (h:Vok d c):Kd d c:=by cases d <;> cases c <;> first | exact h.elim | trivial
def TxB:Vc->Prop
 | .n _=>True
 | .t t=>Asc t/\t.length<=400
theorem Vok.tx {f:Nat} {c:Vc} (D:okS wd f x d) (o:Vok d c):TxB c:=by
 have h:=o.ok D
 cases c with
 | n k=>exact trivial
 | t t=>cases d with
  | num fg pl b sn z m pt wy=>exact o.elim
  | word sg lo hi=>exact ⟨h.2.2.2,le_trans h.2.1 (by decide)⟩
  | cho ns=>exact ⟨h.2.2.2,le_trans h.2.1 (by decide)⟩
def vdc:Fd->Vc->PyData
 | .num _ pl b _ _ _ _ _,.n k=>rD (b ^ pl.toNat) k
 | _,.t t=>sD t
 | _,_=>.none
theorem zAr {c:Vc} (h:VcN H v d c):Dt K H v (vdc d c):=by
 cases d with
 | num fg pl b sn z m pt wy=>cases c with
  | n k=>obtain ⟨p,rfl,e⟩:=h;exact .tup (SqT.of e) (.cons (.int _) (.cons (.int _) .nil))
  | t t=>exact h.elim
 | word sg lo hi=>cases c with
  | n k=>exact h.elim
  | t t=>cases h;exact .str _
 | cho ns=>cases c with
  | n k=>exact h.elim
  | t t=>cases h;exact .str _
theorem zAC {c:Vc} (kd:Kd d c) (h:TxB c):(vdc d c).canLay0=true/\(vdc d c).depth<=2:=by
 have tx : ∀ {t:List Nat},Asc t->(sD t).canLay0=true/\(sD t).depth<=2:=fun {t} a=>by
  have:=zIY a
  exact ⟨by simp [sD,PyData.canLay0,this],by simp [sD,PyData.depth]⟩
 cases d with
 | num fg pl b sn z m pt wy=>cases c with
  | n k=>exact ⟨by simp [vdc,rD,PyData.canLay0,PyData.canLayAll0],by simp [vdc,rD,PyData.depth,PyData.depthAll]⟩
  | t t=>exact kd.elim
 | word sg lo hi=>cases c with
  | n k=>exact kd.elim
  | t t=>exact tx h.1
 | cho ns=>cases c with
  | n k=>exact kd.elim
  | t t=>exact tx h.1
theorem zEw {k':Int} (hS:0 < S) (h1:xO k S=xO k' S) (h2:jt k S=jt k' S):k=k':=by
 have a1:=yL k S
 have a2:=j7 k S
 have b1:=yL k' S
 have b2:=j7 k' S
 have p:=yI (t:=k) hS
 rw [<- h2] at b2
 rw [<- h1] at b1
 have e:kA k S=kA k' S:=Int.eq_of_mul_eq_mul_left (show jt k S≠0 by omega) (a2.trans b2.symm)
 rw [<- a1,<- b1,e]
theorem zF8 {k':Int} (hS:0 < S) (h:k < k'):xO k S*jt k' S < xO k' S*jt k S:=by
 have a1:=yL k S
 have a2:=j7 k S
 have b1:=yL k' S
 have b2:=j7 k' S
 have p:=ZA (t:=k) hS
 have p':=ZA (t:=k') hS
 refine Int.lt_of_mul_lt_mul_right (a:=kA k S*kA k' S) ?_ (Int.le_of_lt (Int.mul_pos p p'))
 have e1:xO k S*jt k' S*(kA k S*kA k' S)=k*S:=
  calc xO k S*jt k' S*(kA k S*kA k' S)=(xO k S*kA k S)*(jt k' S*kA k' S):=by ac_rfl
   _=k*S:=by rw [a1,b2]
 have e2:xO k' S*jt k S*(kA k S*kA k' S)=k'*S:=
  calc xO k' S*jt k S*(kA k S*kA k' S)=(xO k' S*kA k' S)*(jt k S*kA k S):=by ac_rfl
   _=k'*S:=by rw [b1,a2]
 rw [e1,e2]
 exact Int.mul_lt_mul_of_pos_right h hS
theorem zDO:xO k S*S=jt k S*k:=by
 have e1:=yL k S
 have e2:=j7 k S
 generalize kA k S=g at *
 calc xO k S*S=xO k S*(jt k S*g):=by rw [e2]
  _=jt k S*(xO k S*g):=by ac_rfl
  _=jt k S*k:=by rw [e1]
theorem zFI {b:Int} (h1:0<=fg) (h2:0<=pl) (h3:2<=b):((xO k (b ^ pl.toNat)).natAbs:Int) < b ^ fg.toNat*jt k (b ^ pl.toNat)↔JO fg pl b k:=by
 have pS:0 < b ^ pl.toNat:=Int.pow_pos (by omega)
 have g:=ZA (t:=k) pS
 have e1:=yL k (b ^ pl.toNat)
 have e2:=j7 k (b ^ pl.toNat)
 have ek:(k.natAbs:Int)=((xO k (b ^ pl.toNat)).natAbs:Int)*kA k (b ^ pl.toNat):=by
  have:=congrArg Int.natAbs e1
  rw [Int.natAbs_mul] at this
  rw [<- this,Int.natCast_mul,Int.natAbs_of_nonneg (Int.le_of_lt g)]
 have eb:((b.toNat ^ (fg+pl).toNat:Nat):Int)=b ^ fg.toNat*jt k (b ^ pl.toNat)*kA k (b ^ pl.toNat):=by
  rw [natCast_pow,Int.toNat_of_nonneg (by omega),Int.mul_assoc,e2,<- Int.pow_add,Int.toNat_add h1 h2]
 unfold JO
 rw [<- Int.ofNat_lt,ek,eb]
 exact ⟨fun h=>Int.mul_lt_mul_of_pos_right h g,fun h=>Int.lt_of_mul_lt_mul_right h (Int.le_of_lt g)⟩
theorem zFK {a b:List Nat} (h:T a=T b):a=b:=by have:=congrArg Lt h;rwa [JY,JY] at this
theorem zCx {f:Nat} {c:Vc} (D:okS wd f x d) (h:Kd d c) (h':Kd d c'):(vdc d c).eqv (vdc d c')=true↔c=c':=by
 have tx : ∀ {a b:List Nat},(sD a).eqv (sD b)=true↔Vc.t a = .t b:=fun {a b}=>by
  unfold sD
  rw [show (PyData.str (T a)).eqv (.str (T b))=(T a == T b) by simp [PyData.eqv],beq_iff_eq]
  exact ⟨fun h=>by rw [zFK h],fun h=>by cases h;rfl⟩
 cases d with
 | num fg pl b sn z m pt wy=>cases c with
  | n k=>cases c' with
   | n k' =>
    have ok:QF fg pl b sn z m pt wy wd f x:=D
    have pw:=pw6 (b:=b) (t:=pl) ok.b1 ok.b2 ok.pl2
    show (rD (b ^ pl.toNat) k).eqv (rD (b ^ pl.toNat) k')=true↔_
    unfold rD
    rw [show (PyData.tuple [.int (xO k (b ^ pl.toNat)),.int (jt k (b ^ pl.toNat))]).eqv (.tuple [.int (xO k' (b ^ pl.toNat)),.int (jt k' (b ^ pl.toNat))])=(xO k (b ^ pl.toNat) == xO k' (b ^ pl.toNat) && jt k (b ^ pl.toNat) == jt k' (b ^ pl.toNat)) by simp [PyData.eqv,PyData.eqvAll],Bool.and_eq_true,beq_iff_eq,beq_iff_eq]
    exact ⟨fun h=>by rw [zEw (by omega) h.1 h.2],fun h=>by cases h;exact ⟨rfl,rfl⟩⟩
   | t t=>exact h'.elim
  | t t=>exact h.elim
 | word sg lo hi=>cases c with
  | n k=>exact h.elim
  | t t=>cases c' with
   | n k'=>exact h'.elim
   | t t'=>exact tx
 | cho ns=>cases c with
  | n k=>exact h.elim
  | t t=>cases c' with
   | n k'=>exact h'.elim
   | t t'=>exact tx
variable {us:List V}
theorem zFs (al:Al (fun v c=>VcN H v d c) us cs):Dts K H us (cs.map (vdc d)):=by
 induction al with
 | nil=>exact .nil
 | cons h _ ih=>exact .cons (zAr h) ih
theorem zAI {d:Fd} : ∀ {cs:List Vc},(∀ c ∈ cs,Kd d c/\TxB c)->PyData.canLayAll0 (cs.map (vdc d))=true/\PyData.depthAll (cs.map (vdc d))<=2
 | [],_=>⟨by simp [PyData.canLayAll0],by simp [PyData.depthAll]⟩
 | c::cs,h=>by
  have o1:=h c (mem_cons_self ..)
  have o2:=zAC o1.1 o1.2
  have o3:=zAI (cs:=cs) fun q hq=>h q (mem_cons_of_mem _ hq)
  exact ⟨by simp only [map_cons,PyData.canLayAll0,o2.1,o3.1,Bool.and_true],by simp only [map_cons,PyData.depthAll];have:=o2.2;have:=o3.2;omega⟩
theorem zDN {f:Nat} {c:Vc} (D:okS wd f x d) (k:Kd d c) (h : ∀ c ∈ cs,Kd d c):((cs.map (vdc d)).any fun y=>y.eqv (vdc d c))=true↔c ∈ cs:=by
 rw [List.any_eq_true]
 constructor
 ·rintro ⟨y,hy,e⟩
  obtain ⟨c',hc,rfl⟩:=List.mem_map.mp hy
  rw [<- (zCx D (h c' hc) k).mp e];exact hc
 ·intro hc
  exact ⟨_,List.mem_map.mpr ⟨c,hc,rfl⟩,(zCx D k k).mpr rfl⟩
def Z3 (K:W.Frag):Sp:=fun vs H Q _=>∃ i:Int,vs=[.int i]/\Q (.bl true) H
theorem zEQ (q:Q (.bl true) H):Z3 K ([.int i]++[]) H Q E:=⟨i,rfl,q⟩
local macro_rules | `(tactic| walk_at "rdc")=>`(tactic| with_reducible refine zEQ ?_)
include Z in
theorem Q5:Has P w K mg base "_law_whole" 1 ["_law_thing"] (Z3 K):=by
 refine jm Z.kn Z.bF (l1N (by intros;rfl)) fun fq fd F=>?_
 refine F.ok Xp (fun vs H Q E=>?_) (fun _ _ _ s H vs Q E hr h=>?_)
 ·walk_at "ln"
 obtain ⟨i,rfl,q⟩:=h
 refine ⟨_,zE (zK (Qo (zI xA Z.ao rfl z8 (zA (pv 0) (zA (yO rfl Z.au zCh (v:=.ty "int") rfl) (zD)))) (Q9 (zCi (zI xA Z.ao rfl z8 (zA (pv 0) (zA (yO rfl Z.av Wy (v:=.ty "bool") rfl) (zD)))))))),?_⟩
 walk_at "st"
 walk_at "rd"
 exact q
def QD (K:W.Frag):Sp:=fun vs H Q _=>∃ (q p:Addr) (fg pl b:Int) (sn:Str) (z:Int) (m pt:Nat) (wy:Str) (wd:Int) (f:Nat) (x:Str) (st:Bool) (k:Int),vs=[.ref q,.ref p]/\H q=some (.tup [.int (xO k (b ^ pl.toNat)),.int (jt k (b ^ pl.toNat))])/\YY H p fg pl b sn z m pt wy wd f x st/\QF fg pl b sn z m pt wy wd f x/\(JO fg pl b k->Q (.bl true) H)/\(¬ JO fg pl b k->Q (.bl false) H)
include Z in
theorem Qt:Has P w K mg base "_law_is_number" 2 ["_law_value_here", "_law_spec_here"] (QD K):=by
 refine jm Z.kn Z.bG (l2N (by intros;rfl)) fun fq fd F=>?_
 refine F.ok yQ (fun vs H Q E=>?_) (fun _ _ _ s H vs Q E hr h=>?_)
 ·walk_at "ln"
 obtain ⟨q,p,fg,pl,b,sn,z,m,pt,wy,wd,f,x,st,k,rfl,hq,hp,ok,q1,q2⟩:=h
 refine ⟨_,zC (zm (PW.pt (ZD (qw (qc (zI xA Z.ao rfl z8 (zA (pv 0) (zA (yO rfl Z.ay zCL (v:=.ty "tuple") rfl) (zD)))))) (ZD (zQ QY (zI jg Z.am rfl z4 (zA (pv 0) (zD))) (zB) (zU _)) (ZD (qw (qc (zF (Q5 Z) hr rfl (zA (zR zT (pv 0) (zB) (fun _ _=>rfl)) (zD))))) (yj (qw (qc (zF (Q5 Z) hr rfl (zA (zR zT (pv 0) (zB) (fun _ _=>rfl)) (zD)))))))))) (zE (zK (yJ))) (zV))
  (zC (zJ (i:=2) yQ.nd rfl (Or.inl rfl) (zF (qg Z) hr rfl (zA (zR zT (pv 1) (zB) (fun _ _=>rfl)) (zA (zR zT (pv 1) (zB) (fun _ _=>rfl)) (zD)))))
  (zC (zm (PW.pt (ZD (zQ ZZ (zR zT (pv 0) (zB) (fun _ _=>rfl)) (zB) (zU _)) (ZD (zQ QY (zF (wX Z) hr rfl (zA (zR zT (pv 0) (zB) (fun _ _=>rfl)) (zA (zR zT (pv 0) (zB) (fun _ _=>rfl)) (zD)))) (zB) (zU _)) (yj (zQ QY (zM qJ (zM qH (zR zT (pv 0) (zB) (fun _ _=>rfl)) (pv 2)) (zR zT (pv 0) (zB) (fun _ _=>rfl))) (zB) (zU _)))))) (zE (zK (yJ))) (zV))
  (zE (zK (qY ZZ (zI x5 Z.aw rfl Jw (zA (zR zT (pv 0) (zB) (fun _ _=>rfl)) (zD))) (zM qH (zF (qg Z) hr rfl (zA (zR zT (pv 1) (zB) (fun _ _=>rfl)) (zA (zR zT (pv 1) (zB) (fun _ _=>rfl)) (zD)))) (zR zT (pv 0) (zB) (fun _ _=>rfl))) (zU _)))))),?_⟩
 walk_at "st"
 unfold YY at hp
 have o1:=ok.fg1;have o2:=ok.fg2;have o3:=ok.pl1;have o4:=ok.pl2;have o5:=ok.b1;have o6:=ok.b2
 have pw:=pw6 (b:=b) (t:=pl) o5 o6 o4
 have l2:=yI (t:=k) (b:=b ^ pl.toNat) (by omega)
 have l3:=JR (t:=k) (b:=b ^ pl.toNat) (by omega)
 have lg:=zB8 (t:=k) (b:=b ^ pl.toNat) (by omega)
 have ld:xO k (b ^ pl.toNat)*b ^ pl.toNat % jt k (b ^ pl.toNat)=0:=by rw [zDO,Int.mul_emod_right]
 have li:=zFI (fg:=fg) (pl:=pl) (b:=b) (k:=k) (by omega) o3 o5
 walk_at "rd"
 rename_i k' hk'
 have ek:k'=((xO k (b ^ pl.toNat)).natAbs:Int):=by omega
 rw [ek]
 by_cases hl:JO fg pl b k
 ·rw [decide_eq_true (li.mpr hl)];exact q1 hl
 ·rw [decide_eq_false fun z=>hl (li.mp z)];exact q2 hl
def yx (K:W.Frag):Sp:=fun vs H Q _=>∃ (v:V) (p:Addr) (wd:Int) (f:Nat) (x:Str) (st:Bool) (d:Fd) (c:Vc),vs=[v,.ref p]/\xk H p wd f x st d/\VcN H v d c/\TxB c/\(Vok d c -> ∀ H',zW H H'->Q (.bl true) H')/\(¬ Vok d c -> ∀ H',zW H H'->Q (.bl false) H')
theorem Jn {f:Nat} {c:Vc} (h1:xk H p wd f x st d) (h2:VcN H v d c) (h3:TxB c) (q1:Vok d c -> ∀ H',zW H H'->Q (.bl true) H') (q2 : ¬ Vok d c -> ∀ H',zW H H'->Q (.bl false) H'):yx K ([v,.ref p]++[]) H Q E:=⟨v,p,wd,f,x,st,d,c,rfl,h1,h2,h3,q1,q2⟩
include Z in
theorem kM:Has P w K mg base "_law_is_value" 3 ["_law_value_here", "_law_spec_here"] (yx K):=by
 refine jm Z.kn Z.bH (l2N (by intros;rfl)) fun fq fd F=>?_
 refine F.ok JE (fun vs H Q E=>?_) (fun _ _ _ s H vs Q E hr h=>?_)
 ·walk_at "ln"
 obtain ⟨v,p,wd,f,x,st,d,c,rfl,S0,V0,tb,q1,q2⟩:=h
 refine ⟨_,zC (zm (zQ qd (zR zT (pv 1) (zB) (fun _ _=>rfl)) (zY) (zU _)) (zE (zK (zF (Qt Z) hr rfl (zA (pv 0) (zA (pv 1) (zD)))))) (zV))
  (zC (zm (qw (qc (zI xA Z.ao rfl z8 (zA (pv 0) (zA (yO rfl Z.ap zA1 (v:=.ty "str") rfl) (zD)))))) (zE (zK (yJ))) (zV))
  (zC (zm (zQ qd (zR zT (pv 1) (zB) (fun _ _=>rfl)) (zY) (zU _)) (zE (zK (qY Yf (pv 0) (zR zT (pv 1) (zB) (fun _ _=>rfl)) (by with_unfolding_all rfl)))) (zV))
  (zE (zK (Qo (zBs X7 X7 (zR zT (pv 1) (zB) (fun _ _=>rfl)) (zI zd Z.am rfl z4 (zA (pv 0) (zD))) (zR zT (pv 1) (zB) (fun _ _=>rfl))) (Q9 (qY (zBu (zIL hr)) (ju (cl:=[("_law_spec_here", s.heap.objs.size+1+0)]) (fr:=["_law_spec_here"]) (is:=[1]) rfl rfl ⟨rfl,trivial⟩ rfl ⟨⟨rfl,rfl,Or.inl rfl⟩,trivial⟩ (by decide) (by decide +kernel) rfl (by decide +kernel) rfl (Y2 (pv 0)) (fun _ _ _ _=>y8 (zQ zDi (pv 0) (zR (zAq (K:=K) rfl) (pv 1) (zB) (fun _ _=>rfl)) (by with_unfolding_all rfl))) (fun _ _ _ _=>pv 0)) (zt (zD)) (zU _)))))))),?_⟩
 walk_at "st"
 cases S0 with
 | @num fg pl b sn z m pt wy e ok=>cases c with
  | t t=>exact V0.elim
  | n k =>
   obtain ⟨q,rfl,hq⟩:=V0
   walk_at "rd"
   exact ⟨q,p,_,_,_,_,_,_,_,_,_,_,_,_,k,rfl,hq,e,ok,fun o=>q1 o _ (zW.refl _),fun o=>q2 o _ (zW.refl _)⟩
 | @word sg lo hi e ok=>cases c with
  | n k=>exact V0.elim
  | t t =>
   cases V0
   have tl:=tb.2
   walk_at "rd"
   ·rename_i h1 h2
    refine Vz (Nat.le_of_lt (qr (by omega))) (fun i ys H'=>H'=H/\ys=tsV (((t.take i).filter fun c=>!decide (c ∈ sg)).map fun c=>[c])) ⟨rfl,rfl⟩ (fun i ys H' hi z=>by rw [z.2,zr,length_map];exact le_trans (length_filter_le _ _) (by rw [length_take];omega)) ?_ ?_
    ·rintro i c ys H' hc hi ⟨rfl,rfl⟩
     walk_at "rd"
     ·rename_i hm
      refine nxC hi ⟨rfl,?_⟩
      rw [Yv hc,filter_cons_of_neg (p:=fun c=>!decide (c ∈ sg)) (by simpa using hm),filter_nil,append_nil]
     ·rename_i hm
      refine nxC hi ⟨rfl,?_⟩
      rw [Yv hc,filter_cons_of_pos (p:=fun c=>!decide (c ∈ sg)) (by simpa using hm),filter_nil,map_append,<- xL];rfl
    ·rintro ys H' ⟨rfl,rfl⟩ p1 H1 g1 e1
     rw [take_length] at e1
     walk_at "rd"
     rename_i p2 H2 g2 n2 e2
     by_cases hm : ∀ c ∈ t,c ∈ sg
     ·rw [decide_eq_true (by rw [List.filter_eq_nil_iff.mpr fun c hc=>by simpa using hm c hc];rfl)]
      exact q1 ⟨⟨h1,h2⟩,hm⟩ _ (g1.trans g2)
     ·rw [decide_eq_false fun z=>hm fun c hc=>?_]
      ·exact q2 (fun z=>hm z.2) _ (g1.trans g2)
      ·have z2:=List.map_eq_nil_iff.mp (List.map_eq_nil_iff.mp z)
       simpa using List.filter_eq_nil_iff.mp z2 c hc
   ·rename_i h1 h2
    exact q2 (fun z=>h2 z.1.2) _ (zW.refl _)
   ·rename_i h1
    exact q2 (fun z=>h1 z.1.1) _ (zW.refl _)
 | @cho L ns e eL ok=>cases c with
  | n k=>exact V0.elim
  | t t =>
   cases V0
   walk_at "rd"
   by_cases hm:t ∈ ns
   ·rw [decide_eq_true hm];exact q1 hm _ (zW.refl _)
   ·rw [decide_eq_false hm];exact q2 hm _ (zW.refl _)
def Zl (K:W.Frag):Sp:=fun vs H Q _=>∃ (v v':V) (p:Addr) (wd:Int) (f:Nat) (x:Str) (st:Bool) (d:Fd) (c c':Vc),vs=[v,v',.ref p]/\xk H p wd f x st d/\VcN H v d c/\VcN H v' d c'/\Ris d c c'/\Q (.bl true) H
theorem zDl {v':V} {f:Nat} {c:Vc} (h1:xk H p wd f x st d) (h2:VcN H v d c) (h3:VcN H v' d c') (h4:Ris d c c') (q:Q (.bl true) H):Zl K ([v,v',.ref p]++[]) H Q E:=⟨v,v',p,wd,f,x,st,d,c,c',rfl,h1,h2,h3,h4,q⟩
include Z in
theorem VZ:Has P w K mg base "_law_ahead" 1 ["_law_one", "_law_other", "_law_spec_here"] (Zl K):=by
 refine jm Z.kn Z.bI (l3N (by intros;rfl)) fun fq fd F=>?_
 refine F.ok Yp (fun vs H Q E=>?_) (fun _ _ _ s H vs Q E hr h=>?_)
 ·walk_at "ln"
 obtain ⟨v,v',p,wd,f,x,st,d,c,c',rfl,S0,V0,V1,R0,q⟩:=h
 refine ⟨_,zC (zm (zQ qd (zR zT (pv 2) (zB) (fun _ _=>rfl)) (zY) (zU _)) (zE (zK (qY ZZ (zM qH (zR zT (pv 0) (zB) (fun _ _=>rfl)) (zR zT (pv 1) (zB) (fun _ _=>rfl))) (zM qH (zR zT (pv 1) (zB) (fun _ _=>rfl)) (zR zT (pv 0) (zB) (fun _ _=>rfl))) (zU _)))) (zV))
  (zC (zm (zQ qd (zR zT (pv 2) (zB) (fun _ _=>rfl)) (zY) (zU _)) (zE (zK (qY zGD (pv 0) (pv 1) (zU _)))) (zV))
  (zE (zK (qY ZZ (kv PySem.F.plainAttrs_list PySem.F.slot_list_index PySem.F.type_list_index Qb (zR zT (pv 2) (zB) (fun _ _=>rfl)) (zA (pv 0) (zD))) (kv PySem.F.plainAttrs_list PySem.F.slot_list_index PySem.F.type_list_index Qb (zR zT (pv 2) (zB) (fun _ _=>rfl)) (zA (pv 1) (zD))) (zU _))))),?_⟩
 walk_at "st"
 cases S0 with
 | @num fg pl b sn z m pt wy e ok=>cases c with
  | t t=>exact V0.elim
  | n k=>cases c' with
   | t t=>exact V1.elim
   | n k' =>
    obtain ⟨q0,rfl,hq0⟩:=V0
    obtain ⟨q1,rfl,hq1⟩:=V1
    have R0:k < k':=R0
    have pw:=pw6 (b:=b) (t:=pl) ok.b1 ok.b2 ok.pl2
    have l2:=yI (t:=k) (b:=b ^ pl.toNat) (by omega)
    have l3:=JR (t:=k) (b:=b ^ pl.toNat) (by omega)
    have l2':=yI (t:=k') (b:=b ^ pl.toNat) (by omega)
    have l3':=JR (t:=k') (b:=b ^ pl.toNat) (by omega)
    walk_at "rd"
    rw [decide_eq_true (zF8 (by omega) R0)]
    exact q
 | @word sg lo hi e ok=>cases c with
  | n k=>exact V0.elim
  | t t=>cases c' with
   | n k'=>exact V1.elim
   | t t' =>
    cases V0;cases V1
    walk_at "rd"
    refine zID ?_
    rw [zEB.mpr R0]
    exact q
 | @cho L ns e eL ok=>cases c with
  | n k=>exact V0.elim
  | t t=>cases c' with
   | n k'=>exact V1.elim
   | t t' =>
    cases V0;cases V1
    obtain ⟨a,b,hab,ha,hb⟩:=R0
    have eT:H L=some (.lst ((ns.map T).map V.str)):=by rw [eL];unfold tsV;rw [List.map_map];rfl
    have ix : ∀ {u:List Nat} {i:Nat},ns[i]? = some u->(ns.map T)[i]? = some (T u)/\(∀ m,m < i->(ns.map T)[m]? ≠ some (T u))/\i < 1000:=fun {u i} hu=>by
     refine ⟨by rw [getElem?_map,hu];rfl,fun m hm z=>?_,?_⟩
     ·rw [getElem?_map] at z
      cases hq:ns[m]? with
      | none=>rw [hq] at z;cases z
      | some y =>
       rw [hq] at z
       have:=QO ok.nd hq (hu.trans (congrArg some (zFK (Option.some.inj z)).symm))
       omega
     ·have:=(List.getElem?_eq_some_iff.mp hu).1;have:=ok.n2;omega
    walk_at "rd"
    refine Xg a eT (ix ha).1 (ix ha).2.1 (ix ha).2.2 ?_
    walk_at "rd"
    refine Xg b eT (ix hb).1 (ix hb).2.1 (ix hb).2.2 ?_
    walk_at "rd"
    rw [decide_eq_true (by omega)]
    exact q
theorem zJk {f:Nat} {m:Str} {sN sW sC:Sp} {σc:St} {t:TA} (D:Je K H o cN cW cC wd f x st d) (hm:m ∉ bns++(nns++(wns++cns))) (wk:Wk σc σ)
  (hta : ∀ Q':VK,Q' (.ref o) H->ta σ H Q') (ht : ∀ Q':List V->Hp->Prop,Q' vs H->t σ H Q') (h:M3 d (sN (.ref o::(vs++[])) H Q E) (sW (.ref o::(vs++[])) H Q E) (sC (.ref o::(vs++[])) H Q E)) :
  zBg (Vn cN m sN E σc ta t) (zBg (Vn cW m sW E σc ta t) (Vn cC m sC E σc ta t)) σ H Q:=
 or3 (sN:=fun vs H Q E=>Wk σc σ/\sN vs H Q E) (sW:=fun vs H Q E=>Wk σc σ/\sW vs H Q E) (sC:=fun vs H Q E=>Wk σc σ/\sC vs H Q E) D hm hta ht (by cases d <;> exact ⟨wk,h⟩)
theorem VcN.clear {c:Vc} {o:HO} (h:VcN H v d c) (e:H L=some (.lst us)):VcN (upd H L o) v d c:=by
 cases d <;> cases c <;> first | exact h | (
  obtain ⟨p,e1,k⟩:=h
  exact ⟨p,e1,by rw [ze fun z=>by rw [z,e] at k;cases k];exact k⟩)
theorem zIm {t:List Nat} (hz:t.length<=400) (q:Q (.str (T (t.take (t.length - 1)))) H):zBP (.str (T t)) none (some (-1)) H Q:=by
 refine Wu ?_ ?_
 ·rw [zDP,JY];exact qm (by omega)
 ·rw [Qq,JY,show cl t.length t.length (some (-1))=t.length - 1 by unfold cl;dsimp only;rw [if_pos (by decide)];omega]
  exact q
local macro_rules | `(tactic| walk_at "rdc")=>`(tactic| ((with_reducible refine' zIm ?h1 ?_);(case h1=>omega)))
def kw (n:Nat):Str:=if n=0 then "none" else if n=1 then "one" else "some"
def ZB (K:W.Frag) (cN cW cC:Addr):Sp:=fun vs H Q _=>∃ (o:Addr) (t:List Nat) (wd:Int) (f:Nat) (x:Str) (st:Bool) (d:Fd),vs=[.ref o,.str (T t)]/\Je K H o cN cW cC wd f x st d/\Asc t/\t.length<=300 /\ ∀ cs p l us H',WS wd f x st t d cs->zW H H'->H' p=some (.tup [.str (kw cs.length),.ref l])->H' l=some (.lst us)->Al (fun v c=>VcN H' v d c) us cs->Q (.ref p) H'
theorem Vt {t:List Nat} {f:Nat} (h1:Je K H o cN cW cC wd f x st d) (h2:Asc t) (h3:t.length<=300) (q : ∀ cs p l us H',WS wd f x st t d cs->zW H H'->H' p=some (.tup [.str (kw cs.length),.ref l])->H' l=some (.lst us)->Al (fun v c=>VcN H' v d c) us cs->Q (.ref p) H'):ZB K cN cW cC ([.ref o,.str (T t)]++[]) H Q E:=⟨o,t,wd,f,x,st,d,rfl,h1,h2,h3,q⟩
include Z in
theorem Z4:Has P w K mg base "_law_single" 9 ["_law_form_here", "_law_text_here"] (ZB K zH zP zN):=by
 have xt : ∃ f,ExF K zZ f "told" := Z.b9
 have xn:W.exmOne K (.ref qb) (.ref qb)=some true:=Z.xt
 have x2:W.exmOne K (.ref zZ) (.ref qb)=some false:=Z.x2
 have x3:W.exmOne K (.ref zZ) (.ref zZ)=some true:=Z.x3
 refine jm Z.kn Z.bJ (l2N (by intros;rfl)) fun fq fd F=>?_
 refine F.ok jR (fun vs H Q E=>?_) (fun _ _ _ s H vs Q E hr h=>?_)
 ·walk_at "ln"
 obtain ⟨o,t,wd,f,x,st,d,rfl,D0,at',tl,q⟩:=h
 refine ⟨_,zC (zJ (i:=2) jR.nd rfl (Or.inl rfl) (wR))
  (zC (zER rfl rfl rfl (fun _ _ _=>zE (zJ (i:=2) jR.nd rfl (Or.inl rfl) (qh (zA (zY) (zA (yV (JG (ZJ (xF Z) in0) Z.bY hr (pv 0) (zA (pv 1) (zD))) (yV (JG (ZJ (xF Z) in1) Z.b1 hr (pv 0) (zA (pv 1) (zD))) (JG (ZJ (xF Z) in2) Z.b4 hr (pv 0) (zA (pv 1) (zD))))) (zD)))))) (zB2 rfl Z.ag (fun _=>zE (zK (qh (zA (zY) (zA (zt (zD)) (zD)))))) (zFn (i:=3) rfl Z.ah jR.nd rfl rfl (fun _=>zC (zJ (i:=4) jR.nd rfl (Or.inl rfl) (y1 xM rfl Z.ax ZP (zA (zCj (K:=K) rfl (pv 3) rfl) (zD))))
  (zC (jo (We PySem.F.plainAttrs_list PySem.F.slot_list_clear PySem.F.type_list_clear KF (zCj (K:=K) rfl (pv 3) rfl)))
  (zE (zK (qh (zA (zY) (zA (pv 4) (zD)))))))))))
  (zE (zK (qh (zA (zY) (zA (zt (zA (zR zT (pv 2) (zB) (fun _ _=>rfl)) (zD))) (zD))))))),?_⟩
 walk_at "st"
 walk_at "rd"
 refine zHZ [some (.ref o),some (.str (T t)),some .non,none,none] ?_
 walk_at "rd"
 refine zJk (vs:=[.str (T t)]) D0 (by decide +kernel) (by walk_at "wk") (fun Q' h=>by walk_at "rd"; exact h) (fun Q' h=>by walk_at "rd"; exact h) (zF6 ⟨o,t,wd,f,x,st,d,rfl,D0,at',tl,fun cs td=>⟨fun ec H1 g1=>⟨qb,rfl,zFo xn ?_⟩,fun c ec v H1 g1 vc=>?_,fun ln dx L us H1 g1 e1 n1 e2 al=>⟨zZ,rfl,zFo x2 ?_⟩⟩⟩)
 ·rw [if_pos rfl]
  walk_at "rd"
  rename_i l2 H2 g2 n2 e2 p3 H3 g3 e3
  subst ec
  exact q [] p3 l2 [] H3 td (g1.trans (g2.trans g3)) e3 (g3.at e2) .nil
 ·walk_at "rd"
  rename_i p2 H2 g2 e2 l3 H3 g3 n3 e3 p4 H4 g4 e4
  subst ec
  exact q [c] p4 l3 [v] H4 td (g1.trans (g2.trans (g3.trans g4))) e4 (g4.at e3) (.cons (vc.same (g2.trans (g3.trans g4))) .nil)
 ·rw [if_neg Bool.false_ne_true]
  refine zIj x3 fun y fy=>?_
  walk_at "rd"
  have ny:dx≠y:=za e1 fy
  have nL:L≠y:=za e2 fy
  have e1':upd H1 y (.ext (ExQ y zZ dx)) dx=some (.ext (XD dx [("told", .ref L)])):=by rw [ze ny];exact e1
  have e2':upd H1 y (.ext (ExQ y zZ dx)) L=some (.lst us):=by rw [ze nL];exact e2
  refine zDW zS e1' xt yc ?_
  walk_at "rd"
  rename_i l2 H2 g2 n2 e3
  refine zDW (g2.at zS) (g2.at e1') xt yc ?_
  walk_at "rd"
  refine zAN (g2.at e2') ?_
  walk_at "rd"
  rename_i p' H3 g3 e4
  have s12:zW H1 H2:=(qR (zW.refl _) fy).trans g2
  have s3:zW H (upd H2 L (.lst [])):=fun b o e=>by rw [ze (za e n1)];exact (g1.trans s12).at e
  refine q cs p' l2 us H3 td (s3.trans g3) ?_ (g3.at (by rw [ze (za e2' n2).symm];exact e3)) (al.imp fun _ _ h=>((h.same s12).clear (g2.at e2')).same g3)
  rw [e4];unfold kw;rw [if_neg (by omega),if_neg (by omega)]
def JC (K:W.Frag):Sp:=fun vs H Q _=>∃ (v:V) (p:Addr) (wd:Int) (f:Nat) (x:Str) (st:Bool) (d:Fd) (c:Vc),vs=[v,.ref p]/\xk H p wd f x st d/\VcN H v d c/\Vok d c/\(∀ ns,d ≠ .cho ns) /\ ∀ l us ns H',zW H H'->H' l=some (.lst us)->Al (fun v c=>VcN H' v d c) us ns->(∀ c ∈ ns,TxB c)->ns.length<=8->Q (.ref l) H'
theorem zFc {f:Nat} {c:Vc} (h1:xk H p wd f x st d) (h2:VcN H v d c) (h3:Vok d c) (h4 : ∀ ns,d ≠ .cho ns) (q : ∀ l us ns H',zW H H'->H' l=some (.lst us)->Al (fun v c=>VcN H' v d c) us ns->(∀ c ∈ ns,TxB c)->ns.length<=8->Q (.ref l) H'):JC K ([v,.ref p]++[]) H Q E:=⟨v,p,wd,f,x,st,d,c,rfl,h1,h2,h3,h4,q⟩
include Z in
theorem K0:Has P w K mg base "_law_near" 3 ["_law_one", "_law_spec_here"] (JC K):=by
 refine jm Z.kn Z.bK (l2N (by intros;rfl)) fun fq fd F=>?_
 refine F.ok qV (fun vs H Q E=>?_) (fun _ _ _ s H vs Q E hr h=>?_)
 ·walk_at "ln"
 obtain ⟨v,p,wd,f,x,st,d,c,rfl,S0,V0,ov,nc,q⟩:=h
 refine ⟨_,zC (zJ (i:=2) qV.nd rfl (Or.inl rfl) (zR zT (pv 1) (k7 xE (zB)) (fun _ _=>rfl)))
  (zC (zm (zQ qd (zR zT (pv 1) (zB) (fun _ _=>rfl)) (zY) (zU _)) (zE (zK (zt (zA (zM zk (pv 0) (pv 2)) (zA (zM zk (pv 2) (pv 0)) (zA (zj jH (pv 0) (zh (zB)) (qO)) (zA (zj jH (pv 0) (qO) (zh (k7 xE (zB)))) (zD)))))))) (zV))
  (zC (zJ (i:=3) qV.nd rfl (Or.inl rfl) (zR zT (pv 1) (zB) (fun _ _=>rfl)))
  (zC (zJ (i:=4) qV.nd rfl (Or.inr rfl) (zF (qg Z) hr rfl (zA (pv 3) (zA (zR zT (pv 1) (zB) (fun _ _=>rfl)) (zD)))))
  (zC (zJ (i:=5) qV.nd rfl (Or.inl rfl) (zM qP (zM qH (zI x5 Z.aw rfl Jw (zA (zR zT (pv 0) (zB) (fun _ _=>rfl)) (zD))) (pv 4)) (zR zT (pv 0) (zB) (fun _ _=>rfl))))
  (zC (zJ (i:=6) qV.nd rfl (Or.inl rfl) (zF (qg Z) hr rfl (zA (pv 3) (zA (zI zd Z.am rfl z4 (zA (zF (yD Z) hr rfl (zA (pv 5) (zA (pv 3) (zD)))) (zD))) (zD)))))
  (zC (zJ (i:=7) qV.nd rfl (Or.inl rfl) (zI (x9 rfl) Z.aq rfl YX (zA (zB) (zA (kv PySem.F.plainAttrs_str PySem.F.slot_str_find PySem.F.type_str_find Vs (zY) (zA (pv 2) (zD))) (zD)))))
  (zC (zJ (i:=8) qV.nd rfl (Or.inl rfl) (zt (zA (zM qP (pv 5) (pv 3)) (zA (zM zp (zM qH (pv 5) (pv 3)) (pv 7)) (zA (zM zp (pv 5) (zM qH (pv 7) (pv 6))) (zA (zM qJ (pv 5) (zM qP (pv 6) (pv 3))) (zD)))))))
  (zC (zJ (i:=8) qV.nd rfl (Or.inl rfl) (zM zAH (pv 8) (ju (cl:=[]) (fr:=[]) (is:=[]) rfl rfl trivial rfl trivial (by decide) (by decide +kernel) rfl (by decide +kernel) rfl (jS (pv 8)) (fun _ _ _ _=>xT) (fun _ _ _ _=>zM jJ (zB) (pv 0)))))
  (zE (zK (ju (cl:=[("_law_step", s.heap.objs.size+1+0)]) (fr:=["_law_step"]) (is:=[4]) rfl rfl ⟨rfl,trivial⟩ rfl ⟨⟨rfl,rfl,Or.inl rfl⟩,trivial⟩ (by decide) (by decide +kernel) rfl (by decide +kernel) rfl (jS (pv 8)) (fun _ _ _ _=>xT) (fun _ _ _ _=>zF (Z1 Z :) hr rfl (zA (pv 0) (zA (pv 1) (zD))))))))))))))),?_⟩
 walk_at "st"
 cases S0 with
 | @num fg pl b sn z m pt wy e ok=>cases c with
  | t t=>exact V0.elim
  | n k =>
   obtain ⟨q0,rfl,hq0⟩:=V0
   have o1:=ok.fg1;have o2:=ok.fg2;have o3:=ok.pl1;have o4:=ok.pl2;have o5:=ok.b1;have o6:=ok.b2
   have pw:=pw6 (b:=b) (t:=pl) o5 o6 o4
   have l2:=yI (t:=k) (b:=b ^ pl.toNat) (by omega)
   have l3:=JR (t:=k) (b:=b ^ pl.toNat) (by omega)
   walk_at "rd"
   rename_i k1 hk1
   obtain ⟨n,en,sn0⟩ : ∃ n:Nat,k1*b ^ pl.toNat / jt k (b ^ pl.toNat)=n/\n=k.natAbs:=by
    have ld:=zDO (k:=k) (S:=b ^ pl.toNat)
    refine ⟨k.natAbs,?_,rfl⟩
    rcases hk1 with ⟨h0,rfl⟩ | ⟨h0,rfl⟩
    ·have:0<=jt k (b ^ pl.toNat)*k:=by rw [<- ld];exact Int.mul_nonneg h0 (by omega)
     have kn:0<=k:=Int.nonneg_of_mul_nonneg_right this l2
     rw [ld,Int.mul_ediv_cancel_left _ (by omega)];omega
    ·have:0<=jt k (b ^ pl.toNat)*(-k):=by rw [mul_neg,<- ld,<- Int.neg_mul];exact Int.mul_nonneg (by omega) (by omega)
     have kn:0 <= -k:=Int.nonneg_of_mul_nonneg_right this l2
     rw [Int.neg_mul,ld,<- mul_neg,Int.mul_ediv_cancel_left _ (by omega)];omega
   rw [en]
   have ov:JO fg pl b k:=ov
   unfold JO at ov
   rw [<- sn0] at ov
   have l18:n < 4722366482869645213696:=Nat.lt_of_lt_of_le ov (le_trans (Nat.pow_le_pow_left (show b.toNat<=16 by omega) _) (le_trans (Nat.pow_le_pow_right (by decide) (show (fg+pl).toNat<=18 by omega)) (by decide)))
   have lf:=QP (b:=b.toNat) (by omega) ((fg+pl).toNat - 1) n (by rw [show (fg+pl).toNat - 1+1=(fg+pl).toNat by omega];exact ov)
   clear en hk1 sn0 l2 l3 ov
   walk_at "rd"
   rw [toNat_natCast]
   refine zAV (by omega) ?_
   have lf1:=QL (b:=b.toNat) (n:=n) (by omega)
   generalize (yB b.toNat n).length=u at lf lf1
   have pm:=Yt (b:=b) o5 o6 u
   have pm':=XI (n:=u) (m:=18) (by omega)
   have p18:(16:Int) ^ 18=4722366482869645213696:=by decide +kernel
   have gb:1<=b ^ u / b:=by
    rw [show b ^ u=b ^ (u - 1)*b by rw [<- pow_succ,show (u - 1).succ=u by omega],Int.mul_ediv_cancel _ (by omega)]
    exact (Yt (b:=b) o5 o6 (u - 1)).1
   walk_at "rd"
   rename_i g hg
   rw [Wv ok.f] at hg
   have hf:fv f<=15:=by unfold fv;split <;> (try split) <;> omega
   rw [toNat_natCast]
   generalize b ^ u=G at *
   walk_at "rd"
   rename_i p1 H1 g1 n1 e1
   obtain ⟨is,li,e1⟩ : ∃ is:List Int,is.length=4/\H1 p1=some (.lst (is.map V.int)):=⟨[_,_,_,_],rfl,e1⟩
   refine qX (SqL.of e1) (qm (by rw [length_map];omega)) (fun i ys H'=>H'=H1/\ys=((is.take i).map fun j=>0 - j).map V.int) ⟨rfl,rfl⟩ (fun i ys H' hi z=>by rw [z.1,z.2];exact ⟨SqL.of e1,by rw [length_map,length_map,length_take];omega⟩) ?_ ?_
   ·rintro i y ys H' hy hi ⟨rfl,rfl⟩
    rw [getElem?_map] at hy
    obtain ⟨j,hj,rfl⟩:=Option.map_eq_some_iff.mp hy
    walk_at "rd"
    exact nxC hi ⟨rfl,by rw [List.take_add_one,hj,map_append,map_append];rfl⟩
   ·rintro ys H' ⟨rfl,rfl⟩ p2 H2 g2 n2 e2
    walk_at "rd"
    rw [length_map,take_length] at e2
    refine zG3 (g2.at e1) e2 (qm (by simp only [length_map];omega)) fun p3 H3 g3 e3=>?_
    rw [<- map_append] at e3
    obtain ⟨js,ej⟩ : ∃ js:List Int,js=is++is.map fun j=>0 - j:=⟨_,rfl⟩
    have lj:js.length=8:=by rw [ej,length_append,length_map];omega
    rw [<- ej] at e3
    walk_at "rd"
    refine qX (SqL.of e3) (qm (by rw [length_map];omega)) (fun i ys H'=>zW H3 H'/\Al (fun v c=>VcN H' v (.num fg pl b sn z m pt wy) c) ys ((js.take i).map .n)) ⟨zW.refl _,.nil⟩ (fun i ys H' hi z=>⟨SqL.of (z.1.at e3),by rw [z.2.len,length_map,length_take];omega⟩) ?_ ?_
    ·rintro i y ys H4 hy hi ⟨g4,al⟩
     rw [getElem?_map] at hy
     obtain ⟨j,hj,rfl⟩:=Option.map_eq_some_iff.mp hy
     walk_at "rd"
     refine KL (by omega) (by omega) fun p5 H5 g5 e5=>?_
     refine nxC hi ⟨g4.trans g5,?_⟩
     rw [List.take_add_one,hj,map_append]
     exact (al.imp fun _ _ h=>h.same g5).app (.one ⟨p5,rfl,e5⟩)
    ·rintro ys H4 ⟨g4,al⟩ p5 H5 g5 n5 e5
     rw [length_map,take_length] at al
     refine q p5 ys _ H5 (g1.trans (g2.trans (g3.trans (g4.trans g5)))) e5 (al.imp fun _ _ h=>h.same g5) (fun c hc=>?_) (by rw [length_map];omega)
     obtain ⟨j,-,rfl⟩:=List.mem_map.mp hc
     exact trivial
 | @word sg lo hi e ok=>cases c with
  | n k=>exact V0.elim
  | t t =>
   cases V0
   have ov:Isw sg lo hi t:=ov
   have tl:=ov.1.2
   have h2:=ok.hi2
   walk_at "rd"
   rename_i l' H' g' n' e'
   have at':Asc t:=(Vok.tx (d:=.word sg lo hi) (c:=.t t) ok ov).1
   have af:Asc [f]:=Asc.one ok.f
   refine q l' _ [.t (t++[f]),.t ([f]++t),.t (t.drop 1),.t (t.take (t.length - 1))] H' g' e' (.cons rfl (.cons rfl (.cons rfl (.cons rfl .nil)))) (fun c hc=>?_) (show 4<=8 by decide)
   simp only [mem_cons,not_mem_nil,or_false] at hc
   rcases hc with rfl | rfl | rfl | rfl
   ·exact ⟨at'.app af,by rw [length_append,length_singleton];omega⟩
   ·exact ⟨af.app at',by rw [length_append,length_singleton];omega⟩
   ·exact ⟨at'.drop _,by rw [length_drop];omega⟩
   ·exact ⟨at'.take _,by rw [length_take];omega⟩
 | @cho L ns e eL ok=>exact absurd rfl (nc ns)
section
variable {K : W.Frag} {H : Hp} {v : V} {l : Addr} {us : List V} {cs : List Vc} {c : Vc} {wd : Int} {f : Nat} {x : Str} {d : Fd} {Q : VK}
theorem zCp (D:okS wd f x d) (e:H l=some (.lst us)) (al:Al (fun v c=>VcN H v d c) us cs) (tb : ∀ c ∈ cs,TxB c):Dt K H (.ref l) (.list (cs.map (vdc d)))/\PyData.canLayAll0 (cs.map (vdc d))=true/\PyData.depthAll (cs.map (vdc d))<=2 /\ ∀ c ∈ cs,Kd d c:=by
 have kd : ∀ c ∈ cs,Kd d c:=fun c hc=>by
  obtain ⟨i,hi⟩:=List.getElem?_of_mem hc
  have hl:=(List.getElem?_eq_some_iff.mp hi).1
  rw [<- al.len] at hl
  obtain ⟨c',h',vc⟩:=al.get (getElem?_eq_getElem hl)
  rw [hi] at h';cases h';exact vc.kd
 have o:=zAI (d:=d) fun c hc=>⟨kd c hc,tb c hc⟩
 exact ⟨.lst (SqL.of e) (zFs al),o.1,o.2,kd⟩
theorem zF0 (D:okS wd f x d) (e:H l=some (.lst us)) (al:Al (fun v c=>VcN H v d c) us cs) (tb : ∀ c ∈ cs,TxB c) (vc:VcN H v d c) (tc:TxB c) (q1:c ∈ cs->Q (.bl false) H) (q2:c ∉ cs->Q (.bl true) H):zF5 K v (.ref l) H Q:=by
 obtain ⟨h1,h2,h3,kd⟩:=zCp (K:=K) D e al tb
 have o:=zAC vc.kd tc
 refine ⟨_,_,zAr vc,h1,h2,o.1,le_trans o.2 (by decide),?_⟩
 have i:=zDN D vc.kd kd
 by_cases hc:c ∈ cs
 ·rw [i.mpr hc];exact q1 hc
 ·rw [Bool.eq_false_iff.mpr fun z=>hc (i.mp z)];exact q2 hc
theorem zIp (D:okS wd f x d) (e:H l=some (.lst us)) (al:Al (fun v c=>VcN H v d c) us cs) (tb : ∀ c ∈ cs,TxB c) (vc:VcN H v d c) (tc:TxB c) (q1:c ∈ cs->Q (.bl true) H) (q2:c ∉ cs->Q (.bl false) H):zJA K v (.ref l) H Q:=by
 obtain ⟨h1,h2,h3,kd⟩:=zCp (K:=K) D e al tb
 have o:=zAC vc.kd tc
 refine ⟨_,_,zAr vc,h1,h2,o.1,le_trans o.2 (by decide),?_⟩
 have i:=zDN D vc.kd kd
 by_cases hc:c ∈ cs
 ·rw [i.mpr hc];exact q1 hc
 ·rw [Bool.eq_false_iff.mpr fun z=>hc (i.mp z)];exact q2 hc
theorem zFh {t:List Nat} (at':Asc t) (a2:Asc (Zb ld (ld++rs) wd f x)) : ∃ d',Dt K H (txV wd f x st ld rs) d'/\d'.canLay0=true/\d'.depth<=2/\(d'.eqv (sD t)=true↔(st && decide (wd < ((ld++rs).length:Int)))=false/\Zb ld (ld++rs) wd f x=t):=by
 unfold txV
 cases hc:(st && decide (wd < ((ld++rs).length:Int))) with
 | true=>exact ⟨.none,.non,by simp [PyData.canLay0],by simp [PyData.depth],⟨fun z=>by simp [sD,PyData.eqv] at z,fun z=>nomatch z.1⟩⟩
 | false =>
  refine ⟨sD (Zb ld (ld++rs) wd f x),.str _,by simp [sD,PyData.canLay0,zIY a2],by simp [sD,PyData.depth],?_⟩
  unfold sD
  rw [show (PyData.str (T (Zb ld (ld++rs) wd f x))).eqv (.str (T t))=(T (Zb ld (ld++rs) wd f x) == T t) by simp [PyData.eqv],beq_iff_eq]
  exact ⟨fun h=>⟨rfl,zFK h⟩,fun h=>by rw [h.2]⟩
theorem zHn {t:List Nat} (D:okS wd f x d) (o:Vok d c) (at':Asc t) : ∃ d',Dt K H (txV wd f x st (pr d c).1 (pr d c).2) d'/\d'.canLay0=true/\d'.depth<=2/\(d'.eqv (sD t)=true↔Tld wd f x st t d c):=by
 obtain ⟨l1,l2,a1,a2⟩:=o.ok D
 have b:XS x/\0<=wd/\wd<=40/\f < 127:=by
  cases d with
  | num fg pl b sn z m pt wy=>have k:QF fg pl b sn z m pt wy wd f x:=D;exact ⟨k.x,k.wd1,k.wd2,k.f⟩
  | word sg lo hi=>have k:WdS sg lo hi wd f x:=D;exact ⟨.inl k.x,k.wd1,k.wd2,k.f⟩
  | cho ns=>have k:ChS ns wd f x:=D;exact ⟨.inl k.x,k.wd1,k.wd2,k.f⟩
 obtain ⟨d',h1,h2,h3,h4⟩:=zFh (K:=K) (H:=H) (st:=st) at' (Wf b.1 b.2.1 b.2.2.1 b.2.2.2 l1 l2 a1 a2).1
 exact ⟨d',h1,h2,h3,h4.trans ⟨fun z=>⟨o,z⟩,fun z=>z.2⟩⟩
theorem zFV {t:List Nat} (h:Asc t):(sD t).canLay0=true:=by simp [sD,PyData.canLay0,zIY h]
theorem zJ1 {p:Prop} [Decidable p] {A B:Prop} (ha:p->B->A) (hb:B):if p then A else B:=by
 split
 ·exact ha ‹_› hb
 ·exact hb
theorem zIn {p:Prop} [Decidable p] {A:Prop} {B:Hp->Prop} (ha:p->(∀ H',zW H H'->B H')->A) (hb : ∀ H',zW H H'->B H'):if p then A else B H:=by
 split
 ·exact ha ‹_› hb
 ·exact hb _ (zW.refl _)
theorem zIk (n:Nat):(PyData.str (kw n)).canLay0=true:=by
 unfold kw
 split
 ·decide +kernel
 ·split
  ·decide +kernel
  ·decide +kernel
theorem zGc {ds:List PyData} {n:Nat} (h1:PyData.canLayAll0 ds=true) (h2:PyData.depthAll ds<=2):(PyData.tuple [.str (kw n),.list ds]).canLay0=true/\(PyData.tuple [.str (kw n),.list ds]).depth<=18:=by
 have k:=zIk n
 constructor
 ·rw [PyData.canLay0,PyData.canLayAll0,PyData.canLayAll0,PyData.canLayAll0,k,PyData.canLay0,h1];rfl
 ·simp only [PyData.depth,PyData.depthAll];omega
open PySem.Spec PyProof.Rows in
theorem zGz {p' l':Addr} {n:Nat} {ds:List PyData} (e:H p=some (.tup [.str (kw n),.ref l])) (e':H p'=some (.tup [.str (kw n),.ref l'])) (h:Dt K H (.ref l) (.list ds)) (h':Dt K H (.ref l') (.list ds)) (h1:PyData.canLayAll0 ds=true) (h2:PyData.depthAll ds<=2) (q:Q (.bl true) H):zJX K (.ref p) (.ref p') H Q:=by
 have dk:=zGc (n:=n) h1 h2
 refine ⟨_,_,.tup (SqT.of e) (.cons (.str _) (.cons h .nil)),.tup (SqT.of e') (.cons (.str _) (.cons h' .nil)),dk.1,dk.1,dk.2,?_⟩
 rw [SeqAt.eqv_refl _ dk.1]
 exact q
theorem zJw (xs:List V):zBA xs (some 1) none=xs.drop 1:=by
 cases xs with
 | nil=>rfl
 | cons a xs=>simp [zBA,HT.sIx]
def kn:Fd->Str
 | .num _ _ _ _ _ _ _ _ => "number"
 | .word _ _ _ => "word"
 | .cho _ => "choice"
theorem zJl (S:xk H p wd f x st d) (q:Q (.str (kn d)) H):zCD K (.ref p) (.int 0) H Q:=by
 cases S with
 | num e ok=>exact kG e rfl q
 | word e ok=>exact kG e rfl q
 | cho e eL ok=>exact kG e rfl q
end
def kS (K:W.Frag):Sp:=fun vs H Q _=>∃ (l p:Addr) (t:List Nat) (wd:Int) (f:Nat) (x:Str) (st:Bool) (d:Fd) (us:List V) (cs:List Vc),vs=[.ref l,.ref p,.str (T t)]/\xk H p wd f x st d/\(∀ ns,d ≠ .cho ns)/\Asc t/\H l=some (.lst us)/\Al (fun v c=>VcN H v d c) us cs/\WS wd f x st t d cs /\ ∀ H',zW H H'->Q (.bl true) H'
theorem Ws {l:Addr} {t:List Nat} {f:Nat} (h1:xk H p wd f x st d) (h2 : ∀ ns,d ≠ .cho ns) (h3:Asc t) (h4:H l=some (.lst us)) (h5:Al (fun v c=>VcN H v d c) us cs) (h6:WS wd f x st t d cs) (q : ∀ H',zW H H'->Q (.bl true) H'):kS K ([.ref l,.ref p,.str (T t)]++[]) H Q E:=⟨l,p,t,wd,f,x,st,d,us,cs,rfl,h1,h2,h3,h4,h5,h6,q⟩
include Z in
theorem XT:Has P w K mg base "_law_is_full" 6 ["_law_told", "_law_spec_here", "_law_text_here"] (kS K):=by
 refine jm Z.kn Z.bL (l3N (by intros;rfl)) fun fq fd F=>?_
 refine F.ok xh (fun vs H Q E=>?_) (fun _ _ _ s H vs Q E hr h=>?_)
 ·walk_at "ln"
 obtain ⟨l,p,t,wd,f,x,st,d,us,cs,rfl,S0,nc,at',el,al,td,q⟩:=h
 refine ⟨_,zC (xx PassesOwn.never rfl (jS (pv 0)) (zg (i:=3) xh.nd rfl (Or.inl rfl)) (zE (xx PassesOwn.never rfl (jS (zF (K0 Z) hr rfl (zA (pv 3) (zA (pv 1) (zD))))) (zg (i:=4) xh.nd rfl (Or.inl rfl)) (zE (zm (PW.pt (yU (zQ (zA6 (zC1 hr)) (pv 4) (pv 0) (by with_unfolding_all rfl)) (yU (qc (zF (kM Z) hr rfl (zA (pv 4) (zA (pv 1) (zD))))) (xH (zQ (zA2 (zC1 hr)) (zF (ZX Z) hr rfl (zA (pv 4) (zA (pv 1) (zD)))) (pv 2) (zU _)))))) (zE (zK (yJ))) (zV))))))
  (zE (zK (yJ))),?_⟩
 walk_at "st"
 have ok:=S0.okS
 have tb : ∀ c ∈ cs,TxB c:=fun c hc=>((td.mem c).mp hc).1.tx ok
 walk_at "rd"
 refine JT (SqL.of el) (fun i σ H'=>zW H H' /\ ∃ a b,σ=[some (.ref l),some (.ref p),some (.str (T t)),a,b]) ⟨zW.refl _,_,_,rfl⟩ (fun i σ H' hi z=>SqL.of (z.1.at el)) ?_ ?_
 ·rintro i v σ H1 hv ⟨g1,a,b,rfl⟩
  obtain ⟨c,hc,vc⟩:=al.get hv
  have tc:=(td.mem c).mp (mem_of_getElem? hc)
  walk_at "rd"
  refine zFc (S0.same g1) (vc.same g1) tc.1 nc fun l2 us2 ns2 H2 g2 e2 al2 tb2 ln2=>?_
  walk_at "rd"
  refine JT (SqL.of e2) (fun i σ H'=>zW H2 H' /\ ∃ b,σ=[some (.ref l),some (.ref p),some (.str (T t)),some v,b]) ⟨zW.refl _,_,rfl⟩ (fun i σ H' hi z=>SqL.of (z.1.at e2)) ?_ ?_
  ·rintro j v' σ H3 hv' ⟨g3,b',rfl⟩
   obtain ⟨c',hc',vc'⟩:=al2.get hv'
   have g03:=g1.trans (g2.trans g3)
   have tc':=tb2 c' (mem_of_getElem? hc')
   walk_at "rd"
   refine zF0 ok (g03.at el) (al.imp fun _ _ h=>h.same g03) tb (vc'.same g3) tc' (fun hm=>?_) (fun hm=>?_)
   ·walk_at "rd"
    exact ⟨g3,_,rfl⟩
   ·walk_at "rd"
    refine Jn (S0.same g03) (vc'.same g3) tc' (fun ov H4 g4=>?_) (fun ov H4 g4=>?_)
    ·walk_at "rd"
     refine zAd (S0.same (g03.trans g4)) ((vc'.same (g3.trans g4)).vl ov) fun H5 g5=>?_
     walk_at "rd"
     obtain ⟨d',h1,h2,h3,h4⟩:=zHn (K:=K) (H:=H5) (st:=st) ok ov at'
     refine ⟨d',sD t,h1,.str _,h2,zFV at',le_trans h3 (by decide),?_⟩
     rw [Bool.eq_false_iff.mpr fun z=>hm ((td.mem c').mpr (h4.mp z))]
     walk_at "rd"
     exact ⟨g3.trans (g4.trans g5),_,rfl⟩
    ·walk_at "rd"
     exact ⟨g3.trans g4,_,rfl⟩
  ·rintro σ H3 ⟨g3,b',rfl⟩
   exact ⟨g1.trans (g2.trans g3),_,_,rfl⟩
 ·rintro σ H1 ⟨g1,a,b,rfl⟩
  walk_at "rd"
  exact q _ g1
def JP (K:W.Frag) (cN cW cC:Addr):Sp:=fun vs H Q _=>∃ (o p:Addr) (t:List Nat) (v:V) (wd:Int) (f:Nat) (x:Str) (st:Bool) (d:Fd),vs=[.ref o,.ref p,.str (T t),v]/\Je K H o cN cW cC wd f x st d/\xk H p wd f x st d/\Asc t/\t.length<=300/\(v = .non \/ ∃ c,VcN H v d c/\Tld wd f x st t d c) /\ ∀ H',zW H H'->Q (.bl true) H'
theorem Wq {t:List Nat} {f:Nat} (h1:Je K H o cN cW cC wd f x st d) (h2:xk H p wd f x st d) (h3:Asc t) (h4:t.length<=300) (h5:v = .non \/ ∃ c,VcN H v d c/\Tld wd f x st t d c) (q : ∀ H',zW H H'->Q (.bl true) H'):JP K cN cW cC ([.ref o,.ref p,.str (T t),v]++[]) H Q E:=⟨o,p,t,v,wd,f,x,st,d,rfl,h1,h2,h3,h4,h5,q⟩
include Z in
theorem Ju:Has P w K mg base "_law_good" 10 ["_law_form_here", "_law_spec_here", "_law_text_here", "_law_value_here"] (JP K zH zP zN):=by
 refine jm Z.kn Z.bM (l4N (by intros;rfl)) fun fq fd F=>?_
 refine F.ok jC (fun vs H Q E=>?_) (fun _ _ _ s H vs Q E hr h=>?_)
 ·walk_at "ln"
 obtain ⟨o,p,t,v,wd,f,x,st,d,rfl,D0,S0,at',tl,V0,q⟩:=h
 refine ⟨_,zC (zJ (i:=4) jC.nd rfl (Or.inl rfl) (yV (zo (ZJ (z9 Z) in0) Z.bY qj hr (pv 0) (zA (pv 2) (zD))) (yV (zo (ZJ (qL Z) in0) Z.b1 qj hr (pv 0) (zA (pv 2) (zD))) (zo (ZJ (qA Z) in0) Z.b4 qj hr (pv 0) (zA (pv 2) (zD))))))
  (zC (zm (PW.pt (ZD (qw (qc (zI xA Z.ao rfl z8 (zA (pv 4) (zA (yO rfl Z.ax ZP (v:=.ty "list") rfl) (zD)))))) (yj (PW.pt (yU (zQ V2 (pv 3) (wR) (zU _)) (xH (zQ (zA6 (zC1 hr)) (pv 3) (pv 4) (by with_unfolding_all rfl)))))))) (zE (zK (yJ))) (zV))
  (zC (xx PassesOwn.never rfl (jS (pv 4)) (zg (i:=5) jC.nd rfl (Or.inl rfl)) (zE (zm (PW.pt (ZD (qw (qc (zF (kM Z) hr rfl (zA (pv 5) (zA (pv 1) (zD)))))) (yj (zQ (zHm (zC1 hr)) (zF (ZX Z) hr rfl (zA (pv 5) (zA (pv 1) (zD)))) (pv 2) (zU _))))) (zE (zK (yJ))) (zV))))
  (zC (xx PassesOwn.never rfl (zGZ rfl Z.aB (zA (pv 4) (zA (zj Y3 (pv 4) (zh (zB)) (qO)) (zD)))) (JI rfl (zv (zg (i:=5) jC.nd rfl (Or.inl rfl)) (zv (zg (i:=6) jC.nd rfl (Or.inl rfl)) (ky)))) (zE (zm (qw (qc (zF (VZ Z) hr rfl (zA (pv 5) (zA (pv 6) (zA (pv 1) (zD))))))) (zE (zK (yJ))) (zV))))
  (zC (zm (PW.pt (yU (zQ QY (zR zT (pv 1) (zB) (fun _ _=>rfl)) (zY) (zU _)) (xH (qw (qc (zF (XT Z) hr rfl (zA (pv 4) (zA (pv 1) (zA (pv 2) (zD)))))))))) (zE (zK (yJ))) (zV))
  (zC (zJ (i:=7) jC.nd rfl (Or.inl rfl) (y1 xM rfl Z.ax ZP (zA (pv 4) (zD))))
  (zC (jo (We PySem.F.plainAttrs_list PySem.F.slot_list_clear PySem.F.type_list_clear KF (pv 4)))
  (zC (zm (zQ (zHV (zC1 hr)) (yV (zo (ZJ (z9 Z) in0) Z.bY qj hr (pv 0) (zA (pv 2) (zD))) (yV (zo (ZJ (qL Z) in0) Z.b1 qj hr (pv 0) (zA (pv 2) (zD))) (zo (ZJ (qA Z) in0) Z.b4 qj hr (pv 0) (zA (pv 2) (zD))))) (pv 7) (zU _)) (zE (zK (yJ))) (zV))
  (zC (zJ (i:=8) jC.nd rfl (Or.inl rfl) (qh (zA (zR zi (zt (zA (zY) (zA (zY) (zA (zY) (zD))))) (zI (xm rfl) Z.ar rfl Xw (zA (zB) (zA (zI jg Z.am rfl z4 (zA (pv 7) (zD))) (zD)))) (fun _ _=>rfl)) (zA (pv 7) (zD)))))
  (zE (zK (Qo (qY (zA2 (zC1 hr)) (zF (Z4 Z) hr rfl (zA (pv 0) (zA (pv 2) (zD)))) (pv 8) (zU _)) (Q9 (zIe (qY ZZ (zI jg Z.am rfl z4 (zA (pv 7) (zD))) (zB) (zU _)) (Q9 (qY (zA2 (zC1 hr)) (zF (Z4 Z) hr rfl (zA (pv 0) (zA (pv 2) (zD)))) (pv 8) (zU _)))))))))))))))),?_⟩
 walk_at "st"
 walk_at "rd"
 have ok:=D0.okS
 refine V9 D0 at' tl (fun Q' h=>by walk_at "rd"; exact h) (fun Q' h=>by walk_at "rd"; exact h) fun l H1 us cs g1 n1 e1 al td=>?_
 have tb : ∀ c ∈ cs,TxB c:=fun c hc=>((td.mem c).mp hc).1.tx ok
 walk_at "rd"
 refine ⟨rfl,_,rfl,zJ1 (fun hv hb=>?_) ?_⟩
 ·rcases V0 with rfl | ⟨c0,vc0,tc0⟩
  ·simp at hv
  ·walk_at "rd"
   exact zF0 ok e1 al tb (vc0.same g1) (tc0.1.tx ok) (fun _=>⟨false,rfl,hb⟩) (fun hm=>absurd ((td.mem c0).mpr tc0) hm)
 walk_at "rd"
 refine JT (SqL.of e1) (fun i σ H'=>zW H1 H' /\ ∃ a,σ=[some (.ref o),some (.ref p),some (.str (T t)),some v,some (.ref l),a,none,none,none]) ⟨zW.refl _,_,rfl⟩ (fun i σ H' hi z=>SqL.of (z.1.at e1)) ?_ ?_
 ·rintro i u σ H2 hu ⟨g2,a,rfl⟩
  obtain ⟨c,hc,vc⟩:=al.get hu
  have tc:=(td.mem c).mp (mem_of_getElem? hc)
  walk_at "rd"
  refine Jn (S0.same (g1.trans g2)) (vc.same g2) (tc.1.tx ok) (fun ov H3 g3=>?_) (fun ov=>absurd tc.1 ov)
  walk_at "rd"
  refine zAd (S0.same (g1.trans (g2.trans g3))) ((vc.same (g2.trans g3)).vl ov) fun H4 g4=>?_
  walk_at "rd"
  obtain ⟨d',h1,h2,h3,h4⟩:=zHn (K:=K) (H:=H4) (st:=st) ok ov at'
  refine ⟨d',sD t,h1,.str _,h2,zFV at',le_trans h3 (by decide),?_⟩
  rw [h4.mpr tc]
  walk_at "rd"
  exact ⟨g2.trans (g3.trans g4),_,rfl⟩
 ·rintro σ H2 ⟨g2,a,rfl⟩
  walk_at "rd"
  rename_i l3 H3 g3 e3
  rw [zJw] at e3
  have e1':=(g2.trans g3).at e1
  refine zE1 e1' e3 (by rw [length_drop];omega) (fun i σ H'=>zW H3 H' /\ ∃ a b,σ=[some (.ref o),some (.ref p),some (.str (T t)),some v,some (.ref l),a,b,none,none]) ⟨zW.refl _,_,_,rfl⟩ (fun i σ H' hi z=>⟨z.1.at e1',z.1.at e3⟩) ?_ ?_
  ·rintro i u w' tt σ H4 H5 hu hw ⟨g4,a,b,rfl⟩ g5 e5
   have g15:=g2.trans (g3.trans (g4.trans g5))
   rw [List.getElem?_drop] at hw
   obtain ⟨c,hc,vc⟩:=al.get hu
   obtain ⟨c',hc',vc'⟩:=al.get hw
   walk_at "rd"
   refine zDl (S0.same (g1.trans g15)) (vc.same g15) (vc'.same g15) ?_ ?_
   ·obtain ⟨i1,j1⟩:=List.getElem?_eq_some_iff.mp hc
    obtain ⟨i2,j2⟩:=List.getElem?_eq_some_iff.mp hc'
    rw [<- j1,<- j2]
    exact List.pairwise_iff_getElem.mp td.up _ _ i1 i2 (by omega)
   ·walk_at "rd"
    exact ⟨g4.trans g5,_,_,rfl⟩
  ·rintro σ H4 ⟨g4,a,b,rfl⟩
   have g14:=g2.trans (g3.trans g4)
   walk_at "rd"
   refine zJl (S0.same (g1.trans g14)) ?_
   refine ⟨rfl,_,rfl,?_⟩
   apply zIn (H:=H4)
   ·intro hv hb
    have nc : ∀ ns,d ≠ .cho ns:=fun ns z=>by rw [z] at hv;simp [kn] at hv
    walk_at "rd"
    exact Ws (S0.same (g1.trans g14)) nc at' (g14.at e1) (al.imp fun _ _ h=>h.same g14) td fun H5 g5=>⟨true,rfl,hb H5 g5⟩
   intro H5 g5
   have g15:=g14.trans g5
   have e15:=g15.at e1
   walk_at "rd"
   rename_i l6 H6 g6 n6 e6
   refine zAN (g6.at e15) ?_
   have s6:zW H (upd H6 l (.lst [])):=fun b o e=>by rw [ze (za e n1)];exact (g1.trans (g15.trans g6)).at e
   have e6':upd H6 l (.lst []) l6=some (.lst us):=by rw [ze (za e15 n6).symm];exact e6
   have al6:Al (fun v c=>VcN (upd H6 l (.lst [])) v d c) us cs:=al.imp fun _ _ h=>(h.same (g15.trans g6)).clear (g6.at e15)
   generalize upd H6 l (.lst [])=H7 at *
   walk_at "rd"
   refine V9 (D0.same s6) at' tl (fun Q' h=>by walk_at "rd"; exact h) (fun Q' h=>by walk_at "rd"; exact h) fun l8 H8 us8 cs8 g8 n8 e8 al8 td8=>?_
   cases WS.eq ok td td8
   obtain ⟨h1,h2,h3,kd⟩:=zCp (K:=K) ok (g8.at e6') (al6.imp fun _ _ h=>h.same g8) tb
   obtain ⟨h1',-⟩:=zCp (K:=K) ok e8 al8 tb
   walk_at "rd"
   refine zIN h1' h1 (by rw [PyData.canLay0];exact h2) (by rw [PyData.depth];omega) ?_
   walk_at "rd"
   rename_i l9 H9 g9 n9 e9 k9 hk9
   have ln:=al.len
   refine ZT (SqL.of e9) (by omega) (by show k9 < 3;omega) fun y hy=>?_
   obtain rfl:y = .str (kw cs.length):=by
    unfold kw
    rw [<- ln]
    by_cases h0:us.length=0
    ·rw [if_pos h0];rw [show k9=0 by omega] at hy;exact (Option.some.inj hy).symm
    ·by_cases h1:us.length=1
     ·rw [if_neg h0,if_pos h1];rw [show k9=1 by omega] at hy;exact (Option.some.inj hy).symm
     ·rw [if_neg h0,if_neg h1];rw [show k9=2 by omega] at hy;exact (Option.some.inj hy).symm
   walk_at "rd"
   rename_i p10 H10 g10 e10
   have g810:=g9.trans g10
   have s10:=s6.trans (g8.trans g810)
   refine Vt (D0.same s10) at' tl fun cs' p11 l11 us11 H11 td11 g11 e11 e11' al11=>?_
   cases WS.eq ok td td11
   obtain ⟨h4,-⟩:=zCp (K:=K) ok e11' al11 tb
   have g611:=g8.trans (g810.trans g11)
   obtain ⟨h5,-⟩:=zCp (K:=K) ok (g611.at e6') (al6.imp fun _ _ h=>h.same g611) tb
   walk_at "rd"
   refine zGz e11 (g11.at e10) h4 h5 h2 h3 ?_
   walk_at "rd"
   ·exact q _ (s10.trans g11)
   ·refine Vt (D0.same (s10.trans g11)) at' tl fun cs' p12 l12 us12 H12 td12 g12 e12 e12' al12=>?_
    cases WS.eq ok td td12
    obtain ⟨h4,-⟩:=zCp (K:=K) ok e12' al12 tb
    have g612:=g611.trans g12
    obtain ⟨h5,-⟩:=zCp (K:=K) ok (g612.at e6') (al6.imp fun _ _ h=>h.same g612) tb
    walk_at "rd"
    exact zGz e12 ((g11.trans g12).at e10) h4 h5 h2 h3 (q _ (s10.trans (g11.trans g12)))
def w6 (K:W.Frag):Sp:=fun vs H Q _=>∃ (c:Int) (t:List Nat),vs=[.int c,.str (T t)]/\Asc t/\t.length<=299 /\ ∀ l ts H',zW H H'->H' l=some (.lst (tsV ts))->ts.length=3->(∀ u ∈ ts,Asc u/\u.length<=300)->Q (.ref l) H'
theorem V3 {t:List Nat} (h1:Asc t) (h2:t.length<=299) (q : ∀ l ts H',zW H H'->H' l=some (.lst (tsV ts))->ts.length=3->(∀ u ∈ ts,Asc u/\u.length<=300)->Q (.ref l) H'):w6 K ([.int c,.str (T t)]++[]) H Q E:=⟨c,t,rfl,h1,h2,q⟩
include Z in
theorem X1:Has P w K mg base "_law_spoilt" 3 ["_law_cell", "_law_text_here"] (w6 K):=by
 refine jm Z.kn Z.bN (l2N (by intros;rfl)) fun fq fd F=>?_
 refine F.ok yM (fun vs H Q E=>?_) (fun _ _ _ s H vs Q E hr h=>?_)
 ·walk_at "ln"
 obtain ⟨c,t,rfl,at',tl,q⟩:=h
 refine ⟨_,zC (zJ (i:=2) yM.nd rfl (Or.inl rfl) (zF (zL Z) hr rfl (zA (pv 0) (zA (zB) (zA (zM zp (zI zd Z.am rfl z4 (zA (pv 1) (zD))) (zB)) (zD))))))
  (zC (zJ (i:=3) yM.nd rfl (Or.inl rfl) (zF (xB Z) hr rfl (zA (pv 0) (zA (zB) (zD)))))
  (zE (zK (zt (zA (zM zk (zM zk (zj jH (pv 1) (qO) (zh (pv 2))) (pv 3)) (zj jH (pv 1) (zh (zM zp (pv 2) (zB))) (qO))) (zA (zM zk (zj jH (pv 1) (qO) (zh (pv 2))) (zj jH (pv 1) (zh (zM zp (pv 2) (zB))) (qO))) (zA (zM zk (zM zk (zj jH (pv 1) (qO) (zh (pv 2))) (pv 3)) (zj jH (pv 1) (zh (pv 2)) (qO))) (zD)))))))),?_⟩
 walk_at "st"
 walk_at "rd"
 rename_i i h0 h1 c hc l H' g n e
 have a1:=Asc.one hc
 refine q l [t.take i.toNat++[c]++t.drop (i+1).toNat,t.take i.toNat++t.drop (i+1).toNat,t.take i.toNat++[c]++t.drop i.toNat] H' g e rfl fun u hu=>?_
 simp only [mem_cons,not_mem_nil,or_false] at hu
 rcases hu with rfl | rfl | rfl
 ·exact ⟨((at'.take _).app a1).app (at'.drop _),by simp only [length_append,length_take,length_drop,length_singleton];omega⟩
 ·exact ⟨(at'.take _).app (at'.drop _),by simp only [length_append,length_take,length_drop];omega⟩
 ·exact ⟨((at'.take _).app a1).app (at'.drop _),by simp only [length_append,length_take,length_drop,length_singleton];omega⟩
theorem okS.f {f:Nat} (D:okS wd f x d):f < 127:=by
 cases d with
 | num fg pl b sn z m pt wy=>have k:QF fg pl b sn z m pt wy wd f x:=D;exact k.f
 | word sg lo hi=>have k:WdS sg lo hi wd f x:=D;exact k.f
 | cho ns=>have k:ChS ns wd f x:=D;exact k.f
def KI (K:W.Frag):Sp:=fun vs H Q _=>∃ (a:Addr) (ns:List Int),vs=[.ref a]/\SqL K H a (ns.map V.int)/\ns.length<=63 /\ ∀ H',Q (.bl true) H'
include Z in
theorem zFt {fq:Addr} {fd:FuncData} (F:Fun K "law" "law" Yw fq fd):xG P w K mg base CX0 11 fq fd ["_law_script"] (KI K):=by
 refine F.ok y3 (fun vs H Q E=>?_) (fun _ _ _ s H vs Q E hr h=>?_)
 ·walk_at "ln"
 obtain ⟨a,ns,rfl,hS,h63,k⟩:=h
 refine ⟨_,zC (zJ (i:=1) y3.nd rfl (Or.inl rfl) (zF (WI Z) hr rfl (zA (pv 0) (zA (zB) (zD)))))
  (zC (zJ (i:=2) y3.nd rfl (Or.inl rfl) (zF (K1 Z) hr rfl (zA (pv 1) (zD))))
  (zC (xx PassesOwn.never rfl (Xz rfl Z.an (zA (zB) (zA (zI (x9 rfl) Z.aq rfl YX (zA (zB) (zA (zI (xm rfl) Z.ar rfl Xw (zA (zI jg Z.am rfl z4 (zA (pv 0) (zD))) (zA (zB) (zD)))) (zD)))) (zD)))) (zg (i:=3) y3.nd rfl (Or.inl rfl)) (zC (zJ (i:=4) y3.nd rfl (Or.inl rfl) (zF (j6 Z) hr rfl (zA (pv 0) (zA (pv 3) (zD)))))
  (zC (zJ (i:=5) y3.nd rfl (Or.inl rfl) (zF (VA Z) hr rfl (zA (pv 4) (zA (pv 1) (zD)))))
  (zC (zJ (i:=6) y3.nd rfl (Or.inl rfl) (zF (ZX Z) hr rfl (zA (pv 5) (zA (pv 1) (zD)))))
  (zC (zm (zQ zDv (pv 6) (wR) (zU _)) (zC (Jv (zF (kO Z) hr rfl (zA (pv 5) (zA (pv 1) (zD)))) (JI rfl (zv (zg (i:=7) y3.nd rfl (Or.inl rfl)) (zv (zg (i:=8) y3.nd rfl (Or.inl rfl)) (ky)))))
  (zC (zm (zQ (zEY (zC1 hr)) (pv 5) (yV (zo (ZJ (z9 Z) in0) Z.bY qj hr (pv 2) (zA (zM zk (pv 7) (pv 8)) (zD))) (yV (zo (ZJ (qL Z) in0) Z.b1 qj hr (pv 2) (zA (zM zk (pv 7) (pv 8)) (zD))) (zo (ZJ (qA Z) in0) Z.b4 qj hr (pv 2) (zA (zM zk (pv 7) (pv 8)) (zD))))) (by with_unfolding_all rfl)) (zE (zK (yJ))) (zV))
  (zE (zJ (i:=6) y3.nd rfl (Or.inl rfl) (zM zk (pv 7) (pv 8)))))) (zE (zm (qw (qc (zF (Ju Z) hr rfl (zA (pv 2) (zA (pv 1) (zA (pv 6) (zA (pv 5) (zD)))))))) (zE (zK (yJ))) (zV))))
  (zE (xx PassesOwn.never rfl (jS (zF (X1 Z) hr rfl (zA (pv 4) (zA (pv 6) (zD))))) (zg (i:=9) y3.nd rfl (Or.inl rfl)) (zE (zm (qw (qc (zF (Ju Z) hr rfl (zA (pv 2) (zA (pv 1) (zA (pv 9) (zA (wR) (zD)))))))) (zE (zK (yJ))) (zV))))))))))
  (zE (zK (yJ))))),?_⟩
 walk_at "st"
 walk_at "rd"
 refine zGe hS h63 fun p H1 wd f x st d g1 S1=>?_
 walk_at "rd"
 refine zG7 S1 fun o H2 g2 D2=>?_
 have hS2:=(g1.trans g2).seq hS
 have S2:=S1.same g2
 have ok:=S2.okS
 obtain ⟨_,_,_,sx,w0,w1⟩:=D2.bd
 walk_at "rd"
 rename_i j hj i hi
 refine KC (by omega) (fun i σ H'=>zW H2 H' /\ ∃ s3 s4 s5 s6 s7 s8 s9,σ=[some (.ref a),some (.ref p),some (.ref o),s3,s4,s5,s6,s7,s8,s9]) ⟨zW.refl _,_,_,_,_,_,_,_,rfl⟩ ?_ ?_
 ·rintro i σ H3 hi ⟨g3,s3,s4,s5,s6,s7,s8,s9,rfl⟩
  have hS3:=g3.seq hS2
  walk_at "rd"
  refine zEf (S2.same g3) fun v H4 ld rs g4 vl=>?_
  obtain ⟨c,vc,ov,rfl,rfl⟩:=vl.vc
  obtain ⟨l1,l2,a1,a2⟩:=ov.ok ok
  have g24:=g3.trans g4
  walk_at "rd"
  refine zAd (S2.same g24) vl fun H5 g5=>?_
  have nk:=Wf (f:=f) sx w0 w1 (okS.f ok) l1 l2 a1 a2
  unfold txV
  cases hw:(st && decide (wd < (((pr d c).1++(pr d c).2).length:Int))) with
  | true =>
   rw [if_pos rfl]
   walk_at "rd"
   refine Q4 (S2.same (g24.trans g5)) (vc.same g5 |>.vl ov) fun q6 H6 g6 e6=>?_
   have g26:=g24.trans (g5.trans g6)
   walk_at "rd"
   refine V9 (D2.same g26) (a1.app a2) (by rw [length_append];omega) (fun Q' h=>by walk_at "rd"; exact h) (fun Q' h=>by walk_at "rd"; exact h) fun l7 H7 us cs g7 n7 e7 al7 td7=>?_
   walk_at "rd"
   refine zIp ok e7 al7 (fun c hc=>((td7.mem c).mp hc).1.tx ok) (vc.same (g5.trans (g6.trans g7))) (ov.tx ok) (fun hm=>?_) (fun _=>?_)
   ·have:=((td7.mem c).mp hm).2.1
    rw [hw] at this;cases this
   ·walk_at "rd"
    refine V3 (a1.app a2) (by rw [length_append];omega) fun l8 ts H8 g8 e8 l3 hts=>?_
    have g28:=g26.trans (g7.trans g8)
    walk_at "rd"
    refine JT (SqL.of e8) (fun i σ H'=>zW H8 H' /\ ∃ s3 s4 s5 s6 s7 s8 s9,σ=[some (.ref a),some (.ref p),some (.ref o),s3,s4,s5,s6,s7,s8,s9]) ⟨zW.refl _,_,_,_,_,_,_,_,rfl⟩ (fun i σ H' hi z=>SqL.of (z.1.at e8)) ?_ ?_
    ·rintro i u σ H9 hu ⟨g9,s3,s4,s5,s6,s7,s8,s9,rfl⟩
     unfold tsV at hu
     rw [getElem?_map] at hu
     obtain ⟨u,hu2,rfl⟩:=Option.map_eq_some_iff.mp hu
     obtain ⟨k1,k2⟩:=hts u (mem_of_getElem? hu2)
     walk_at "rd"
     refine Wq (D2.same (g28.trans g9)) (S2.same (g28.trans g9)) k1 k2 (.inl rfl) fun H10 g10=>?_
     walk_at "rd"
     exact ⟨g9.trans g10,_,_,_,_,_,_,_,rfl⟩
    ·rintro σ H9 ⟨g9,s3,s4,s5,s6,s7,s8,s9,rfl⟩
     exact ⟨g28.trans g9,_,_,_,_,_,_,_,rfl⟩
  | false =>
   rw [if_neg Bool.false_ne_true]
   walk_at "rd"
   refine Wq (D2.same (g24.trans g5)) (S2.same (g24.trans g5)) nk.1 (by omega) (.inr ⟨c,vc.same g5,ov,hw,rfl⟩) fun H6 g6=>?_
   walk_at "rd"
   refine V3 nk.1 (by omega) fun l8 ts H8 g8 e8 l3 hts=>?_
   have g28:=g24.trans (g5.trans (g6.trans g8))
   walk_at "rd"
   refine JT (SqL.of e8) (fun i σ H'=>zW H8 H' /\ ∃ s3 s4 s5 s6 s7 s8 s9,σ=[some (.ref a),some (.ref p),some (.ref o),s3,s4,s5,s6,s7,s8,s9]) ⟨zW.refl _,_,_,_,_,_,_,_,rfl⟩ (fun i σ H' hi z=>SqL.of (z.1.at e8)) ?_ ?_
   ·rintro i u σ H9 hu ⟨g9,s3,s4,s5,s6,s7,s8,s9,rfl⟩
    unfold tsV at hu
    rw [getElem?_map] at hu
    obtain ⟨u,hu2,rfl⟩:=Option.map_eq_some_iff.mp hu
    obtain ⟨k1,k2⟩:=hts u (mem_of_getElem? hu2)
    walk_at "rd"
    refine Wq (D2.same (g28.trans g9)) (S2.same (g28.trans g9)) k1 k2 (.inl rfl) fun H10 g10=>?_
    walk_at "rd"
    exact ⟨g9.trans g10,_,_,_,_,_,_,_,rfl⟩
   ·rintro σ H9 ⟨g9,s3,s4,s5,s6,s7,s8,s9,rfl⟩
    exact ⟨g28.trans g9,_,_,_,_,_,_,_,rfl⟩
 ·rintro σ H3 ⟨g3,s3,s4,s5,s6,s7,s8,s9,rfl⟩
  walk_at "rd"
  exact k _
end
theorem all_mk {l:W.OpenLaw} {w:World} {K:W.Frag} {mg:Str->Option Value} {fa xC zl zw qI qQ qb zZ kK zH zP zN j5:Addr} {y7 ji qx:Tok} (hfa:mg "law" = some (.ref fa)) (Z:Zs w K mg xC zl zw qI qQ qb zZ kK zH zP zN j5 y7 ji qx) :
  ∃ fd:FuncData,(∀ (s:Shared) (v:Value),BindsTo s fd ⟨[v],[]⟩ [("_law_script", v)]) /\ ∀ base:Heap,K.In base->base.Ns mainGlobals mg->xG l.prog w K mg base CX0 11 fa fd ["_law_script"] (KI K):=by
 obtain ⟨h,X,G⟩:=Z.kn
 obtain ⟨f,oc,od,kV,dc,pm,an,cd,ct,sl,a,l',c,k⟩:=Z.bO
 have e:=hfa.symm.trans (W.mg_of X G a)
 cases e
 exact ⟨W.fnOf "law" "law" (qG Yw) (zu Yw) (zG Yw) .none kV dc pm an cd ct,fun s v=>.of_eq rfl,fun base _ _=>zFt Z (zCu (st:=Yw) l' c k)⟩
theorem walk {l:W.OpenLaw} {q:Program} {loose:List Str} {XP:(Str->Option Value)->Heap->Prop} {YP:World->Heap->Prop} {d:DefRec} {K:Params->W.Frag} (hn:l.most=some 63) (hdf:d.params.defaults=[])
  (hY : ∀ (w:World) (h:Heap),YP w h->(K w.params).In h)
  (F : ∀ (w:World) (mg:Str->Option Value) (fa:Addr) (h:Heap),(K w.params).In h->h.Ns mainGlobals mg->mg d.name=some (.ref fa) ->
   ∃ fd:FuncData,(∀ (s:Shared) (u:Value),BindsTo s fd ⟨[u],[]⟩ [("_law_script", u)]) /\ ∀ base:Heap,(K w.params).In base->base.Ns mainGlobals mg->xG l.prog w (K w.params) mg base CX0 11 fa fd ["_law_script"] (KI (K w.params))) :
  W.WalkO q loose XP YP l.row.toRowW d [] (fun f vs=>PySem.call f vs):=
 L2.walk_of (n:=63) (k:=11) (x:="_law_script") (CX:=fun _=>CX0) (sp:=fun w=>KI (K w.params)) hn (by decide) hdf ⟨rfl,by decide,by decide⟩ hY F (fun _ _ a ns hl _ hS=>⟨a,ns,rfl,hS,hl,fun _=>rfl⟩) fun _ _ _ _ _ z=>z
end Pw
namespace PySem.W.Fast
def tw10034432690918637409:=Nat
def tw10042664903675667571:=Nat
def tw10128111453741574890:=Nat
def tw10165692648587139341:=Nat
def tw10185473333104538161:=Nat
def tw10191129025878917665:=Nat
def tw10195893613871429227:=Nat
def tw10198882947091760099:=Nat
def tw1020652563286118213:=Nat
def tw10212789126786168963:=Nat
def tw1021390043344701563:=Nat
def tw10224246499285323212:=Nat
def tw10237057847539863767:=Nat
def tw10273565515565765528:=Nat
def tw10275791895869855742:=Nat
def tw10307473833714580013:=Nat
def tw10329972865775565678:=Nat
def tw10331676841496951766:=Nat
def tw1036274316225911469:=Nat
def tw10378535750879553998:=Nat
def tw10393109813078189071:=Nat
def tw10394811810644317316:=Nat
def tw10430883854318635559:=Nat
def tw10433405492147537899:=Nat
def tw10442988015057342584:=Nat
def tw10453475067871860864:=Nat
def tw1045467777645566068:=Nat
def tw10464670625009610317:=Nat
def tw10493101934455916602:=Nat
def tw10495633225180410776:=Nat
def tw10524927174903917787:=Nat
def tw10537391258348798352:=Nat
def tw10542333991358141210:=Nat
def tw10550969653680086947:=Nat
def tw10585625762170595275:=Nat
def tw10604788531470324329:=Nat
def tw10615718715350547803:=Nat
def tw10637590612784900040:=Nat
def tw10642390433389390231:=Nat
def tw10653346965598110539:=Nat
def tw10687721347780110725:=Nat
def tw10691796079172322120:=Nat
def tw10698079585439839480:=Nat
def tw10772024568135581060:=Nat
def tw10777341444183887080:=Nat
def tw10826010432331203799:=Nat
def tw10833799259560578834:=Nat
def tw10844506640900399866:=Nat
def tw10853928779082463139:=Nat
def tw10868459939912770446:=Nat
def tw10924650257980876756:=Nat
def tw10931158495506545507:=Nat
def tw10935707250432277383:=Nat
def tw10980044518461795883:=Nat
def tw10986930784649805199:=Nat
def tw11009614321658084601:=Nat
def tw11014676126748906357:=Nat
def tw11025437404722409987:=Nat
def tw11041272611854471836:=Nat
def tw11079879429610251081:=Nat
def tw11111577768966963089:=Nat
def tw11129709813646282319:=Nat
def tw11129967169152671838:=Nat
def tw11154520072618606524:=Nat
def tw11176945581031572400:=Nat
def tw11210670718119912350:=Nat
def tw11212941838553028858:=Nat
def tw11245726920947340675:=Nat
def tw11249364578771483997:=Nat
def tw11288422283935042186:=Nat
def tw11302374312937071042:=Nat
def tw11340005223936261769:=Nat
def tw11347017205434959811:=Nat
def tw11387780189374417173:=Nat
def tw11401727333974707472:=Nat
def tw11405229765920593424:=Nat
def tw11408030035173508748:=Nat
def tw11413479392157898199:=Nat
def tw11429066015331962965:=Nat
def tw11439142939378540445:=Nat
def tw11450203655027792019:=Nat
def tw11481604082062182606:=Nat
def tw11482963436352159579:=Nat
def tw11488468987885824193:=Nat
def tw11498307588582963915:=Nat
def tw11513334117453006794:=Nat
def tw11529747359488337204:=Nat
def tw11536532082885730691:=Nat
def tw11558278322633101869:=Nat
def tw11568586270067370949:=Nat
def tw11592892718233356075:=Nat
def tw11603164977889568392:=Nat
def tw11611579025924877214:=Nat
def tw11611735664080708576:=Nat
def tw11623056154834579770:=Nat
def tw11631272623087070590:=Nat
def tw11652831181083709627:=Nat
def tw11665436472653580456:=Nat
def tw11670684542381538333:=Nat
def tw11671491087231593485:=Nat
def tw11681405765866931037:=Nat
def tw116894449761886595:=Nat
def tw11692379280708235523:=Nat
def tw11695402000803896112:=Nat
def tw11777981573094340993:=Nat
def tw11799845450880283035:=Nat
def tw11822013493423339375:=Nat
def tw11858534597168466351:=Nat
def tw11887111413865384355:=Nat
def tw11943583697120327209:=Nat
def tw11944668553367506085:=Nat
def tw11984757703447431925:=Nat
def tw11990281828949099215:=Nat
def tw12009910773397287107:=Nat
def tw1201393828613298453:=Nat
def tw12046515982770953477:=Nat
def tw1204712082432956662:=Nat
def tw12067561709456991869:=Nat
def tw12070677112939073977:=Nat
def tw12091263784451113979:=Nat
def tw12101235302774572702:=Nat
def tw12119218556189909609:=Nat
def tw12136824297800267117:=Nat
def tw12140528899914570362:=Nat
def tw121958247681592378:=Nat
def tw12228945218645966182:=Nat
def tw12255142127941812799:=Nat
def tw12279091419137732572:=Nat
def tw12293710049614502535:=Nat
def tw1230771989335004833:=Nat
def tw12377734294182113854:=Nat
def tw12418814589600781294:=Nat
def tw12420272080062879341:=Nat
def tw12420642746094284775:=Nat
def tw12507752183835777610:=Nat
def tw12513417708218266247:=Nat
def tw12521751710441132590:=Nat
def tw12546582693316160646:=Nat
def tw12581296571845232388:=Nat
def tw12604693823120926275:=Nat
def tw12611905609093050187:=Nat
def tw12616984279818140665:=Nat
def tw1263033934460346676:=Nat
def tw12644613463476691125:=Nat
def tw12685825507312742999:=Nat
def tw12694190979343687136:=Nat
def tw12701504703242749167:=Nat
def tw12769990794430655366:=Nat
def tw12787904710787965751:=Nat
def tw12795268350935950488:=Nat
def tw12816243044241666132:=Nat
def tw12842793661613054022:=Nat
def tw1286705385113938844:=Nat
def tw12916157304236604213:=Nat
def tw12916748695254672650:=Nat
def tw12919564700056248933:=Nat
def tw12923223993934046115:=Nat
def tw12982682827647045761:=Nat
def tw12985470811800599639:=Nat
def tw13026623978614811653:=Nat
def tw13046899530416543608:=Nat
def tw13051960972314375972:=Nat
def tw13084717234581961484:=Nat
def tw13115013254870025404:=Nat
def tw13128188707253813526:=Nat
def tw13161654458454122408:=Nat
def tw13168209257646805041:=Nat
def tw13205035563886858065:=Nat
def tw13214372586272024431:=Nat
def tw1323530784583316850:=Nat
def tw13252390702271816747:=Nat
def tw13278955520058920506:=Nat
def tw13308389986943612145:=Nat
def tw13350249624245726213:=Nat
def tw13363188648541529124:=Nat
def tw13363477221373326906:=Nat
def tw13386782784952587613:=Nat
def tw13402907249594817018:=Nat
def tw13417807949119734191:=Nat
def tw13423932800334732674:=Nat
def tw13453850072395237615:=Nat
def tw13469983888125016716:=Nat
def tw13479104957644356053:=Nat
def tw13503100700426622992:=Nat
def tw13506457595589180650:=Nat
def tw13511919808695694065:=Nat
def tw13517733150201021664:=Nat
def tw13654045436508338396:=Nat
def tw13655923020428401997:=Nat
def tw13662097033535423674:=Nat
def tw1369485895034602890:=Nat
def tw13720494594444402318:=Nat
def tw13829351993283581132:=Nat
def tw13835059011722729802:=Nat
def tw13859602254784799314:=Nat
def tw13881914000870030939:=Nat
def tw13949329886103450657:=Nat
def tw13969366334546078804:=Nat
def tw13992742628740880116:=Nat
def tw13993664275489039886:=Nat
def tw14000964527533444979:=Nat
def tw14011306934351524140:=Nat
def tw14042414002845763893:=Nat
def tw14044340532715356200:=Nat
def tw14078334545862727760:=Nat
def tw1408196480057716100:=Nat
def tw14086164225935095332:=Nat
def tw14088829768245963557:=Nat
def tw14089521173921317330:=Nat
def tw14100974040233745800:=Nat
def tw14105617032252642677:=Nat
def tw14118188586980320322:=Nat
def tw14124382065650100078:=Nat
def tw14147230421632544804:=Nat
def tw14190117089152604524:=Nat
def tw14207461325976118195:=Nat
def tw14222817966667989318:=Nat
def tw14244765929655072327:=Nat
def tw14259039837666890010:=Nat
def tw14286512613089385482:=Nat
def tw14294627130584999767:=Nat
def tw14352265816708754722:=Nat
def tw14378600538233865747:=Nat
def tw14439783882502825830:=Nat
def tw1444894835565085730:=Nat
def tw14449089036097178399:=Nat
def tw14452531595272299010:=Nat
def tw14462372514977473391:=Nat
def tw14480732951336089952:=Nat
def tw14490840126812356411:=Nat
def tw14495590666343577227:=Nat
def tw14631876156904042767:=Nat
def tw14638763999568371655:=Nat
def tw14683326309729123382:=Nat
def tw14705907129390168992:=Nat
def tw1472581257473213506:=Nat
def tw14726460686454549202:=Nat
def tw14737215330119571716:=Nat
def tw14763166855009856344:=Nat
def tw14768538453209586629:=Nat
def tw14770647683822261582:=Nat
def tw14775498618901397620:=Nat
def tw14782520485575685486:=Nat
def tw14798151796654406952:=Nat
def tw1487028378773031083:=Nat
def tw14919091453281861481:=Nat
def tw14919106485677061555:=Nat
def tw14946592032247748195:=Nat
def tw14948948879456990019:=Nat
def tw14949264510991798770:=Nat
def tw14950670750188944340:=Nat
def tw149781007063613103:=Nat
def tw14992831525160915002:=Nat
def tw15013885994475977533:=Nat
def tw15014068596940526976:=Nat
def tw15024052797093763307:=Nat
def tw15047654213472772603:=Nat
def tw15080233548448233710:=Nat
def tw15085045635398233734:=Nat
def tw15093926682057998905:=Nat
def tw15118426583283903495:=Nat
def tw15121742738869991375:=Nat
def tw15128917167351231558:=Nat
def tw15140142699764586429:=Nat
def tw15177187737310503646:=Nat
def tw15192159608421181963:=Nat
def tw1522353015218219654:=Nat
def tw15244069707453646127:=Nat
def tw15250592225752761430:=Nat
def tw15258767121905131422:=Nat
def tw15275043334378093940:=Nat
def tw15279342097408442403:=Nat
def tw15303058583331927013:=Nat
def tw15318553934422816419:=Nat
def tw15384695692998236708:=Nat
def tw15418298453942185762:=Nat
def tw15444792630742600552:=Nat
def tw1545313606665248961:=Nat
def tw15454241957840345627:=Nat
def tw1545834780141364112:=Nat
def tw1547474276336526728:=Nat
def tw15533609713509769268:=Nat
def tw15591145971423338964:=Nat
def tw15611235909202128608:=Nat
def tw15635665590366183530:=Nat
def tw15652049497660921692:=Nat
def tw15665578644933387723:=Nat
def tw15680891751002918618:=Nat
def tw15691254269008810679:=Nat
def tw15711671937461001480:=Nat
def tw15735230250761209412:=Nat
def tw15807403574987936301:=Nat
def tw15839598815321164150:=Nat
def tw15841967930845109926:=Nat
def tw15887670131756142201:=Nat
def tw15953051721237078738:=Nat
def tw15955039788808980254:=Nat
def tw15955280626825200731:=Nat
def tw15982733210220982988:=Nat
def tw16087700875109308365:=Nat
def tw16093777350708691610:=Nat
def tw16108493032360496854:=Nat
def tw16124243013310293706:=Nat
def tw16131686845415560307:=Nat
def tw16173373510625499281:=Nat
def tw1617421154697954118:=Nat
def tw16193491386450756191:=Nat
def tw16222319205516978428:=Nat
def tw16224189961095738761:=Nat
def tw16225250233699230938:=Nat
def tw16254582194703913987:=Nat
def tw16320514121819837197:=Nat
def tw16334611978659524401:=Nat
def tw16363243478498681195:=Nat
def tw16369231044711245822:=Nat
def tw16380514944711101498:=Nat
def tw16390752669956090336:=Nat
def tw16423012521178814246:=Nat
def tw16427705007720200624:=Nat
def tw16442303042431104387:=Nat
def tw16492740254774123799:=Nat
def tw1650425853651465989:=Nat
def tw16577789752786536:=Nat
def tw16638734873447262039:=Nat
def tw16653488423060022936:=Nat
def tw16655574724154734744:=Nat
def tw16699977933838813191:=Nat
def tw16711529012849411790:=Nat
def tw16749441587274834644:=Nat
def tw1676435849985196462:=Nat
def tw16770342643118833204:=Nat
def tw1679810825661505068:=Nat
def tw16845302833031391932:=Nat
def tw16864536499436754157:=Nat
def tw16874206361602536313:=Nat
def tw16878039827789122929:=Nat
def tw16955833184478235009:=Nat
def tw16961976206372232773:=Nat
def tw169869573465647349:=Nat
def tw16989573832223043132:=Nat
def tw17019442267959904985:=Nat
def tw17027497622788838847:=Nat
def tw17051574905823752315:=Nat
def tw17064553647132290080:=Nat
def tw17114534665550963546:=Nat
def tw17115796393986983645:=Nat
def tw17123703442015509248:=Nat
def tw17134449846906685744:=Nat
def tw17142441232425090130:=Nat
def tw17160763359736504259:=Nat
def tw17183927004409970985:=Nat
def tw17214223129749735218:=Nat
def tw17218581949640701460:=Nat
def tw17240800741466499563:=Nat
def tw1726406135827838764:=Nat
def tw1728949585281896989:=Nat
def tw17308257301735233767:=Nat
def tw17365125014115059715:=Nat
def tw17367803503828258655:=Nat
def tw17374691387905917717:=Nat
def tw17400338250647123423:=Nat
def tw17440817784382669048:=Nat
def tw17455339719809544523:=Nat
def tw17462823122921770131:=Nat
def tw17495107959481873863:=Nat
def tw17508629199494609531:=Nat
def tw17517477207580833270:=Nat
def tw17536169163100860907:=Nat
def tw17542182087008511419:=Nat
def tw17558675636458248532:=Nat
def tw17615505477872321192:=Nat
def tw17616557605035911089:=Nat
def tw17623195017084016421:=Nat
def tw17650356794948525315:=Nat
def tw17654964337172085544:=Nat
def tw17694796479812269532:=Nat
def tw17703017811207330958:=Nat
def tw17759610439298987099:=Nat
def tw17796977675463508142:=Nat
def tw17837503064607517630:=Nat
def tw17916855015127677732:=Nat
def tw17960917530961532289:=Nat
def tw1796972764285328697:=Nat
def tw17972108433824969879:=Nat
def tw17987291773969881881:=Nat
def tw18006489793777303194:=Nat
def tw1801671612895588109:=Nat
def tw18026517828083087599:=Nat
def tw18026820133849173192:=Nat
def tw18034796765338399697:=Nat
def tw18057361160414121910:=Nat
def tw18096089670093015591:=Nat
def tw1811255156331923274:=Nat
def tw18119309622893904295:=Nat
def tw18125649872193796371:=Nat
def tw18137878360962639486:=Nat
def tw18149042243278814462:=Nat
def tw18200516925477026288:=Nat
def tw18206826003752257556:=Nat
def tw18239041382849333523:=Nat
def tw18280145806714105845:=Nat
def tw18331052436633598154:=Nat
def tw18361996496741260697:=Nat
def tw18390504865897738142:=Nat
def tw1860117332597778326:=Nat
def tw1866587348579365164:=Nat
def tw1874264811233936222:=Nat
def tw1883724560935141517:=Nat
def tw190139218837529555:=Nat
def tw1968465412131991813:=Nat
def tw2018980272103737116:=Nat
def tw2035252411077035552:=Nat
def tw2048659086226787231:=Nat
def tw206914721128039385:=Nat
def tw2069565366417832973:=Nat
def tw2096440666219341086:=Nat
def tw2132996525703126297:=Nat
def tw2147008447257908849:=Nat
def tw2179244411588191761:=Nat
def tw220257611531014875:=Nat
def tw2211197945510202181:=Nat
def tw2296951334161312229:=Nat
def tw2307644950620175467:=Nat
def tw2417274022856318026:=Nat
def tw243096785420885923:=Nat
def tw245238503460729819:=Nat
def tw2456780329967247193:=Nat
def tw2469107342680063591:=Nat
def tw2547510144077255222:=Nat
def tw2554473644500794365:=Nat
def tw2557395268509704573:=Nat
def tw2558250145092219748:=Nat
def tw2562109428644851039:=Nat
def tw2580915435344684675:=Nat
def tw263367542692825031:=Nat
def tw264218124435363754:=Nat
def tw2644610258176797047:=Nat
def tw2661000406360257818:=Nat
def tw2697500601016100532:=Nat
def tw2705180694533394689:=Nat
def tw2720965996784667266:=Nat
def tw2746032359236608751:=Nat
def tw2758581674231782295:=Nat
def tw2780748525964641231:=Nat
def tw2792753434757881180:=Nat
def tw2793096271074749438:=Nat
def tw2844982340925938485:=Nat
def tw2860880294285720986:=Nat
def tw2913725904113095468:=Nat
def tw2914476525434546513:=Nat
def tw2920002122157011290:=Nat
def tw297389089247813308:=Nat
def tw3004652155783685116:=Nat
def tw3019557027126913179:=Nat
def tw3097701481942012304:=Nat
def tw3122660166926330814:=Nat
def tw3133550078269248784:=Nat
def tw3142552982306143929:=Nat
def tw3147618792461462098:=Nat
def tw3228020506180146560:=Nat
def tw3244002406977020528:=Nat
def tw3269988444688934199:=Nat
def tw3279417129850946440:=Nat
def tw3286402293552582378:=Nat
def tw3286766317410822373:=Nat
def tw3326960308815901942:=Nat
def tw33626911715818059:=Nat
def tw337067627814917635:=Nat
def tw3384823713229660399:=Nat
def tw3408023303539259889:=Nat
def tw342052285918962154:=Nat
def tw3463149532939982609:=Nat
def tw3466712476109787041:=Nat
def tw3472607312550085493:=Nat
def tw3479943720752449804:=Nat
def tw3502048882271061457:=Nat
def tw3528160140362132501:=Nat
def tw3533874897190467363:=Nat
def tw3534659972692910476:=Nat
def tw353617584201421763:=Nat
def tw3572593930879844032:=Nat
def tw3613601447049889583:=Nat
def tw3616774972790510414:=Nat
def tw3664065854256116783:=Nat
def tw3672324186637403718:=Nat
def tw3677304340643518152:=Nat
def tw3696576946464552256:=Nat
def tw3721119895018633129:=Nat
def tw3722421222814847850:=Nat
def tw3730366228247867871:=Nat
def tw3787803866653676406:=Nat
def tw3789837392576240302:=Nat
def tw3792475366328784718:=Nat
def tw383308661562609918:=Nat
def tw3837512021626255868:=Nat
def tw3861861891182122516:=Nat
def tw389078592732562063:=Nat
def tw3895202937084982344:=Nat
def tw3909979563918108451:=Nat
def tw3928313564256501294:=Nat
def tw3957572696534168405:=Nat
def tw3957916059028767033:=Nat
def tw3974687697123296850:=Nat
def tw4025107967901099831:=Nat
def tw4035910974322490470:=Nat
def tw4044008904597384877:=Nat
def tw4101215390691177554:=Nat
def tw4115039665453951350:=Nat
def tw4122122447615601968:=Nat
def tw4139858505419339801:=Nat
def tw4143270350329846171:=Nat
def tw4163306873641355443:=Nat
def tw4178131337926471936:=Nat
def tw4184073404240664113:=Nat
def tw4214826797740474216:=Nat
def tw4215661159215197046:=Nat
def tw4231286926986876529:=Nat
def tw4239796685475025938:=Nat
def tw4242638734261188125:=Nat
def tw4278004888208841205:=Nat
def tw4280821051270556600:=Nat
def tw4290713216992730938:=Nat
def tw4319080318390109445:=Nat
def tw4320414712884451699:=Nat
def tw4325495938692438594:=Nat
def tw4330102460590100042:=Nat
def tw435427405019968641:=Nat
def tw4373034783315616799:=Nat
def tw4393996066929790759:=Nat
def tw4410007195680662540:=Nat
def tw4417283229037476631:=Nat
def tw4426516840805324829:=Nat
def tw443422625225000032:=Nat
def tw4436318737945437937:=Nat
def tw4448599956823160997:=Nat
def tw4483355693247848979:=Nat
def tw4492598144588070524:=Nat
def tw4496141058959033308:=Nat
def tw4518315143524118072:=Nat
def tw4538928794770238186:=Nat
def tw4575143830690331454:=Nat
def tw4620645366165653464:=Nat
def tw4626031601653714246:=Nat
def tw4663286828482074358:=Nat
def tw4683115657769119100:=Nat
def tw4713149367689929561:=Nat
def tw4741071117695044274:=Nat
def tw4742034121249074437:=Nat
def tw4750158042670837276:=Nat
def tw4783909074431923164:=Nat
def tw4786661331574957919:=Nat
def tw4833458901725509044:=Nat
def tw4847119401530087438:=Nat
def tw4863168847683138499:=Nat
def tw4902879629144387413:=Nat
def tw4903267709712714804:=Nat
def tw4917355475606097743:=Nat
def tw493594376791632109:=Nat
def tw5022501167176029040:=Nat
def tw5029874958481194419:=Nat
def tw5036068728685507540:=Nat
def tw5051654073902414901:=Nat
def tw5101365388420140083:=Nat
def tw5137810335140919165:=Nat
def tw51380854141526199:=Nat
def tw5151490772881291516:=Nat
def tw5184792925863219040:=Nat
def tw5260391447709080966:=Nat
def tw5273488491071316457:=Nat
def tw5274890010668052913:=Nat
def tw5278837944270049258:=Nat
def tw5283173295384195933:=Nat
def tw5286878419569091317:=Nat
def tw5293312776218974901:=Nat
def tw5338379332261411539:=Nat
def tw5345259278481872143:=Nat
def tw5376646843041395421:=Nat
def tw5436154510346559796:=Nat
def tw5487576020321132532:=Nat
def tw5512974333418076886:=Nat
def tw5541103893495673100:=Nat
def tw5557418694667322917:=Nat
def tw5566856871415703867:=Nat
def tw5585817240396712565:=Nat
def tw5597145813832634364:=Nat
def tw559743683427669835:=Nat
def tw5604570500362050998:=Nat
def tw5630145855423814900:=Nat
def tw5642471755836777891:=Nat
def tw5662182064643067518:=Nat
def tw5669531972961769454:=Nat
def tw5739575523525237746:=Nat
def tw5748937139944869175:=Nat
def tw575003611122682213:=Nat
def tw5779507670620947300:=Nat
def tw5850607076738168414:=Nat
def tw5860516823897839914:=Nat
def tw5866029712686626956:=Nat
def tw5903366843247147713:=Nat
def tw5904975175558152629:=Nat
def tw5941478513316937452:=Nat
def tw5946652543320308316:=Nat
def tw5954607807593865097:=Nat
def tw5969872971287392140:=Nat
def tw5975408716851840665:=Nat
def tw598905418629988717:=Nat
def tw5994945090823448768:=Nat
def tw6012054393198802163:=Nat
def tw6023486837094084545:=Nat
def tw6081109827415541817:=Nat
def tw6125490020550813338:=Nat
def tw6242945497502942442:=Nat
def tw6275253308262736517:=Nat
def tw6283271503858882029:=Nat
def tw6293495022419641300:=Nat
def tw6374432160732983368:=Nat
def tw6451499434136499708:=Nat
def tw6451692608991138299:=Nat
def tw6483570997871041958:=Nat
def tw65130967927097159:=Nat
def tw6522420207110498286:=Nat
def tw6615748127693158396:=Nat
def tw6648173995476612976:=Nat
def tw670834439579154436:=Nat
def tw6775092100484550676:=Nat
def tw6785174286996207104:=Nat
def tw6815414089048214178:=Nat
def tw6835462932942223395:=Nat
def tw6842325073302530942:=Nat
def tw685911214002517867:=Nat
def tw6881910485254503554:=Nat
def tw6883104625033803453:=Nat
def tw6891511423389335555:=Nat
def tw6901490783930556618:=Nat
def tw6910691310334309339:=Nat
def tw6920637830397055621:=Nat
def tw6925725716647443978:=Nat
def tw6946286046070545781:=Nat
def tw6953074263841313193:=Nat
def tw6959203634098027336:=Nat
def tw7003487181332344596:=Nat
def tw7026596921485647226:=Nat
def tw7049121847139493647:=Nat
def tw7074786931835575513:=Nat
def tw7112504748334489609:=Nat
def tw7112912317647173537:=Nat
def tw7157026317082551341:=Nat
def tw7168240100121284263:=Nat
def tw7168821920816254348:=Nat
def tw7178467816921660098:=Nat
def tw717966141793355576:=Nat
def tw7205805638973322838:=Nat
def tw7208535447191425008:=Nat
def tw7228563668742033422:=Nat
def tw7252709166880378879:=Nat
def tw728155348287793804:=Nat
def tw7284153371416108401:=Nat
def tw7287819111772182030:=Nat
def tw7302302784887485904:=Nat
def tw7314435462487309166:=Nat
def tw7333218537271451077:=Nat
def tw7370933711512345304:=Nat
def tw7374562432221784219:=Nat
def tw7374942880532101528:=Nat
def tw7389561909606202677:=Nat
def tw7423528171621231897:=Nat
def tw7434912330094525523:=Nat
def tw7442104794486750947:=Nat
def tw7482569121790725870:=Nat
def tw7487534085310385544:=Nat
def tw7507304459585463563:=Nat
def tw7515275241050491617:=Nat
def tw7537237836115525400:=Nat
def tw7539807839673873414:=Nat
def tw7550827304373893102:=Nat
def tw7551479077518389875:=Nat
def tw7558581884369654503:=Nat
def tw7570540912130255:=Nat
def tw7622717558029314277:=Nat
def tw7630095725070922624:=Nat
def tw7647849152782457045:=Nat
def tw7655132988607935486:=Nat
def tw7691154296243282418:=Nat
def tw773294057638423372:=Nat
def tw7774753252153762435:=Nat
def tw7799300821092994752:=Nat
def tw7810281938251748195:=Nat
def tw7865586404760364477:=Nat
def tw7886940837339306688:=Nat
def tw7888170612510843636:=Nat
def tw7894526311515549251:=Nat
def tw7935424022083342883:=Nat
def tw8010294239400011620:=Nat
def tw8032980761891932352:=Nat
def tw8041046525318414896:=Nat
def tw8072483899722051634:=Nat
def tw808373881331431849:=Nat
def tw8088576467122876683:=Nat
def tw8099423552337673336:=Nat
def tw8127843365972633256:=Nat
def tw8142937467029206210:=Nat
def tw8143560744916811552:=Nat
def tw8154384325384070695:=Nat
def tw8184555685859284053:=Nat
def tw8186751553125421981:=Nat
def tw819454758927207169:=Nat
def tw8207434292084635982:=Nat
def tw8220609454850615459:=Nat
def tw8246365610390487913:=Nat
def tw8246791630779937288:=Nat
def tw8282178239526852937:=Nat
def tw8298220583224861203:=Nat
def tw8325038426147978277:=Nat
def tw8334445743838770954:=Nat
def tw8382715071169686487:=Nat
def tw8399655145591125650:=Nat
def tw8404990474171512108:=Nat
def tw8441019818098022882:=Nat
def tw8464292519113835325:=Nat
def tw8496345947446683579:=Nat
def tw8500181138922070796:=Nat
def tw8507813807081032756:=Nat
def tw8530948583487642069:=Nat
def tw8540288341245138141:=Nat
def tw8571289847422158870:=Nat
def tw8572062214865752711:=Nat
def tw8626732703859059931:=Nat
def tw8671980854408760547:=Nat
def tw8694740061833311843:=Nat
def tw8704015051263748903:=Nat
def tw8724277962098362962:=Nat
def tw8735668177453761872:=Nat
def tw8748504902266631798:=Nat
def tw8771579313751055006:=Nat
def tw8834783202943485266:=Nat
def tw8839802603710997516:=Nat
def tw8882283887029523217:=Nat
def tw8903061835632574955:=Nat
def tw8915496274779595117:=Nat
def tw8922990641445026240:=Nat
def tw8935155370102091577:=Nat
def tw8945472007619582629:=Nat
def tw8948613615152079644:=Nat
def tw9000191955863991985:=Nat
def tw902593595034262263:=Nat
def tw903221364066119302:=Nat
def tw9042894017739561823:=Nat
def tw9045483167385578577:=Nat
def tw9106104730501107783:=Nat
def tw9111748573017304826:=Nat
def tw9163108931532998646:=Nat
def tw9182365133088347558:=Nat
def tw9222570745915619129:=Nat
def tw9261034444030086901:=Nat
def tw9298798736948170698:=Nat
def tw9324415384400928170:=Nat
def tw9330199649223297359:=Nat
def tw933263311586669385:=Nat
def tw9339148196273736874:=Nat
def tw9344364800314697916:=Nat
def tw9409404633142411079:=Nat
def tw9437901405410411209:=Nat
def tw9443275235809351505:=Nat
def tw9460329474786583609:=Nat
def tw9467334087491359185:=Nat
def tw9470199174697111209:=Nat
def tw947033783514975346:=Nat
def tw9478919543342539240:=Nat
def tw9490326897601718093:=Nat
def tw9504687141959763692:=Nat
def tw9516264947435110898:=Nat
def tw9547210160365362398:=Nat
def tw9555347685054832673:=Nat
def tw9580030648944032048:=Nat
def tw961983507808288642:=Nat
def tw9669191756858212217:=Nat
def tw9746033175117864139:=Nat
def tw9787713221844218996:=Nat
def tw9805335988308100447:=Nat
def tw9806789821783424162:=Nat
def tw9835952583227612096:=Nat
def tw9842082554765622962:=Nat
def tw986171390866763899:=Nat
def tw9872482853591968227:=Nat
def tw9902608881273644186:=Nat
def tw9916737551207223677:=Nat
def tw9935527405145553707:=Nat
def tw9961157234397886703:=Nat
def tw997134420976204445:=Nat
end PySem.W.Fast
open PySem PySem.W PyProof.Rows
local macro_rules | `(tactic| walk_at "df")=>`(tactic| ((refine' L2.dfx_mk ?a ?l ?c ?k);(case a|l|c|k=>k_is)))
local macro_rules | `(tactic| walk_at "na")=>`(tactic| repeat (first | exact trivial | ((refine' And.intro ?_ ?_);next=>first | k_is | (show _=_;k_is))))
local macro_rules | `(tactic| walk_at "dm")=>`(tactic| ((refine' L2.dmx_mk ?a ?l ?c ?k ?n ?i);(case a|l|c|k|n=>k_is);(case i=>walk_at "na")))
local macro_rules | `(tactic| walk_at "dd")=>`(tactic| ((refine' L2.ddx_mk ?a ?l ?c ?k ?n ?d ?s ?i);(case a|l|c|k|n|d=>k_is);(case s=>rfl);(case i=>walk_at "na")))
local macro_rules | `(tactic| walk_at "dc")=>`(tactic| ((refine' L2.dcx_mk ?a ?l ?c ?k ?n ?d ?e ?f);(case a|l|c|k|n|d|e|f=>k_is)))
local macro_rules | `(tactic| walk_at "ex")=>`(tactic| ((refine' L2.Exc.mk ?x ?a ?b ?c ?d ?e ?f ?g ?h);(case x=>k_exc);(case a|b|c|d|e|f|g|h=>k_is)))
local macro_rules | `(tactic| walk_at "cl")=>`(tactic| ((refine' L2.Cls.mk ?a ?b ?c ?d);(case a|b|c|d=>k_is)))
local macro_rules | `(tactic| walk_at "mi")=>`(tactic| ((refine' And.intro ?a ?b);(case a|b=>k_is)))
set_option maxRecDepth 100000 in
set_option maxHeartbeats 0 in
theorem PySem.Challenge.cw_padwright_k45_values_for_a_text_holds : PySem.Challenge.rw_padwright_k45_values_for_a_text.Holds := by
 w_on;o_law;k_head;(case hw=>w_witness2)
 k_fill
 refine Pw.walk (l:=PySem.Challenge.rw_padwright_k45_values_for_a_text) rfl rfl (fun w h Y=>PySem.W.kIn_of Y) ?F
 case F =>
  intro w mg fa h KX G hmg
  refine' Pw.all_mk hmg (Pw.Zs.mk ⟨_,KX,G⟩ (PySem.W.mg_of KX G ?va) (PySem.W.mg_of KX G ?vb) (PySem.W.mg_of KX G ?vc) (PySem.W.mg_of KX G ?vd) (PySem.W.mg_of KX G ?ve) (PySem.W.mg_of KX G ?vf) (PySem.W.mg_of KX G ?vg) (PySem.W.mg_of KX G ?vh) (PySem.W.mg_of KX G ?vi) (PySem.W.mg_of KX G ?vj) (PySem.W.mg_of KX G ?vk) (PySem.W.mg_none_of KX G ?vl) (PySem.W.mg_none_of KX G ?vm) (PySem.W.mg_none_of KX G ?vn) (PySem.W.mg_none_of KX G ?vo) (PySem.W.mg_none_of KX G ?vp) (PySem.W.mg_none_of KX G ?vq) (PySem.W.mg_none_of KX G ?vr) (PySem.W.mg_none_of KX G ?vs) (PySem.W.mg_none_of KX G ?vt) (PySem.W.mg_none_of KX G ?vu) (PySem.W.mg_none_of KX G ?vv) (PySem.W.mg_none_of KX G ?vw) (PySem.W.mg_none_of KX G ?vx) (PySem.W.mg_none_of KX G ?vy) (PySem.W.mg_of KX G ?vz) (PySem.W.mg_of KX G ?vA) (PySem.W.mg_of KX G ?vB) (PySem.W.mg_of KX G ?vC) ?vD ?f0 ?f1 ?f2 ?f3 ?f4 ?f5 ?f6 ?f7 ?f8 ?f9 ?vE ?vF ?vG ?vH ?vI ?vJ ?vK ?vL ?vM ?vN ?vO ?vP ?vQ ?vR ?vS ?vT ?vU ?vV ?vW ?vX ?vY ?vZ ?v0 ?v1 ?v2 ?v3 ?v4 ?v5 ?v6 ?v7 ?v8 ?v9 ?wa ?wb ?wc ?wd ?we ?wf ?wg ?wh ?wi ?wj ?wk ?wl ?wm ?wn ?wo ?wp ?wq ?wr ?ws ?wt ?wu ?wv ?ww ?wx ?wy ?wz ?wA ?wB ?wC ?wD ?wE ?wF ?vb ?vc ?vd ?ve ?wG ?wH ?wI ?wJ ?wK ?wL ?wM ?wN ?wO ?pi ?wP ?wQ ?xt ?x2 ?x3 ?xg ?xf ?xc ?xb)
  (case va|vb|vc|vd|ve|vf|vg|vh|vi|vj|vk=>first | k_is | (show _=_;k_is))
  (case vl|vm|vn|vo|vp|vq|vr|vs|vt|vu|vv|vw|vx|vy|vz|vA|vB|vC=>first | k_is | (show _=_;k_is))
  (case vD=>(refine' L2.sty_mk ?d ?hp0 ?ha0 ?hb0 ?hp1 ?ha1 ?hb1 ?hp2 ?ha2 ?hb2 ?hp3 ?ha3 ?hb3 ?hp4 ?ha4 ?hb4);(case d=>k_is);(case hp0=>k_is);(case ha0=>k_is);(case hb0=>k_is);(case hp1=>k_is);(case ha1=>k_is);(case hb1=>k_is);(case hp2=>k_is);(case ha2=>k_is);(case hb2=>k_is);(case hp3=>k_is);(case ha3=>k_is);(case hb3=>k_is);(case hp4=>k_is);(case ha4=>k_is);(case hb4=>k_is))
  (case f0|f1|f2|f3|f4|f5|f6|f7|f8|f9|vE|vF|vG|vH|vI|vJ|vK|vS|vU|vV|vX|v5|v6|v7|v8|v9|wa|wb|wc|wd|we|wf|wg|wh|wi|wj|wk|wl|wm|wn|wo|wp|wq|wr|ws|wt|wu|wv|ww|wx|wy|wz|wA=>walk_at "df")
  (case vL=>walk_at "dc")
  (case vM|vN|vO=>walk_at "dd")
  (case vP|vQ|vR|vT|vW|vY|vZ|v0|v1|v2|v3|v4=>walk_at "dm")
  (case wB|wC|wD|wE|wF=>walk_at "ex")
  (case wG|wJ|wM=>walk_at "cl")
  (case wH|wK|wN=>walk_at "na")
  (case wI|wL|wO=>walk_at "mi")
  (case pi=>(refine' L2.PIni.mk ?a ?b ?c);(case a|b|c=>k_is))
  (case wP=>(refine' L2.xin_mk ?a ?e ?n ?k);(case a|n|k=>k_is);(case e=>kernel_rfl))
  (case wQ=>(refine' L2.exf_mk (L2.xin_mk ?a ?e ?n ?k) (L2.ExcB.mk ?b1 ?b2 ?b3 ?b4 ?b5 ?b6 ?b7 ?b8) ?s ?z);(case a|n|k|b1|b2|b3|b4|b5|b6|b7|b8|s|z=>k_is);(case e=>kernel_rfl))
  (case xt|x2|x3|xg|xf|xc|xb=>kts_exm)

import PyProof.Rows.All
import KE.KDictList
import KE.KFromBytes
import KE.KItem
import KE.KNestM
import KE.KTryMore
import KE.RegKIsAll
import KE.RegKTryMore
import Wide.FinOn
import PySem.Challenge.RW_padwright_k62_each_value_its_look
set_option Elab.async false
set_option linter.all false
set_option maxRecDepth 100000
set_option compiler.extract_closed false
local macro_rules | `(tactic|omega)=>`(tactic|first|decide|lia|omega (config:={}))
namespace L2
open PySem PySem.Spec PyProof.Rows
open List (length_cons mem_append_right mem_cons_of_mem)
open Nat (le_refl le_trans lt_irrefl lt_of_lt_of_le ne_of_lt zero_le)
abbrev Key:=Sum Int Str
def zIA:Key->Value->Bool
 | .inl k,v=>Value.isInt k v
 | .inr x,v=>Value.isStrOf x v
def zLf (w:World):Key->Int
 | .inl k=>hashInt k
 | .inr x=>hashStr w x
theorem qZ : ∀ {k:Key} {v:Value},zIA k v=true->(∃ i t,k=Sum.inl i/\v=Value.int i t)\/(∃ x t,k=Sum.inr x/\v=Value.str x t)
 | .inl i,v,h=>by
  obtain ⟨t,e⟩:=Value.isInt_shape (k:=i) (v:=v) h
  exact .inl ⟨i,t,rfl,e⟩
 | .inr x,v,h=>by
  obtain ⟨t,e⟩:=Value.isStrOf_shape (x:=x) (v:=v) h
  exact .inr ⟨x,t,rfl,e⟩
theorem zIq (a b:Int):decide ((Sum.inl a:Key)=Sum.inl b)=(a == b):=by
 by_cases e:a=b
 ·subst e;simp
 ·have h : ¬ (Sum.inl a:Key)=Sum.inl b:=fun q=>e (Sum.inl.inj q)
  rw [decide_eq_false h]
  exact (beq_eq_false_iff_ne.mpr e).symm
theorem zJT (a b:Str):decide ((Sum.inr a:Key)=Sum.inr b)=decide (a=b):=by
 by_cases e:a=b
 ·subst e;simp
 ·have h : ¬ (Sum.inr a:Key)=Sum.inr b:=fun q=>e (Sum.inr.inj q)
  rw [decide_eq_false h,decide_eq_false e]
theorem zIf (a:Int) (b:Str):decide ((Sum.inl a:Key)=Sum.inr b)=false:=decide_eq_false (fun q=>nomatch q)
theorem zIQ (a:Str) (b:Int):decide ((Sum.inr a:Key)=Sum.inl b)=false:=decide_eq_false (fun q=>nomatch q)
def zDN (prog:Program) (w:World):PySem.KeyKind prog w Key where
 is:=zIA
 hash:=zLf w
 inj:=fun v a b ha hb=>by
  rcases qZ ha with ⟨i,t,rfl,rfl⟩ | ⟨x,t,rfl,rfl⟩
  ·rcases qZ hb with ⟨j,u,rfl,e⟩ | ⟨y,u,rfl,e⟩
   ·injection e with e1 _;rw [e1]
   ·exact nomatch e
  ·rcases qZ hb with ⟨j,u,rfl,e⟩ | ⟨y,u,rfl,e⟩
   ·exact nomatch e
   ·injection e with e1 _;rw [e1]
 byValue:=fun k v h=>by
  rcases qZ h with ⟨i,t,rfl,rfl⟩ | ⟨x,t,rfl,rfl⟩ <;> rfl
 pyHash:=fun hv h=>by
  rcases qZ hv with ⟨i,t,rfl,rfl⟩ | ⟨x,t,rfl,rfl⟩
  ·exact wpAny_pyHash_int h
  ·exact wpAny_pyHash_str h
 eqBool:=fun hu hv h=>by
  rcases qZ hu with ⟨i,t,rfl,rfl⟩ | ⟨x,t,rfl,rfl⟩
  ·rcases qZ hv with ⟨j,u,rfl,rfl⟩ | ⟨y,u,rfl,rfl⟩
   ·rw [zIq] at h;exact wpAny_eqBool_int h
   ·rw [zIf] at h;exact SeqAt.EqAt.int_str i t y u _ _ _ _ h
  ·rcases qZ hv with ⟨j,u,rfl,rfl⟩ | ⟨y,u,rfl,rfl⟩
   ·rw [zIQ] at h;exact SeqAt.EqAt.str_int x t j u _ _ _ _ h
   ·rw [zJT] at h;exact wpAny_eqBool_str h
 «strs» := fun k x t v h=>by
  rcases qZ h with ⟨i,u,rfl,e⟩ | ⟨y,u,rfl,e⟩
  ·exact nomatch e
  ·injection e with e1 _
   subst e1
   cases v <;> rfl
inductive V where
 | non | bl (b:Bool) | int (i:Int) | str (x:Str) | byt (b:Array UInt8) | flt (b:UInt64) | ref (a:Addr) | ty (n:String)
 deriving DecidableEq
def xY:V->Value->Prop
 | .non,u=>u=Value.none
 | .bl b,u=>u=Value.bool b
 | .int i,u=>∃ t,u=Value.int i t
 | .str x,u=>∃ t,u=Value.str x t
 | .byt b,u=>∃ t,u=Value.bytes b t
 | .flt b,u=>∃ t,u=Value.float b t
 | .ref a,u=>u=Value.ref a
 | .ty n,u=>u=Value.type n
abbrev qR:List V->List Value->Prop:=Paired xY
variable {xs:List V} {us:List Value}
theorem qR.length (r:qR xs us):xs.length=us.length:=Paired.length r
theorem qR.get : ∀ {xs:List V} {us:List Value} {i:Nat} {x:V},qR xs us->xs[i]? = some x -> ∃ u,us[i]? = some u/\xY x u
 | _,_,_,_,.nil,e=>by simp at e
 | _,_,0,_,.cons r _,e=>by simp at e;subst e;exact ⟨_,rfl,r⟩
 | _,_,i+1,x,.cons _ t,e=>by
  obtain ⟨u,h1,h2⟩:=qR.get (i:=i) (x:=x) t (by simpa using e)
  exact ⟨u,by simpa using h1,h2⟩
theorem qR.set {x:V} {u:Value} (r:xY x u) : ∀ {xs:List V} {us:List Value} (i:Nat),qR xs us->qR (xs.set i x) (us.set i u)
 | _,_,_,.nil=>.nil
 | _,_,0,.cons _ t=>.cons r t
 | _,_,i+1,.cons q t=>.cons q (qR.set r i t)
theorem qR.append : ∀ {xs ys:List V} {us ws:List Value},qR xs us->qR ys ws->qR (xs++ys) (us++ws)
 | _,_,_,_,.nil,s=>s
 | _,_,_,_,.cons r t,s=>.cons r (qR.append t s)
theorem qR.take : ∀ {xs:List V} {us:List Value} (n:Nat),qR xs us->qR (xs.take n) (us.take n)
 | _,_,0,_=>.nil
 | _,_,_+1,.nil=>.nil
 | _,_,n+1,.cons r t=>.cons r (qR.take n t)
theorem qR.drop : ∀ {xs:List V} {us:List Value} (n:Nat),qR xs us->qR (xs.drop n) (us.drop n)
 | _,_,0,r=>r
 | _,_,_+1,.nil=>.nil
 | _,_,n+1,.cons _ t=>qR.drop n t
theorem qR.none_of : ∀ {xs:List V} {us:List Value} {i:Nat},qR xs us->xs[i]? = none->us[i]? = none:=fun {xs us i} r e=>by
 have h1:=r.length
 have h2:xs.length<=i:=List.getElem?_eq_none_iff.mp e
 exact List.getElem?_eq_none_iff.mpr (by omega)
def zDS:Option V->Option Value->Prop
 | some v,some u=>xY v u
 | none,none=>True
 | _,_=>False
def KV {κ:Type}:List (κ × V)->List (κ × Value)->Prop:=Paired fun (p:κ × V) (q:κ × Value)=>p.1=q.1/\xY p.2 q.2
def kV:Key->V
 | .inl i=>.int i
 | .inr x=>.str x
inductive HO where
 | lst (xs:List V)
 | tup (xs:List V)
 | dK (kvs:List (Key × V)) | dT (kvs:List (List Key × V))
 | set (S:Int->Bool) (n:Nat)
 | ins (C dx:Addr) (fs:List (Str × V))
 | own (x:Addr)
 | xd (fs:List (Str × V))
 | met (f x:Addr)
 | rng (lo hi:Int)
 | frz (o:Obj) (u:HO)
 | tbl (ps:Array Value)
 | ext (φ:Heap->Prop)
abbrev Hp:=Addr->Option HO
def upd (H:Hp) (a:Addr) (o:HO):Hp:=fun b=>if b=a then some o else H b
variable {H:Hp} {a:Addr} {o:HO}
theorem zR:upd H a o a=some o:=by unfold upd;rw [if_pos rfl]
variable {b:Addr}
theorem qB (h:b≠a):upd H a o b=H b:=by unfold upd;rw [if_neg h]
variable {u:HO}
theorem jC:upd (upd H a o) a u=upd H a u:=by
 funext b;unfold upd;split <;> rfl
theorem zKh (h:H a=some o) (h':H b=some u) (d:o≠u):a≠b:=by
 intro e;subst e;rw [h] at h';exact d (Option.some.inj h')
theorem qT (h:H a=some o) (h':H b=none):a≠b:=by
 intro e;subst e;rw [h] at h';cases h'
section
variable (P : Program) (w : World)
def xO (H:Hp) (h:Heap) (a:Addr):HO->Prop
 | .lst xs=>xs.length<=sizeLine /\ ∃ (its:List Value) (n:Nat),qR xs its/\h.get? a=some { cls:=.type "list", data:=.seq its.toArray n }
 | .tup xs=>xs.length<=sizeLine /\ ∃ its:List Value,qR xs its/\IsTup h a its.toArray
 | .dK kvs=>kvs.length<=sizeLine/\(a == sysModules)=false /\ ∃ vs,KV kvs vs/\h.DictOf (zDN P w) a vs
 | .dT kvs=>kvs.length<=sizeLine/\(a == sysModules)=false /\ ∃ xs:List (List Key × Addr × Value),
   Paired (fun (p:List Key × V) (q:List Key × Addr × Value)=>p.1=q.1/\H q.2.1=some (.tup (p.1.map kV))/\xY p.2 q.2.2) kvs xs /\
   ∃ o es ep,h.get? a=some o/\o.ExactDict/\o.data = .dict es ep/\es.toList=xs.map (entryOfKey (tupleKind (zDN P w)))/\(xs.map (·.1)).Nodup
 | .set S n=>h.SetOf (intKind P w) a S n
 | .ins C dx fs=>H dx=some (.own a)/\fs.length<=1000/\dx≠a/\h.get? a=some (W.instObj C dx) /\
   ∃ mA,h.Ns1 dx mA/\(∀ f,zDS (fs.lookup f) (mA f))/\PySem.Within mA (fs.map (·.1))
 | .own _=>∃ o,h.get? a=some o
 | .xd fs=>∃ mA,h.Ns1 a mA /\ ∀ f,zDS (fs.lookup f) (mA f)
 | .rng lo hi=>∃ t u v,h.get? a=some { cls:=.type "range", data:=.fields #[.int lo t,.int hi u,.int 1 v] }
 | .frz o u=>h.get? a=some o/\xO H h a u
 | .tbl ps=>h.get? a=some { cls:=.none,data:=.fields ps }
 | .met f x=>h.get? a=some (W.methodObj (.ref f) (.ref x))
 | .ext φ=>φ h/\(∃ o,h.get? a=some o) /\ ∀ h1 h2:Heap,φ h1->(∀ o,h1.get? a=some o->h2.get? a=some o)->φ h2
def HOk (H:Hp) (h:Heap):Prop:=∀ a o,H a=some o->xO P w H h a o
end
section
variable {P : Program} {w : World} {H H' : Hp} {h h' : Heap} {a : Addr} {o : HO}
theorem xO.lt (x:xO P w H h a o):a < h.objs.size:=by
 cases o with
 | lst xs=>obtain ⟨_,_,_,_,e⟩:=x;exact Heap.lt_size e
 | tup xs=>obtain ⟨_,_,_,p⟩:=x;exact p.lt
 | dK kvs=>obtain ⟨_,_,_,_,o,_,_,e,_⟩:=x;exact Heap.lt_size e
 | dT kvs=>obtain ⟨_,_,_,_,o,_,_,e,_⟩:=x;exact Heap.lt_size e
 | set S n=>obtain ⟨o,_,_,_,e,_⟩:=x;exact Heap.lt_size e
 | ins C dx fs=>obtain ⟨_,_,_,e,_⟩:=x;exact Heap.lt_size e
 | own y=>obtain ⟨_,e⟩:=x;exact Heap.lt_size e
 | xd fs=>obtain ⟨_,⟨_,_,_,e,_⟩,_⟩:=x;exact Heap.lt_size e
 | rng lo hi=>obtain ⟨_,_,_,e⟩:=x;exact Heap.lt_size e
 | frz ob u=>obtain ⟨e,_⟩:=x;exact Heap.lt_size e
 | tbl ps=>exact Heap.lt_size (show h.get? a=some _ from x)
 | met f y=>exact Heap.lt_size (show h.get? a=some _ from x)
 | ext φ=>obtain ⟨_,⟨_,e⟩,_⟩:=x;exact Heap.lt_size e
theorem Paired.mapP {α β:Type} {F G:α->β->Prop} : ∀ {l₁:List α} {l₂:List β},Paired F l₁ l₂->(∀ a b,F a b->G a b)->Paired G l₁ l₂
 | _,_,.nil,_=>.nil
 | _,_,.cons r t,f=>.cons (f _ _ r) (Paired.mapP t f)
theorem xO.stay (x:xO P w H h a o) (k : ∀ b u,(b=a\/H b=some (.own a))->h.get? b=some u->h'.get? b=some u)
  (ho : ∀ b,H b=some (.own a)->H' b=some (.own a)) (ht : ∀ b xs,H b=some (.tup xs)->H' b=some (.tup xs)):xO P w H' h' a o:=by
 induction o with
 | lst xs=>obtain ⟨z,its,n,r,e⟩:=x;exact ⟨z,its,n,r,k _ _ (.inl rfl) e⟩
 | tup xs=>obtain ⟨z,its,r,ob,e,c⟩:=x;exact ⟨z,its,r,ob,k _ _ (.inl rfl) e,c⟩
 | dK kvs=>obtain ⟨z,y,vs,r,ob,es,ep,e,c⟩:=x;exact ⟨z,y,vs,r,ob,es,ep,k _ _ (.inl rfl) e,c⟩
 | dT kvs =>
  obtain ⟨z,y,xs,r,ob,es,ep,e,c⟩:=x
  exact ⟨z,y,xs,Paired.mapP r fun p q z=>⟨z.1,ht _ _ z.2.1,z.2.2⟩,ob,es,ep,k _ _ (.inl rfl) e,c⟩
 | set S n=>obtain ⟨ob,es,ep,t,e,c⟩:=x;exact ⟨ob,es,ep,t,k _ _ (.inl rfl) e,c⟩
 | ins C dx fs =>
  obtain ⟨d,z,ne,e,mA,⟨od,es,ep,e2,c⟩,r⟩:=x
  exact ⟨ho _ d,z,ne,k _ _ (.inl rfl) e,mA,⟨od,es,ep,k _ _ (.inr d) e2,c⟩,r⟩
 | own y=>obtain ⟨ob,e⟩:=x;exact ⟨ob,k _ _ (.inl rfl) e⟩
 | xd fs=>obtain ⟨mA,⟨od,es,ep,e,c⟩,r⟩:=x;exact ⟨mA,⟨od,es,ep,k _ _ (.inl rfl) e,c⟩,r⟩
 | rng lo hi=>obtain ⟨t,u,v,e⟩:=x;exact ⟨t,u,v,k _ _ (.inl rfl) e⟩
 | frz ob u ih=>obtain ⟨e,q⟩:=x;exact ⟨k _ _ (.inl rfl) e,ih q⟩
 | tbl ps =>
  have e:h.get? a=some { cls:=.none,data:=.fields ps }:=x
  show h'.get? a=some { cls:=.none,data:=.fields ps }
  exact k a _ (.inl rfl) e
 | met f y =>
  have e:h.get? a=some (W.methodObj (.ref f) (.ref y)):=x
  show h'.get? a=some (W.methodObj (.ref f) (.ref y))
  exact k a _ (.inl rfl) e
 | ext φ=>obtain ⟨p,⟨o,e⟩,st⟩:=x;exact ⟨st _ _ p fun o q=>k _ _ (.inl rfl) q,⟨o,k _ _ (.inl rfl) e⟩,st⟩
theorem HOk.lt (x:HOk P w H h) (e:H a=some o):a < h.objs.size:=(x a o e).lt
theorem HOk.fresh (x:HOk P w H h) (e:h.objs.size<=a):H a=none:=by
 cases q:H a with
 | none=>rfl
 | some u=>exact absurd (lt_of_lt_of_le (x.lt q) e) (lt_irrefl _)
theorem HOk.kept (x:HOk P w H h) (k : ∀ b u,h.get? b=some u->h'.get? b=some u):HOk P w H h':=fun a o e =>
 (x a o e).stay (fun b u _ q=>k b u q) (fun _ q=>q) fun _ _ q=>q
theorem HOk.laid (x:HOk P w H h) (k : ∀ b u,h.get? b=some u->h'.get? b=some u) (hp:h.objs.size<=a) (new:xO P w (upd H a o) h' a o):HOk P w (upd H a o) h':=fun b u e=>by
 have hn:=x.fresh hp
 by_cases hb:b=a
 ·subst hb;rw [zR] at e;cases e;exact new
 ·rw [qB hb] at e
  exact (x b u e).stay (fun c v _ q=>k c v q) (fun c q=>by rw [qB (qT q hn)];exact q) fun c xs q=>by rw [qB (qT q hn)];exact q
end
def Rd (H:Hp) (a:Addr) (u:HO):Prop:=H a=some u \/ ∃ o,H a=some (.frz o u)
theorem Rd.of (h:H a=some u):Rd H a u:=.inl h
variable {P:Program} {w:World} {h:Heap}
theorem Rd.ok (r:Rd H a u) (x:HOk P w H h):xO P w H h a u:=by
 rcases r with r | ⟨o,r⟩
 ·exact x a u r
 ·obtain ⟨_,q⟩:=x a _ r
  exact q
def Mut:Option HO->Prop
 | some (.lst _)=>True
 | some (.dK _)=>True
 | some (.dT _)=>True
 | some (.set _ _)=>True
 | some (.ins _ _ _)=>True
 | some (.ext _)=>True
 | _=>False
section
variable {P : Program} {w : World} {H : Hp} {h h' : Heap} {x e : Addr} {o' : HO}
theorem HOk.write (ok:HOk P w H h) (mu:Mut (H x)) (he:e=x\/H e=some (.own x)) (k : ∀ b u,b≠e->h.get? b=some u->h'.get? b=some u) (heo : ∃ u,h'.get? e=some u)
  (new:xO P w (upd H x o') h' x o'):HOk P w (upd H x o') h':=fun b u q=>by
 have nown : ∀ c y,H c=some (.own y)->c≠x:=fun c y r z=>by subst z;rw [r] at mu;exact mu
 have ntup : ∀ c xs,H c=some (.tup xs)->c≠x:=fun c xs r z=>by subst z;rw [r] at mu;exact mu
 by_cases hb:b=x
 ·subst hb;rw [zR] at q;cases q;exact new
 ·rw [qB hb] at q
  by_cases hbe:b=e
  ·have q':H b=some (.own x):=by
    rcases he with z | z
    ·exact absurd (hbe.trans z) hb
    ·rw [hbe];exact z
   rw [q] at q';cases q'
   obtain ⟨v,hv⟩:=heo
   exact ⟨v,by rw [hbe];exact hv⟩
  ·refine (ok b u q).stay (fun c v hc r=>k c v ?_ r) (fun c r=>by rw [qB (nown c b r)];exact r) fun c xs r=>by rw [qB (ntup c xs r)];exact r
   rcases hc with rfl | hc
   ·exact hbe
   ·rintro rfl
    rcases he with z | z
    ·exact nown c b hc z
    ·rw [hc] at z;cases z;exact hb rfl
end
structure Un (fs ex:List Addr) (H H':Hp) (h h':Heap):Prop where
 keep : ∀ b o,h.get? b=some o->H b=none->b ∉ fs->b ∉ ex->h'.get? b=some o
 slot : ∀ b o,h.get? b=some o->H b=none->b ∈ fs->b ∉ ex -> ∃ sl,h'.get? b=some { o with slots:=sl }
 free : ∀ b o,h.get? b=some o->H b=none->b ∉ ex->H' b=none
 there : ∀ b o,h.get? b=some o->b ∉ ex -> ∃ o',h'.get? b=some o'
 tups : ∀ b xs,H b=some (.tup xs)->H' b=some (.tup xs)
 frzs : ∀ b o u,H b=some (.frz o u)->H' b=some (.frz o u)
 tbls : ∀ b ps,H b=some (.tbl ps) -> ∃ more,H' b=some (.tbl (ps++more))
section
variable {fs fs' ex ex' : List Addr} {H H1 H2 : Hp} {h h1 h2 h' : Heap} {a x e : Addr} {o : HO}
theorem Un.any (u:Un fs ex H H1 h h1) {ob:Obj} (q:h.get? b=some ob) (n:H b=none) (hx:b ∉ ex) : ∃ sl,h1.get? b=some { ob with slots:=sl }:=by
 by_cases hb:b ∈ fs
 ·exact u.slot b ob q n hb hx
 ·exact ⟨ob.slots,u.keep b ob q n hb hx⟩
theorem Un.trans (a:Un fs ex H H1 h h1) (b:Un fs ex H1 H2 h1 h2):Un fs ex H H2 h h2 where
 keep:=fun c ob q n hc hx=>b.keep c ob (a.keep c ob q n hc hx) (a.free c ob q n hx) hc hx
 slot:=fun c ob q n hc hx=>by
  obtain ⟨sl,e1⟩:=a.slot c ob q n hc hx
  obtain ⟨sl',e2⟩:=b.slot c _ e1 (a.free c ob q n hx) hc hx
  exact ⟨sl',e2⟩
 free:=fun c ob q n hx=>by
  obtain ⟨o',e1⟩:=a.there c ob q hx
  exact b.free c o' e1 (a.free c ob q n hx) hx
 there:=fun c ob q hx=>by
  obtain ⟨o',e1⟩:=a.there c ob q hx
  exact b.there c o' e1 hx
 tups:=fun c xs q=>b.tups c xs (a.tups c xs q)
 frzs:=fun c ob xs q=>b.frzs c ob xs (a.frzs c ob xs q)
 tbls:=fun c ps q=>by
  obtain ⟨m1,e1⟩:=a.tbls c ps q
  obtain ⟨m2,e2⟩:=b.tbls c _ e1
  exact ⟨m1++m2,by rw [e2,Array.append_assoc]⟩
theorem Un.kept (k : ∀ b u,h.get? b=some u->h'.get? b=some u):Un fs ex H H h h':=
 ⟨fun b ob q _ _ _=>k b ob q,fun b ob q _ _ _=>⟨ob.slots,k b ob q⟩,fun _ _ _ n _=>n,fun b ob q _=>⟨ob,k b ob q⟩,fun _ _ q=>q,fun _ _ _ q=>q,fun _ ps q=>⟨#[],by rw [q];simp⟩⟩
theorem Un.refl:Un fs ex H H h h:=Un.kept fun _ _ q=>q
theorem Un.laid (k : ∀ b u,h.get? b=some u->h'.get? b=some u) (hp:h.objs.size<=a) (hn:H a=none):Un fs ex H (upd H a o) h h' where
 keep:=fun b u q _ _ _=>k b u q
 slot:=fun b u q _ _ _=>⟨u.slots,k b u q⟩
 free:=fun b u q n _=>by rw [qB (ne_of_lt (lt_of_lt_of_le (Heap.lt_size q) hp))];exact n
 there:=fun b u q _=>⟨u,k b u q⟩
 tups:=fun b xs q=>by rw [qB (qT q hn)];exact q
 frzs:=fun b u xs q=>by rw [qB (qT q hn)];exact q
 tbls:=fun b ps q=>⟨#[],by rw [qB (qT q hn),q];simp⟩
theorem Un.write (mu:Mut (H x)) (he:e=x\/H e=some (.own x)) (k : ∀ b u,b≠e->h.get? b=some u->h'.get? b=some u) (heo : ∃ u,h'.get? e=some u):Un fs ex H (upd H x o) h h':=by
 have hx : ∀ b,H b=none->b≠x:=fun b n z=>by subst z;rw [n] at mu;exact mu
 have hb : ∀ b,H b=none->b≠e:=fun b n z=>by
  subst z
  rcases he with r | r
  ·exact hx b n r
  ·rw [n] at r;cases r
 have hm : ∀ b u,H b=some u -> ¬ Mut (some u)->b≠x:=fun b u q nm z=>by subst z;rw [q] at mu;exact nm mu
 refine ⟨fun b u q n _ _=>k b u (hb b n) q,fun b u q n _ _=>⟨u.slots,k b u (hb b n) q⟩,fun b u q n _=>by rw [qB (hx b n)];exact n,fun b u q _=>?_,
  fun b xs q=>by rw [qB (hm b _ q fun z=>z)];exact q,fun b u xs q=>by rw [qB (hm b _ q fun z=>z)];exact q,fun b ps q=>⟨#[],by rw [qB (hm b _ q fun z=>z),q];simp⟩⟩
 by_cases hbe:b=e
 ·subst hbe;exact heo
 ·exact ⟨u,k b u hbe q⟩
theorem Un.mono (u:Un fs ex H H1 h h1) (hs : ∀ b ∈ fs,b ∈ fs') (hx : ∀ b ∈ ex,b ∈ ex'):Un fs' ex' H H1 h h1:=
 ⟨fun b ob q n hb he=>u.keep b ob q n (fun z=>hb (hs b z)) fun z=>he (hx b z),fun _ _ q n _ he=>u.any q n fun z=>he (hx _ z),fun b ob q n he=>u.free b ob q n fun z=>he (hx b z),fun b ob q he=>u.there b ob q fun z=>he (hx b z),u.tups,u.frzs,u.tbls⟩
end
def trk (h:Heap) (H:Hp):List Addr:=(List.range h.objs.size).filter fun a=>(H a).isSome
def zD4 (h:Heap) (H:Hp):Heap:=W.hideAll h (trk h H)
theorem zDL (h:Heap) (H:Hp):(zD4 h H).objs.size=h.objs.size:=W.hideAll_size _ _
theorem zEW {o:Obj} (e:h.get? b=some o) (n:H b=none):(zD4 h H).get? b=some o:=
 W.hideAll_get _ e fun hm=>by
  have q:(H b).isSome=true:=(List.mem_filter.mp hm).2
  rw [n] at q;simp at q
theorem zFf {o:Obj} (e:(zD4 h H).get? b=some o):h.get? b=some o/\H b=none:=by
 have e':h.get? b=some o:=W.of_hideAll (trk h H) e
 refine ⟨e',?_⟩
 cases q:H b with
 | none=>rfl
 | some x =>
  have hm:b ∈ trk h H:=List.mem_filter.mpr ⟨List.mem_range.mpr (Heap.lt_size e'),by simp [q]⟩
  have z:(zD4 h H).get? b=none:=W.hideAll_none (trk h H) hm
  rw [z] at e;cases e
def zF2 (g h:Heap) (L:Addr):List (Addr × Obj):=(List.range h.objs.size).filterMap fun a=>if a=L\/(g.get? a).isSome=true then none else (h.get? a).map fun o=>(a,o)
def Xt (g h:Heap) (L d:Addr):List (Addr × Obj):=(zF2 g h L).filter fun p=>decide (p.1≠d)
structure Mod (K:W.Frag) (mg:Str->Option Value) (base:Heap):Prop where
 kin:K.In base
 glob:base.Ns mainGlobals mg
 blt : ∃ mb,base.Ns builtinsNs mb /\ ∀ x:Str,x ≠ "__name__" -> mb x=bootBuiltins x
 nolimit:base.NoLimit
structure Cx where
 prog:Program
 w:World
 K:W.Frag
 mg:Str->Option Value
 base:Heap
 A:Around
 N:List Str
 s₀:Shared
 H₀:Hp
 env:Env
 outer:List Env
 stack:List Env
 ex:List Addr
 fn:Str->Bool
 calm:Bool
 pn:List (Addr × Obj)
 xe:Value->Shared->Prop
def frs (l:List Env):List Addr:=l.filterMap (·.frame)
abbrev Cx.fs (X:Cx):List Addr:=frs X.outer
def Vis (sc:Scope) (x:Str):Prop:=sc.names.lookup x=some .local\/sc.names.lookup x=some .cell\/sc.names.lookup x=some .free
def Loc (sc:Scope) (x:Str):Prop:=sc.names.lookup x=some .local\/sc.names.lookup x=some .cell
def zLX (env:Env) (h:Heap) (m:Str->Option Value) (x:Str) (u:Value):Prop:=
 (env.kindOf x=some .local/\m x=some u)\/((env.kindOf x=some .cell\/env.kindOf x=some .free) /\ ∃ c,env.cells.lookup x=some c/\h.IsCell c (some u))
structure Cx.Ok (X:Cx):Prop where
 mod:Mod X.K X.mg X.base
 kind:X.env.scope.kind = .function
 glob:X.env.globals=mainGlobals
 blt:X.env.builtins=builtinsNs
 above:X.s₀.heap.objs.size<=X.env.locals
 inj : ∀ x y c,X.env.cells.lookup x=some c->X.env.cells.lookup y=some c->x=y
 has : ∀ x,(X.env.kindOf x=some .cell\/X.env.kindOf x=some .free) -> ∃ c,X.env.cells.lookup x=some c
 cab : ∀ x c,X.fn x=true->X.env.cells.lookup x=some c->X.s₀.heap.objs.size<=c
 hd:X.calm=true->X.A.handled=none
 frames:X.A.frames=some X.stack
 stk:X.stack=X.outer\/(X.stack=X.env::X.outer/\X.env.frame=some X.env.locals)
 exf : ∀ b ∈ X.ex,b≠X.env.locals /\ ∀ x c,X.env.cells.lookup x=some c->c≠b
 bs : ∀ b o,X.base.get? b=some o->X.s₀.heap.get? b=some o/\X.H₀ b=none
 bsz:X.base.objs.size<=X.s₀.heap.objs.size
 noex : ∀ b o,X.base.get? b=some o->b ∉ X.ex
 exfs : ∀ b ∈ X.ex,b ∉ X.fs
 funs:X.s₀.heap.FunFrames X.base X.outer
 frf : ∀ b ∈ X.fs,X.H₀ b=none
structure Inv (X:Cx) (pins:List (Addr × Obj)) (σ:List (Option V)) (H:Hp) (s:Shared):Prop where
 ok:X.Ok
 os:s.os=X.s₀.os
 bare:AllBare s.gens
 base:Un X.fs X.ex X.H₀ H X.s₀.heap s.heap
 loc : ∃ m,s.heap.Ns X.env.locals m /\ ∀ (i:Nat) (x:Str) (v:V),X.N[i]? = some x->σ[i]? = some (some v)->Vis X.env.scope x -> ∃ u,xY v u/\zLX X.env s.heap m x u
 cell : ∀ x c,X.env.cells.lookup x=some c -> ∃ v,s.heap.IsCell c v
 free:H X.env.locals=none
 freeC : ∀ x c,X.env.cells.lookup x=some c->H c=none
 pin : ∀ p ∈ X.pn++pins,s.heap.get? p.1=some p.2/\H p.1=none/\p.1≠X.env.locals/\p.1 ∉ X.fs /\ ∀ v,p.2.data ≠ .cell v
 hok:HOk X.prog X.w H s.heap
 len:σ.length=X.N.length
section
variable {X : Cx} {pins : List (Addr × Obj)} {σ : List (Option V)} {H H' : Hp} {s : Shared} {h' : Heap}
theorem Cx.Ok.nofr (ok:X.Ok) {o:Obj} (e:X.base.get? b=some o):b ∉ X.fs:=fun hb=>by
 have:=(ok.funs.mem hb).1
 rw [e] at this;cases this
theorem Inv.bs (I:Inv X pins σ H s) : ∀ b o,X.base.get? b=some o->s.heap.get? b=some o/\H b=none:=fun b o e =>
 ⟨I.base.keep b o (I.ok.bs b o e).1 (I.ok.bs b o e).2 (I.ok.nofr e) (I.ok.noex b o e),I.base.free b o (I.ok.bs b o e).1 (I.ok.bs b o e).2 (I.ok.noex b o e)⟩
theorem Inv.bk (I:Inv X pins σ H s) : ∀ b o,X.base.get? b=some o->s.heap.get? b=some o:=fun b o e=>(I.bs b o e).1
theorem Inv.mod (I:Inv X pins σ H s):Mod X.K X.mg X.base:=I.ok.mod
theorem Inv.kIn (I:Inv X pins σ H s):X.K.In s.heap:=I.ok.mod.kin.keeps I.bk
theorem Inv.nolimit (I:Inv X pins σ H s):s.heap.NoLimit:=I.ok.mod.nolimit.keeps I.bk
theorem Inv.fr (I:Inv X pins σ H s) : ∃ m,Fr X.base X.env.locals s.heap m:=
 let ⟨m,hn,_⟩:=I.loc
 ⟨m,hn,I.bk,le_trans I.ok.bsz I.ok.above⟩
theorem Inv.lt (I:Inv X pins σ H s):X.env.locals < s.heap.objs.size:=let ⟨_,hn,_⟩:=I.loc;hn.lt
theorem Inv.sz (I:Inv X pins σ H s):X.s₀.heap.objs.size<=s.heap.objs.size:=le_trans I.ok.above (Nat.le_of_lt I.lt)
theorem Inv.nofs (I:Inv X pins σ H s) (h:s.heap.objs.size<=a):a ∉ X.fs:=fun hb=>by
 obtain ⟨_,o,ho,_⟩:=I.ok.funs.mem hb
 exact absurd (lt_of_lt_of_le (Heap.lt_size ho) (le_trans I.sz h)) (lt_irrefl _)
theorem Inv.cne (I:Inv X pins σ H s) : ∀ x c,X.env.cells.lookup x=some c->c≠X.env.locals:=fun x c e z=>by
 obtain ⟨v,o,ho,hd⟩:=I.cell x c e
 obtain ⟨m,⟨o',es,ep,ho',hd',_⟩,_⟩:=I.loc
 rw [z,ho'] at ho;cases ho;rw [hd'] at hd;cases hd
theorem Inv.funs (I:Inv X pins σ H s):s.heap.FunFrames X.base X.outer:=by
 have all : ∀ (l:List Env),(∀ b ∈ frs l,b ∈ X.fs)->X.s₀.heap.FunFrames X.base l->s.heap.FunFrames X.base l:=by
  intro l
  induction l with
  | nil=>intro _ _;trivial
  | cons env r ih =>
   intro hs hl
   obtain ⟨hk,⟨L,o,hf,hn,ho,hd⟩,hr⟩:=hl
   have hL:L ∈ X.fs:=hs L (by unfold frs;rw [List.filterMap_cons,hf];exact List.mem_cons_self)
   obtain ⟨sl,e⟩:=I.base.slot L o ho (I.ok.frf L hL) hL fun z=>I.ok.exfs L z hL
   exact ⟨hk,⟨L,_,hf,hn,e,hd⟩,ih (fun b hb=>hs b (by unfold frs;rw [List.filterMap_cons,hf];exact mem_cons_of_mem _ hb)) hr⟩
 exact all X.outer (fun _ hb=>hb) I.ok.funs
theorem Inv.stack (I:Inv X pins σ H s):s.heap.FunFrames X.base X.stack:=by
 rcases I.ok.stk with e | ⟨e,hf⟩
 ·rw [e];exact I.funs
 ·rw [e]
  obtain ⟨m,hn,_⟩:=I.loc
  refine .cons (by rw [I.ok.kind];decide) hf hn ?_ I.funs
  exact Heap.get?_none_of_le (le_trans I.ok.bsz I.ok.above)
theorem Inv.stkSub (I:Inv X pins σ H s) : ∀ b ∈ frs X.stack,b ∈ X.env.locals::X.fs:=fun b hb=>by
 rcases I.ok.stk with e | ⟨e,hf⟩
 ·rw [e] at hb;exact mem_cons_of_mem _ hb
 ·rw [e] at hb
  unfold frs at hb
  rw [List.filterMap_cons,hf] at hb
  exact hb
theorem Inv.stkFree (I:Inv X pins σ H s) : ∀ b ∈ frs X.stack,H b=none:=fun b hb=>by
 rcases List.mem_cons.mp (I.stkSub b hb) with e | hb
 ·rw [e];exact I.free
 ·obtain ⟨_,o,ho,_⟩:=I.ok.funs.mem hb
  exact I.base.free b o ho (I.ok.frf b hb) fun z=>I.ok.exfs b z hb
variable {t':Nat} {ch:List Addr}
theorem Inv.step {g':Array GenState} {d':Drawn} (I:Inv X pins σ H s)
  (hch : ∀ b ∈ ch,(b ∈ X.ex\/X.s₀.heap.objs.size<=b)/\b≠X.env.locals/\(∀ x c,X.env.cells.lookup x=some c->c≠b) /\ ∀ p ∈ X.pn++pins,p.1≠b)
  (keep : ∀ b o,b≠X.env.locals->b ∉ X.fs->b ∉ ch->s.heap.get? b=some o->H b=none->h'.get? b=some o)
  (slot : ∀ b o,b≠X.env.locals->b ∈ X.fs->b ∉ ch->s.heap.get? b=some o->H b=none -> ∃ sl,h'.get? b=some { o with slots:=sl }) (free : ∀ b o,b ∉ ch->s.heap.get? b=some o->H b=none->H' b=none)
  (there : ∀ b o,b ∉ ch->s.heap.get? b=some o -> ∃ o',h'.get? b=some o')
  (tups : ∀ b xs,H b=some (.tup xs)->H' b=some (.tup xs)) (frzs : ∀ b o u,H b=some (.frz o u)->H' b=some (.frz o u)) (tbls : ∀ b ps,H b=some (.tbl ps) -> ∃ more,H' b=some (.tbl (ps++more)))
  (ns : ∀ m,s.heap.Ns X.env.locals m->h'.Ns X.env.locals m) (hok:HOk X.prog X.w H' h') (hg:AllBare g') :
  Inv X pins σ H' { s with heap:=h',gens:=g',drawn:=d',toks:=t' }:=by
 have neL : ∀ b o,X.s₀.heap.get? b=some o->b≠X.env.locals:=fun b o e=>ne_of_lt (lt_of_lt_of_le (Heap.lt_size e) I.ok.above)
 have neC : ∀ b o,X.s₀.heap.get? b=some o->b ∉ X.ex->b ∉ ch:=fun b o e hx hb=>by
  rcases (hch b hb).1 with z | z
  ·exact hx z
  ·exact absurd (lt_of_lt_of_le (Heap.lt_size e) z) (lt_irrefl _)
 have cellK : ∀ x c,X.env.cells.lookup x=some c -> ∀ v,s.heap.IsCell c v->h'.IsCell c v:=fun x c e v ⟨o,ho,hd⟩=>by
  have nch:c ∉ ch:=fun z=>(hch c z).2.2.1 x c e rfl
  by_cases hc:c ∈ X.fs
  ·obtain ⟨sl,q⟩:=slot c o (I.cne x c e) hc nch ho (I.freeC x c e)
   exact ⟨_,q,hd⟩
  ·exact ⟨o,keep c o (I.cne x c e) hc nch ho (I.freeC x c e),hd⟩
 refine ⟨I.ok,I.os,hg,⟨fun b o e n hb hx=>?_,fun b o e n hb hx=>?_,fun b o e n hx=>?_,fun b o e hx=>?_,fun b xs e=>tups b xs (I.base.tups b xs e),fun b o xs e=>frzs b o xs (I.base.frzs b o xs e),fun b ps e=>?_⟩,?_,fun x c e=>?_,?_,fun x c e=>?_,fun p hp=>?_,hok,I.len⟩
 ·exact keep b o (neL b o e) hb (neC b o e hx) (I.base.keep b o e n hb hx) (I.base.free b o e n hx)
 ·obtain ⟨sl,e1⟩:=I.base.slot b o e n hb hx
  obtain ⟨sl',e2⟩:=slot b _ (neL b o e) hb (neC b o e hx) e1 (I.base.free b o e n hx)
  exact ⟨sl',e2⟩
 ·obtain ⟨o',e1⟩:=I.base.there b o e hx
  exact free b o' (neC b o e hx) e1 (I.base.free b o e n hx)
 ·obtain ⟨o',e1⟩:=I.base.there b o e hx
  exact there b o' (neC b o e hx) e1
 ·obtain ⟨m1,e1⟩:=I.base.tbls b ps e
  obtain ⟨m2,e2⟩:=tbls b _ e1
  exact ⟨m1++m2,by rw [e2,Array.append_assoc]⟩
 ·obtain ⟨m,hn,hl⟩:=I.loc
  refine ⟨m,ns m hn,fun i x v e1 e2 e3=>?_⟩
  obtain ⟨u,r,l⟩:=hl i x v e1 e2 e3
  refine ⟨u,r,?_⟩
  rcases l with l | ⟨k,c,e,z⟩
  ·exact .inl l
  ·exact .inr ⟨k,c,e,cellK x c e _ z⟩
 ·obtain ⟨v,z⟩:=I.cell x c e
  exact ⟨v,cellK x c e v z⟩
 ·obtain ⟨m,⟨o,_,_,ho,_⟩,_⟩:=I.loc
  exact free _ o (fun z=>(hch _ z).2.1 rfl) ho I.free
 ·obtain ⟨v,o,ho,hd⟩:=I.cell x c e
  exact free c o (fun z=>(hch c z).2.2.1 x c e rfl) ho (I.freeC x c e)
 ·obtain ⟨e,n,ne,nf,d⟩:=I.pin p hp
  have nch:p.1 ∉ ch:=fun z=>(hch p.1 z).2.2.2 p hp rfl
  exact ⟨keep p.1 p.2 ne nf nch e n,free p.1 p.2 nch e n,ne,nf,d⟩
theorem Inv.un (I:Inv X pins σ H s) (u:Un X.fs [] H H' s.heap h') (hok:HOk X.prog X.w H' h'):Inv X pins σ H' { s with heap:=h',toks:=t' }:=by
 obtain ⟨m,⟨o,es,ep,ho,r⟩,_⟩:=id I.loc
 obtain ⟨sl,hL⟩:=u.any ho I.free (by simp)
 exact I.step (g':=s.gens) (d':=s.drawn) (ch:=[]) (fun _ z=>nomatch z) (fun b o _ hb _ e n=>u.keep b o e n hb (by simp)) (fun b o _ hb _ e n=>u.slot b o e n hb (by simp)) (fun b o _ e n=>u.free b o e n (by simp)) (fun b o _ e=>u.there b o e (by simp)) u.tups u.frzs u.tbls (fun m' hm=>by
  obtain ⟨o',es',ep',ho',r'⟩:=hm
  rw [ho] at ho';cases ho'
  exact ⟨_,es',ep',hL,r'⟩) hok I.bare
theorem Inv.call {g':Array GenState} {d':Drawn} (I:Inv X pins σ H s) (u:Un (frs X.stack) ch H H' s.heap h') (hok:HOk X.prog X.w H' h') (hg:AllBare g')
  (hch : ∀ b ∈ ch,(b ∈ X.ex\/X.s₀.heap.objs.size<=b)/\b≠X.env.locals/\(∀ x c,X.env.cells.lookup x=some c->c≠b) /\ ∀ p ∈ X.pn++pins,p.1≠b) :
  Inv X pins σ H' { s with heap:=h',gens:=g',drawn:=d',toks:=t' }:=by
 obtain ⟨m,⟨o,es,ep,ho,r⟩,_⟩:=id I.loc
 obtain ⟨sl,hL⟩:=u.any ho I.free fun z=>(hch _ z).2.1 rfl
 exact I.step (ch:=ch) hch (fun b o hL hb hc e n=>u.keep b o e n (fun z=>(List.mem_cons.mp (I.stkSub b z)).elim hL hb) hc) (fun b o _ _ hc e n=>u.any e n hc) (fun b o hc e n=>u.free b o e n hc) (fun b o hc e=>u.there b o e hc) u.tups u.frzs u.tbls (fun m' hm=>by
  obtain ⟨o',es',ep',ho',r'⟩:=hm
  rw [ho] at ho';cases ho'
  exact ⟨_,es',ep',hL,r'⟩) hok hg
theorem Inv.turned {it:Addr} (I:Inv X pins σ H s) (k : ∀ b o,b≠it->s.heap.get? b=some o->h'.get? b=some o) (hn:H it=none) (hL:it≠X.env.locals)
  (h1:it ∈ X.ex\/X.s₀.heap.objs.size<=it) (h2 : ∀ x c,X.env.cells.lookup x=some c->c≠it) (h3 : ∀ p ∈ X.pn++pins,p.1≠it):Inv X pins σ H { s with heap:=h',toks:=t' }:=by
 have nit : ∀ b u,H b=some u->b≠it:=fun b u e z=>by rw [z,hn] at e;cases e
 refine I.step (g':=s.gens) (d':=s.drawn) (ch:=[it]) (fun b hb=>?_) (fun b o _ _ hc e _=>k b o (fun z=>hc (by simp [z])) e) (fun b o _ _ hc e _=>⟨o.slots,k b o (fun z=>hc (by simp [z])) e⟩) (fun _ _ _ _ n=>n)
  (fun b o hc e=>⟨o,k b o (fun z=>hc (by simp [z])) e⟩) (fun _ _ e=>e) (fun _ _ _ e=>e) (fun b ps e=>⟨#[],by rw [e];simp⟩) (fun m hm=>?_) (fun b u e=>?_) I.bare
 ·have e:b=it:=by simpa using hb
  subst e
  exact ⟨h1,hL,h2,h3⟩
 ·obtain ⟨o,es,ep,ho,r⟩:=hm
  exact ⟨o,es,ep,k _ o (Ne.symm hL) ho,r⟩
 ·refine (I.hok b u e).stay (fun c v hc q=>k c v ?_ q) (fun _ q=>q) fun _ _ q=>q
  rcases hc with z | z
  ·rw [z];exact nit b u e
  ·exact nit c _ z
theorem Inv.tok (I:Inv X pins σ H s) (t:Nat):Inv X pins σ H { s with toks:=t }:=I.un (h':=s.heap) (t':=t) Un.refl I.hok
theorem Inv.kept (I:Inv X pins σ H s) (k : ∀ b u,s.heap.get? b=some u->h'.get? b=some u):Inv X pins σ H { s with heap:=h',toks:=t' }:=I.un (Un.kept k) (I.hok.kept k)
theorem Inv.laid (I:Inv X pins σ H s) (k : ∀ b u,s.heap.get? b=some u->h'.get? b=some u) (hp:s.heap.objs.size<=a) (new:xO X.prog X.w (upd H a o) h' a o) :
  Inv X pins σ (upd H a o) { s with heap:=h',toks:=t' }:=I.un (Un.laid k hp (I.hok.fresh hp)) (I.hok.laid k hp new)
theorem Inv.write {x e:Addr} (I:Inv X pins σ H s) (mu:Mut (H x)) (he:e=x\/H e=some (.own x)) (k : ∀ b u,b≠e->s.heap.get? b=some u->h'.get? b=some u) (heo : ∃ u,h'.get? e=some u)
  (new:xO X.prog X.w (upd H x o) h' x o):Inv X pins σ (upd H x o) { s with heap:=h',toks:=t' }:=I.un (Un.write mu he k heo) (I.hok.write mu he k heo new)
theorem Inv.weak {σ':List (Option V)} (I:Inv X pins σ H s) (hl:σ'.length=σ.length) (w : ∀ (i:Nat) v,σ'[i]? = some (some v)->σ[i]? = some (some v)):Inv X pins σ' H s:=
 ⟨I.ok,I.os,I.bare,I.base,let ⟨m,hn,hl'⟩:=I.loc;⟨m,hn,fun i x v e1 e2 e3=>hl' i x v e1 (w i v e2) e3⟩,I.cell,I.free,I.freeC,I.pin,I.hok,hl.trans I.len⟩
theorem Inv.pins_of {pins':List (Addr × Obj)} (I:Inv X pins σ H s) (h : ∀ p ∈ pins',s.heap.get? p.1=some p.2/\H p.1=none/\p.1≠X.env.locals/\p.1 ∉ X.fs /\ ∀ v,p.2.data ≠ .cell v):Inv X pins' σ H s:=
 ⟨I.ok,I.os,I.bare,I.base,I.loc,I.cell,I.free,I.freeC,fun p hp=>(List.mem_append.mp hp).elim (fun z=>I.pin p (List.mem_append_left _ z)) (h p),I.hok,I.len⟩
variable {i:Nat} {x:Str}
theorem zAN {N:List Str} (hN:N.Nodup) {j:Nat} (a:N[i]? = some x) (b:N[j]? = some x):i=j:=by
 obtain ⟨h1,e1⟩:=List.getElem?_eq_some_iff.mp a
 obtain ⟨h2,e2⟩:=List.getElem?_eq_some_iff.mp b
 exact (List.getElem_inj hN).mp (e1.trans e2.symm)
theorem J7 {M:Model} {A:Around} {E:Value->Shared->Prop} {v:V} {u:Value} {Q:Unit->Shared->Prop} (I:Inv X pins σ H s) (hN:X.N.Nodup) (hi:X.N[i]? = some x) (hx:Loc X.env.scope x) (r:xY v u)
  (h : ∀ s',Inv X pins (σ.set i (some v)) H s'->(∃ a,Heap.SameBut a s.heap s'.heap/\(a=X.env.locals\/X.env.cells.lookup x=some a))->Q () s') (hf:X.fn x=true\/X.env.scope.names.lookup x=some .local:=by first | exact .inl rfl | exact .inr rfl | assumption):wpAny M A (storeName X.env x u) Q E s:=by
 obtain ⟨m,hn,hl⟩:=id I.loc
 have hcls:(X.env.scope.kind == .class || (X.env.scope.kind == .module && X.env.locals != X.env.globals))=false:=by rw [I.ok.kind];rfl
 have hiσ:i < σ.length:=by rw [I.len];exact (List.getElem?_eq_some_iff.mp hi).1
 have cne:=I.cne
 have tracked : ∀ {a:Addr} {h':Heap},(∃ o,s.heap.get? a=some o/\H a=none)->Heap.SameBut a s.heap h'->HOk X.prog X.w H h':=fun {a h'} ha hs b ob e=>by
  obtain ⟨_,_,hfree⟩:=ha
  refine (I.hok b ob e).stay (fun c w' hc q=>(hs.2 c ?_).trans q) (fun _ q=>q) fun _ _ q=>q
  rintro rfl
  rcases hc with rfl | hc
  ·rw [hfree] at e;cases e
  ·rw [hfree] at hc;cases hc
 rcases hx with hk | hk
 ·refine wpAny_storeName_local hk hn (fun h' hn' hs=>?_) hcls
  obtain ⟨oL,_,_,hoL,_⟩:=id hn
  refine h _ ⟨I.ok,I.os,I.bare,⟨fun b o e n hb hx=>?_,fun b o e n hb hx=>?_,I.base.free,fun b o e hx=>?_,I.base.tups,I.base.frzs,I.base.tbls⟩,⟨_,hn',fun j y v' e1 e2 e3=>?_⟩,fun y c e=>?_,I.free,I.freeC,fun p hp=>?_,tracked ⟨oL,hoL,I.free⟩ hs,by simpa using I.len⟩ ⟨_,hs,.inl rfl⟩
  ·exact (hs.2 b (ne_of_lt (lt_of_lt_of_le (Heap.lt_size e) I.ok.above))).trans (I.base.keep b o e n hb hx)
  ·obtain ⟨sl,e1⟩:=I.base.slot b o e n hb hx
   exact ⟨sl,(hs.2 b (ne_of_lt (lt_of_lt_of_le (Heap.lt_size e) I.ok.above))).trans e1⟩
  ·obtain ⟨o',e1⟩:=I.base.there b o e hx
   exact ⟨o',(hs.2 b (ne_of_lt (lt_of_lt_of_le (Heap.lt_size e) I.ok.above))).trans e1⟩
  ·by_cases hj:j=i
   ·subst hj
    rw [hi] at e1;cases e1
    rw [List.getElem?_set_self hiσ] at e2
    cases e2
    exact ⟨u,r,.inl ⟨hk,by simp⟩⟩
   ·rw [List.getElem?_set_ne (Ne.symm hj)] at e2
    obtain ⟨u',r',q⟩:=hl j y v' e1 e2 e3
    refine ⟨u',r',?_⟩
    rcases q with ⟨k,e⟩ | ⟨k,c,e,z⟩
    ·refine .inl ⟨k,?_⟩
     have:y≠x:=fun e=>hj (zAN hN e1 (e ▸ hi))
     simp [this,e]
    ·exact .inr ⟨k,c,e,z.sameBut hs (cne y c e)⟩
  ·obtain ⟨w',z⟩:=I.cell y c e
   exact ⟨w',z.sameBut hs (cne y c e)⟩
  ·obtain ⟨e,n,ne,nf,d⟩:=I.pin p hp
   exact ⟨(hs.2 p.1 ne).trans e,n,ne,nf,d⟩
 ·have hfn:X.fn x=true:=by
   rcases hf with z | z
   ·exact z
   ·rw [z] at hk;cases hk
  obtain ⟨c,hc⟩:=I.ok.has x (.inl hk)
  obtain ⟨w',z⟩:=I.cell x c hc
  refine wpAny_storeName_cell I.ok.kind hk hc z (fun h' hc' hs=>?_)
  obtain ⟨oc,hoc,hocd⟩:=id z
  refine h { s with heap:=h' } ⟨I.ok,I.os,I.bare,⟨fun b o e n hb hx=>?_,fun b o e n hb hx=>?_,I.base.free,fun b o e hx=>?_,I.base.tups,I.base.frzs,I.base.tbls⟩,⟨m,hn.sameBut hs (Ne.symm (cne x c hc)),fun j y v' e1 e2 e3=>?_⟩,fun y c' e=>?_,I.free,I.freeC,fun p hp=>?_,tracked ⟨oc,hoc,I.freeC x c hc⟩ hs,by simpa using I.len⟩ ⟨c,hs,.inr hc⟩
  ·exact (hs.2 b (ne_of_lt (lt_of_lt_of_le (Heap.lt_size e) (I.ok.cab x c hfn hc)))).trans (I.base.keep b o e n hb hx)
  ·obtain ⟨sl,e1⟩:=I.base.slot b o e n hb hx
   exact ⟨sl,(hs.2 b (ne_of_lt (lt_of_lt_of_le (Heap.lt_size e) (I.ok.cab x c hfn hc)))).trans e1⟩
  ·obtain ⟨o',e1⟩:=I.base.there b o e hx
   exact ⟨o',(hs.2 b (ne_of_lt (lt_of_lt_of_le (Heap.lt_size e) (I.ok.cab x c hfn hc)))).trans e1⟩
  ·by_cases hj:j=i
   ·subst hj
    rw [hi] at e1;cases e1
    rw [List.getElem?_set_self hiσ] at e2
    cases e2
    exact ⟨u,r,.inr ⟨.inl hk,c,hc,hc'⟩⟩
   ·rw [List.getElem?_set_ne (Ne.symm hj)] at e2
    obtain ⟨u',r',q⟩:=hl j y v' e1 e2 e3
    refine ⟨u',r',?_⟩
    rcases q with q | ⟨k,c',e,z'⟩
    ·exact .inl q
    ·refine .inr ⟨k,c',e,z'.sameBut hs ?_⟩
     rintro rfl
     exact hj (zAN hN e1 (I.ok.inj _ _ _ e hc ▸ hi))
  ·by_cases hcc:c'=c
   ·subst hcc;exact ⟨_,hc'⟩
   ·obtain ⟨w2,z2⟩:=I.cell y c' e
    exact ⟨w2,z2.sameBut hs hcc⟩
  ·obtain ⟨e,n,ne,nf,d⟩:=I.pin p hp
   refine ⟨(hs.2 p.1 ?_).trans e,n,ne,nf,d⟩
   intro q
   rw [q,hoc] at e
   have q':oc=p.2:=Option.some.inj e
   exact d w' (by rw [<- q'];exact hocd)
theorem Jc {M:Model} {A:Around} {E:Value->Shared->Prop} {v:V} {u:Value} {Q:Unit->Shared->Prop} (I:Inv X pins σ H s) (hN:X.N.Nodup) (hi:X.N[i]? = some x) (hx:Loc X.env.scope x) (r:xY v u)
  (h : ∀ s',Inv X pins (σ.set i (some v)) H s'->Q () s') (hf:X.fn x=true\/X.env.scope.names.lookup x=some .local:=by first | exact .inl rfl | exact .inr rfl | assumption):wpAny M A (storeName X.env x u) Q E s:=
 J7 I hN hi hx r (fun s' I' _=>h s' I') hf
theorem Inv.call' {s':Shared} (I:Inv X pins σ H s) (ho:s'.os=s.os) (u:Un (frs X.stack) ch H H' s.heap s'.heap) (hok:HOk X.prog X.w H' s'.heap) (hg:AllBare s'.gens)
  (hch : ∀ b ∈ ch,(b ∈ X.ex\/X.s₀.heap.objs.size<=b)/\b≠X.env.locals/\(∀ x c,X.env.cells.lookup x=some c->c≠b) /\ ∀ p ∈ X.pn++pins,p.1≠b):Inv X pins σ H' s':=by
 obtain ⟨h',g',d',t',o'⟩:=s'
 have e:o'=s.os:=ho
 subst e
 exact I.call (g':=g') (t':=t') (d':=d') u hok hg hch
end
abbrev XK:=Value->Option Addr->Hp->Prop
abbrev St:=List (Option V)
abbrev VK:=V->Hp->Prop
abbrev TE:=St->Hp->VK->Prop
abbrev TT:=St->Hp->(Bool->Hp->Prop)->Prop
abbrev TA:=St->Hp->(List V->Hp->Prop)->Prop
structure QQ where
 nx:St->Hp->Prop
 rt:VK
 bk:St->Hp->Prop:=fun _ _=>False
 ct:St->Hp->Prop:=fun _ _=>False
abbrev TS:=QQ->St->Hp->Prop
def EP (X:Cx) (pins:List (Addr × Obj)) (σ:St) (Q:VK) (u:Value) (s':Shared):Prop:=∃ v H',Inv X pins σ H' s'/\xY v u/\Q v H'
def TP (X:Cx) (pins:List (Addr × Obj)) (σ:St) (Q:Bool->Hp->Prop) (b:Bool) (s':Shared):Prop:=∃ H',Inv X pins σ H' s'/\Q b H'
def AP (X:Cx) (pins:List (Addr × Obj)) (σ:St) (Q:List V->Hp->Prop) (us:List Value) (s':Shared):Prop:=∃ vs H',Inv X pins σ H' s'/\qR vs us/\Q vs H'
def SP (X:Cx) (pins:List (Addr × Obj)) (D:QQ) (f:Flow) (s':Shared):Prop:=
 match f with
 | .next=>∃ σ' H',Inv X pins σ' H' s'/\D.nx σ' H'
 | .brk=>∃ σ' H',Inv X pins σ' H' s'/\D.bk σ' H'
 | .cont=>∃ σ' H',Inv X pins σ' H' s'/\D.ct σ' H'
 | .ret u=>∃ v σ' H',Inv X pins σ' H' s'/\xY v u/\D.rt v H'
def PE (X:Cx) (e:Expr) (t:TE):Prop:=
 ∀ (pins:List (Addr × Obj)) (s:Shared) (σ:St) (H:Hp) (Q:VK),Inv X pins σ H s->t σ H Q->wpAny (model X.prog X.w) X.A (eval e X.env) (EP X pins σ Q) X.xe s
def PT (X:Cx) (e:Expr) (t:TT):Prop:=
 ∀ (pins:List (Addr × Obj)) (s:Shared) (σ:St) (H:Hp) (Q:Bool->Hp->Prop),Inv X pins σ H s->t σ H Q->wpAny (model X.prog X.w) X.A (isTrue e X.env (eval e X.env)) (TP X pins σ Q) X.xe s
def PW (X:Cx) (e:Expr) (t:TT):Prop:=
 ∀ (whole:Sem Value) (pins:List (Addr × Obj)) (s:Shared) (σ:St) (H:Hp) (Q:Bool->Hp->Prop),Inv X pins σ H s->t σ H Q->wpAny (model X.prog X.w) X.A (isTrue e X.env whole) (TP X pins σ Q) X.xe s
variable {X:Cx} {e:Expr}
theorem PW.pt {t:TT} (h:PW X e t):PT X e t:=h _
def PA (X:Cx) (es:List Expr) (t:TA):Prop:=
 ∀ (pos:Pos) (pins:List (Addr × Obj)) (s:Shared) (σ:St) (H:Hp) (Q:List V->Hp->Prop),Inv X pins σ H s->t σ H Q->wpAny (model X.prog X.w) X.A (spliced (backTo pos (starEach es X.env))) (AP X pins σ Q) X.xe s
def PS (X:Cx) (st:Stmt) (t:TS):Prop:=
 ∀ (pins:List (Addr × Obj)) (s:Shared) (σ:St) (H:Hp) (D:QQ),Inv X pins σ H s->t D σ H->wpAny (model X.prog X.w) X.A (exec st X.env) (SP X pins D) X.xe s
def PSs (X:Cx) (st:List Stmt) (t:TS):Prop:=
 ∀ (pins:List (Addr × Obj)) (s:Shared) (σ:St) (H:Hp) (D:QQ),Inv X pins σ H s->t D σ H->wpAny (model X.prog X.w) X.A (execs st X.env) (SP X pins D) X.xe s
variable {A:Around} {E:Value->Shared->Prop} {s:Shared}
theorem thn {α:Type} {t:Sem α} {Q Q':α->Shared->Prop} {M:Model} (h:wpAny M A t Q E s) (hQ : ∀ a s,Q a s->Q' a s):wpAny M A t Q' E s:=wpAny_mono h hQ fun _ _ x=>x
section
variable {X : Cx}
def zIu (i:Nat):TE:=fun σ H Q=>∃ v,σ[i]? = some (some v)/\Q v H
def tC (v:V):TE:=fun _ H Q=>Q v H
variable {x:Str} {pos:Pos}
theorem zH7 {i:Nat} (hN:X.N[i]? = some x) (hv:Vis X.env.scope x) (hd:(x == ("__debug__" : Str))=false:=by decide) (hcd:(x == ("__classdict__" : Str))=false:=by decide):PE X (.Name x pos) (zIu i):=by
 intro pins s σ H Q I h
 obtain ⟨v,e,h⟩:=h
 obtain ⟨m,hn,hl⟩:=I.loc
 obtain ⟨u,r,l⟩:=hl i x v hN e hv
 have fin:EP X pins σ Q u s:=⟨v,H,I,r,h⟩
 rcases l with ⟨hk,hm⟩ | ⟨hk,c,hc,hcell⟩
 ·exact wpAny_Name (wpAny_loadName_local I.ok.kind hk hn hm fin) hd
 ·rcases hk with hk | hk
  ·exact wpAny_Name (wpAny_loadName_cell I.ok.kind hk hc hcell fin) hd
  ·exact wpAny_Name (wpAny_loadName_free I.ok.kind hk hc hcell fin hcd) hd
theorem zD {i j pos}:PE X (.Constant (.int i) j pos) (tC (.int i)):=fun _ _ _ H _ I h=>wpAny_Constant_int ⟨.int i,H,I.tok _,⟨_,rfl⟩,h⟩
theorem xE {b j pos}:PE X (.Constant (.bool b) j pos) (tC (.bl b)):=fun _ _ _ H _ I h=>Constant_bool ⟨.bl b,H,I,rfl,h⟩
theorem Kp {j pos}:PE X (.Constant .none j pos) (tC .non):=fun _ _ _ H _ I h=>Constant_none ⟨.non,H,I,rfl,h⟩
theorem zd {x j pos}:PE X (.Constant (.str x) j pos) (tC (.str x)):=fun _ _ _ H _ I h=>Calls.Constant_str ⟨.str x,H,I.tok _,⟨_,rfl⟩,h⟩
def Gl (X:Cx) (x:Str):Prop:=X.env.kindOf x=some .globalImplicit
theorem jE {pins:List (Addr × Obj)} {σ:St} {u:Value} {Q:Value->Shared->Prop} (I:Inv X pins σ H s) (hg:Gl X x) (hm:X.mg x=some u) (h:Q u s)
  (hd:(x == ("__debug__" : Str))=false:=by decide):wpAny (model X.prog X.w) X.A (eval (.Name x pos) X.env) Q E s:=
 Calls.Name_function_global I.ok.kind hg (Calls.loadGlobal_global (by rw [I.ok.glob];exact I.mod.glob.keeps I.bk) hm h) hd
theorem YD {pins:List (Addr × Obj)} {σ:St} {u:Value} {Q:Value->Shared->Prop} (I:Inv X pins σ H s) (hg:Gl X x) (hm:X.mg x=none) (hv:bootBuiltins x=some u) (h:Q u s)
  (hn:x ≠ "__name__" := by decide) (hd:(x == ("__debug__" : Str))=false:=by decide):wpAny (model X.prog X.w) X.A (eval (.Name x pos) X.env) Q E s:=by
 obtain ⟨mb,h1,h2⟩:=I.mod.blt
 exact Calls.Name_function_global I.ok.kind hg (Calls.loadGlobal_builtin (by rw [I.ok.glob];exact I.mod.glob.keeps I.bk) hm (by rw [I.ok.blt];exact h1.keeps I.bk) ((h2 x hn).trans hv) h) hd
theorem qy {v:V} {u:Value} (hg:Gl X x) (hm:X.mg x=some u) (r:xY v u) (hd:(x == ("__debug__" : Str))=false:=by decide):PE X (.Name x pos) (tC v):=
 fun _ _ _ H _ I h=>jE I hg hm ⟨v,H,I,r,h⟩ hd
theorem x3 {v:V} {u:Value} (hg:Gl X x) (hm:X.mg x=none) (hv:bootBuiltins x=some u) (r:xY v u) (hn:x ≠ "__name__" := by decide) (hd:(x == ("__debug__" : Str))=false:=by decide):PE X (.Name x pos) (tC v):=
 fun _ _ _ H _ I h=>YD I hg hm hv ⟨v,H,I,r,h⟩ hn hd
variable {a b : Expr} {ta tb : TE} {pos : Pos}
def tB (t:TE):TT:=fun σ H Q=>t σ H fun x H1=>∃ c,x = .bl c/\Q c H1
theorem qH {t:TE} (h:PE X e t) (he : ∀ whole,isTrue e X.env whole=(do let v <- whole;standAt e.pos;holding [v] (truthy v)):=by intro _;rfl):PT X e (tB t):=by
 intro pins s σ H Q I hw
 refine isTrue_plain (thn (h pins s σ H _ I hw) fun v s1 zq=>?_) (he _)
 obtain ⟨x,H1,I1,r1,q1⟩:=zq
 obtain ⟨d,rfl,q⟩:=q1
 cases r1
 exact wpAny_truthy_bool ⟨H1,I1,q⟩
variable {tA tB' : TT} {Xt : List Expr}
def zK3 (t u:TT):TT:=fun σ H Q=>t σ H fun c H1=>if c=true then u σ H1 Q else Q false H1
def tOr (t u:TT):TT:=fun σ H Q=>t σ H fun c H1=>if c=true then Q true H1 else u σ H1 Q
def zK0 (t:TT):TT:=fun σ H Q=>t σ H fun c H1=>Q (!c) H1
theorem xW (ha:PT X a tA):PW X (.BoolOp .And [a] pos) tA:=by
 intro wh pins s σ H Q I h
 refine isTrue_and (thn (ha pins s σ H Q I h) fun c s1 e=>?_)
 cases c with
 | true=>exact isTrue_and_nil e
 | false=>exact e
theorem y7 (ha:PT X a tA):PW X (.BoolOp .Or [a] pos) tA:=by
 intro wh pins s σ H Q I h
 refine isTrue_or (thn (ha pins s σ H Q I h) fun c s1 e=>?_)
 cases c with
 | false=>exact isTrue_or_nil e
 | true=>exact e
theorem yC (ha:PT X a tA) (hb:PW X (.BoolOp .And (b::Xt) pos) tB'):PW X (.BoolOp .And (a::b::Xt) pos) (zK3 tA tB'):=by
 intro wh pins s σ H Q I h
 refine isTrue_and (thn (ha pins s σ H _ I h) fun c s1 zq=>?_)
 obtain ⟨H1,I1,q1⟩:=zq
 cases c with
 | true=>exact hb wh pins s1 σ H1 Q I1 q1
 | false=>exact ⟨H1,I1,q1⟩
theorem Qf (ha:PT X a tA) (hb:PW X (.BoolOp .Or (b::Xt) pos) tB'):PW X (.BoolOp .Or (a::b::Xt) pos) (tOr tA tB'):=by
 intro wh pins s σ H Q I h
 refine isTrue_or (thn (ha pins s σ H _ I h) fun c s1 zq=>?_)
 obtain ⟨H1,I1,q1⟩:=zq
 cases c with
 | true=>exact ⟨H1,I1,q1⟩
 | false=>exact hb wh pins s1 σ H1 Q I1 q1
theorem qc (ha:PT X a tA):PT X (.UnaryOp .Not a pos) (zK0 tA):=by
 intro pins s σ H Q I h
 exact isTrue_not (ha pins s σ H (fun c H1=>Q (!c) H1) I h)
def zJW (ta tb:TE):TE:=fun σ H Q=>ta σ H fun x H1=>∃ c,x = .bl c/\if c=true then tb σ H1 Q else Q (.bl false) H1
def zLG (ta tb:TE):TE:=fun σ H Q=>ta σ H fun x H1=>∃ c,x = .bl c/\if c=true then Q (.bl true) H1 else tb σ H1 Q
def zIJ (ta:TE):TE:=fun σ H Q=>ta σ H fun x H1=>∃ c,x = .bl c/\Q (.bl (!c)) H1
theorem JF {op} {t:TE} (h:PE X a t):PE X (.BoolOp op [a] pos) t:=fun pins s σ H Q I hw=>BoolOp_one (h pins s σ H Q I hw)
theorem Q8 (ha:PE X a ta) (hb:PE X (.BoolOp .And (b::Xt) pos) tb):PE X (.BoolOp .And (a::b::Xt) pos) (zJW ta tb):=by
 intro pins s σ H Q I h
 refine BoolOp_and (thn (ha pins s σ H _ I h) fun v s1 zq=>?_)
 obtain ⟨x,H1,I1,r1,q1⟩:=zq
 obtain ⟨c,rfl,q1⟩:=q1
 cases r1
 refine wpAny_truthy_bool ?_
 cases c with
 | true=>exact hb pins s1 σ H1 Q I1 q1
 | false=>exact ⟨.bl false,H1,I1,rfl,q1⟩
theorem zKA (ha:PE X a ta) (hb:PE X (.BoolOp .Or (b::Xt) pos) tb):PE X (.BoolOp .Or (a::b::Xt) pos) (zLG ta tb):=by
 intro pins s σ H Q I h
 refine BoolOp_or (thn (ha pins s σ H _ I h) fun v s1 zq=>?_)
 obtain ⟨x,H1,I1,r1,q1⟩:=zq
 obtain ⟨c,rfl,q1⟩:=q1
 cases r1
 refine wpAny_truthy_bool ?_
 cases c with
 | false=>exact hb pins s1 σ H1 Q I1 q1
 | true=>exact ⟨.bl true,H1,I1,rfl,q1⟩
theorem zFI (ha:PE X a ta):PE X (.UnaryOp .Not a pos) (zIJ ta):=by
 intro pins s σ H Q I h
 refine UnaryOp_ (thn (ha pins s σ H _ I h) fun v s1 zq=>?_)
 obtain ⟨x,H1,I1,r1,q1⟩:=zq
 obtain ⟨c,rfl,q1⟩:=q1
 cases r1
 exact not_of (wpAny_truthy_bool ⟨.bl (!c),H1,I1,rfl,q1⟩)
def tIf (t:TT) (ta tb:TE):TE:=fun σ H Q=>t σ H fun c H1=>if c=true then ta σ H1 Q else tb σ H1 Q
theorem Y0 {c:Expr} (hc:PT X c tA) (ha:PE X a ta) (hb:PE X b tb):PE X (.IfExp c a b pos) (tIf tA ta tb):=by
 intro pins s σ H Q I h
 refine wpAny_IfExp (thn (hc pins s σ H _ I h) fun d s1 zq=>?_)
 obtain ⟨H1,I1,q1⟩:=zq
 cases d with
 | true=>exact ha pins s1 σ H1 Q I1 q1
 | false=>exact hb pins s1 σ H1 Q I1 q1
end
def SqL (K:W.Frag) (H:Hp) (a:Addr) (xs:List V):Prop:=
 Rd H a (.lst xs) \/
  ∃ (o:Obj) (its:Array Value) (n:Nat),K.lookup a=some o/\o.cls = .type "list" /\ o.dict=none/\o.data = .seq its n/\its.size<=sizeLine/\qR xs its.toList
def SqT (K:W.Frag) (H:Hp) (a:Addr) (xs:List V):Prop:=
 Rd H a (.tup xs) \/
  ∃ (o:Obj) (its:Array Value) (n:Nat),K.lookup a=some o/\o.cls = .type "tuple" /\ o.data = .seq its n/\its.size<=sizeLine/\qR xs its.toList
def zLo:Value->Option V
 | .none=>some .non
 | .bool b=>some (.bl b)
 | .int i _=>some (.int i)
 | .str x _=>some (.str x)
 | .bytes b _=>some (.byt b)
 | .float b _=>some (.flt b)
 | .ref a=>some (.ref a)
 | .type n=>some (.ty n)
 | _=>none
variable {x:V}
theorem xY.abs {u:Value} (r:xY x u):zLo u=some x:=by
 cases x with
 | non=>cases r;rfl
 | bl _=>cases r;rfl
 | int _=>obtain ⟨t,rfl⟩:=r;rfl
 | str _=>obtain ⟨t,rfl⟩:=r;rfl
 | byt _=>obtain ⟨t,rfl⟩:=r;rfl
 | flt _=>obtain ⟨t,rfl⟩:=r;rfl
 | ref _=>cases r;rfl
 | ty _=>cases r;rfl
variable {y:V}
theorem xY.inj {u:Value} (r:xY x u) (q:xY y u):x=y:=Option.some.inj (r.abs.symm.trans q.abs)
theorem qR.inj : ∀ {xs ys:List V} {us:List Value},qR xs us->qR ys us->xs=ys
 | _,_,_,.nil,.nil=>rfl
 | _,_,_,.cons r t,.cons r' t'=>by rw [r.inj r',qR.inj t t']
section
variable {X : Cx} {pins : List (Addr × Obj)} {σ : St} {H : Hp} {s : Shared} {a : Addr} {xs ys : List V}
theorem SqL.of {K:W.Frag} (h:H a=some (.lst xs)):SqL K H a xs:=.inl (.inl h)
theorem SqT.of {K:W.Frag} (h:H a=some (.tup xs)):SqT K H a xs:=.inl (.inl h)
theorem Inv.list (I:Inv X pins σ H s) (h:SqL X.K H a xs) : ∃ its:List Value,qR xs its/\PlainL s.heap a its.toArray/\xs.length<=sizeLine:=by
 rcases h with h | ⟨o,its,n,hk,hc,hd,hs,hz,r⟩
 ·obtain ⟨z,its,n,r,e⟩:=h.ok I.hok
  exact ⟨its,r,⟨_,n,e,rfl,rfl,rfl⟩,z⟩
 ·refine ⟨its.toList,r,⟨o,n,I.kIn a o hk,hc,hd,by simpa using hs⟩,?_⟩
  have e:=r.length
  simp only [Array.length_toList] at e
  omega
theorem Inv.tuple (I:Inv X pins σ H s) (h:SqT X.K H a xs) : ∃ its:List Value,qR xs its/\IsTup s.heap a its.toArray/\xs.length<=sizeLine:=by
 rcases h with h | ⟨o,its,n,hk,hc,hs,hz,r⟩
 ·obtain ⟨z,its,r,p⟩:=h.ok I.hok
  exact ⟨its,r,p,z⟩
 ·refine ⟨its.toList,r,⟨o,I.kIn a o hk,hc,n,by simpa using hs⟩,?_⟩
  have e:=r.length
  simp only [Array.length_toList] at e
  omega
theorem Inv.list_inj (I:Inv X pins σ H s) (h:SqL X.K H a xs) (h':SqL X.K H a ys):xs=ys:=by
 obtain ⟨its,r,⟨o,n,e,_,_,d⟩,_⟩:=I.list h
 obtain ⟨its',r',⟨o',n',e',_,_,d'⟩,_⟩:=I.list h'
 rw [e] at e';cases e'
 rw [d] at d'
 injection d' with d1 _
 have:its=its':=by simpa using congrArg Array.toList d1
 subst this
 exact r.inj r'
theorem Inv.tuple_inj (I:Inv X pins σ H s) (h:SqT X.K H a xs) (h':SqT X.K H a ys):xs=ys:=by
 obtain ⟨its,r,⟨o,e,_,n,d⟩,_⟩:=I.tuple h
 obtain ⟨its',r',⟨o',e',_,n',d'⟩,_⟩:=I.tuple h'
 rw [e] at e';cases e'
 rw [d] at d'
 injection d' with d1 _
 have:its=its':=by simpa using congrArg Array.toList d1
 subst this
 exact r.inj r'
end
abbrev Cx.wish (X:Cx) (E:Value->Shared->Prop):Cx:={ X with xe:=E }
abbrev Cx.nox (X:Cx):Cx:=X.wish fun _ _=>False
theorem Cx.Ok.wish (ok:X.Ok) (E:Value->Shared->Prop):(X.wish E).Ok:=
 ⟨ok.mod,ok.kind,ok.glob,ok.blt,ok.above,ok.inj,ok.has,ok.cab,ok.hd,ok.frames,ok.stk,ok.exf,ok.bs,ok.bsz,ok.noex,ok.exfs,ok.funs,ok.frf⟩
theorem Cx.Ok.unwish (ok:(X.wish E).Ok):X.Ok:=
 ⟨ok.mod,ok.kind,ok.glob,ok.blt,ok.above,ok.inj,ok.has,ok.cab,ok.hd,ok.frames,ok.stk,ok.exf,ok.bs,ok.bsz,ok.noex,ok.exfs,ok.funs,ok.frf⟩
section
variable {X : Cx} {pins : List (Addr × Obj)} {σ : St} {H : Hp} {s : Shared} {E : Value -> Shared -> Prop}
theorem Inv.wish (I:Inv X pins σ H s) (E:Value->Shared->Prop):Inv (X.wish E) pins σ H s:=⟨I.ok.wish E,I.os,I.bare,I.base,I.loc,I.cell,I.free,I.freeC,I.pin,I.hok,I.len⟩
theorem Inv.unwish (I:Inv (X.wish E) pins σ H s):Inv X pins σ H s:=⟨I.ok.unwish,I.os,I.bare,I.base,I.loc,I.cell,I.free,I.freeC,I.pin,I.hok,I.len⟩
theorem SP.unwish {D:QQ} {f:Flow} {s':Shared} (h:SP (X.wish E) pins D f s'):SP X pins D f s':=by
 cases f with
 | next=>obtain ⟨σ',H',I,q⟩:=h;exact ⟨σ',H',I.unwish,q⟩
 | brk=>obtain ⟨σ',H',I,q⟩:=h;exact ⟨σ',H',I.unwish,q⟩
 | cont=>obtain ⟨σ',H',I,q⟩:=h;exact ⟨σ',H',I.unwish,q⟩
 | ret u=>obtain ⟨v,σ',H',I,r,q⟩:=h;exact ⟨v,σ',H',I.unwish,r,q⟩
theorem PE.nox {t:TE} (h:PE X.nox e t):PE X e t:=fun pins s σ H Q I hw =>
 wpAny_mono (h pins s σ H Q (I.wish _) hw) (fun _ _ ⟨v,H',I',r,q⟩=>⟨v,H',I'.unwish,r,q⟩) fun _ _ z=>False.elim z
theorem PT.nox {t:TT} (h:PT X.nox e t):PT X e t:=fun pins s σ H Q I hw =>
 wpAny_mono (h pins s σ H Q (I.wish _) hw) (fun _ _ ⟨H',I',q⟩=>⟨H',I'.unwish,q⟩) fun _ _ z=>False.elim z
theorem PSs.nox {st:List Stmt} {t:TS} (h:PSs X.nox st t):PSs X st t:=fun pins s σ H D I hw =>
 wpAny_mono (h pins s σ H D (I.wish _) hw) (fun _ _ q=>q.unwish) fun _ _ z=>False.elim z
end
section
variable {X : Cx} {st : Stmt} {Xt : List Stmt} {t u : TS} {e : Expr} {te : TE} {pos : Pos}
def zJO:TS:=fun D σ H=>D.nx σ H
def zJv (t u:TS):TS:=fun D σ H=>t { D with nx:=u D } σ H
theorem zU:PSs X [] zJO:=fun _ _ σ H _ I h=>wpAny_execs_nil ⟨σ,H,I,h⟩
theorem zC (h1:PS X st t) (h2:PSs X Xt u):PSs X (st::Xt) (zJv t u):=by
 intro pins s σ H D I h
 refine wpAny_execs_cons (thn (h1 pins s σ H { D with nx:=u D } I h) fun f s1 q=>?_)
 cases f with
 | next =>
  obtain ⟨σ',H',I',q⟩:=q
  exact h2 pins s1 σ' H' D I' q
 | ret v=>exact q
 | brk=>exact q
 | cont=>exact q
theorem zG (h1:PS X st t):PSs X [st] t:=by
 intro pins s σ H D I h
 refine wpAny_execs_cons (thn (h1 pins s σ H D I h) fun f s1 q=>?_)
 cases f with
 | next=>exact wpAny_execs_nil q
 | ret v=>exact q
 | brk=>exact q
 | cont=>exact q
theorem Inv.quiet {pins:List (Addr × Obj)} {σ:St} (I:Inv X pins σ H s):interactive X.env=false:=by simp [interactive,I.ok.kind]
def zH1 (te:TE):TS:=fun D σ H=>te σ H fun _ H1=>D.nx σ H1
theorem jB (he:PE X e te) (hs:swapsWith e none pos.line X.env=pure false:=by rfl):PS X (.Expr e pos) (zH1 te):=by
 intro pins s σ H D I h
 exact wpAny_Expr_any (thn (he pins s σ H _ I h) fun v s1 ⟨x,H1,I1,r1,q1⟩=>⟨σ,H1,I1,q1⟩) I.quiet hs
def zJy (te:TE):TS:=fun D σ H=>te σ H D.rt
theorem zL (he:PE X e te):PS X (.Return (some e) pos) (zJy te):=by
 intro pins s σ H D I h
 exact wpAny_Return_some (thn (he pins s σ H _ I h) fun v s1 ⟨x,H1,I1,r1,q1⟩=>⟨x,σ,H1,I1,r1,q1⟩)
def zK1 (c:TT) (t u:TS):TS:=fun D σ H=>c σ H fun b H1=>if b=true then t D σ H1 else u D σ H1
theorem zu {c:Expr} {a b:List Stmt} {tc:TT} (hc:PT X c tc) (ha:PSs X a t) (hb:PSs X b u):PS X (.If c a b pos) (zK1 tc t u):=by
 intro pins s σ H D I h
 refine wpAny_If (thn (hc pins s σ H _ I h) fun d s1 zq=>?_)
 obtain ⟨H1,I1,q1⟩:=zq
 cases d with
 | true=>exact ha pins s1 σ H1 D I1 q1
 | false=>exact hb pins s1 σ H1 D I1 q1
def zJS:TS:=fun _ _ _=>False
theorem W7:PS X st zJS:=fun _ _ _ _ _ _ h=>h.elim
end
abbrev TG:=V->St->Hp->(St->Hp->Prop)->Prop
abbrev TGs:=List V->St->Hp->(St->Hp->Prop)->Prop
def PG (X:Cx) (target:Expr) (t:TG):Prop:=
 ∀ (pins:List (Addr × Obj)) (s:Shared) (σ:St) (H:Hp) (v:V) (u:Value) (Q:St->Hp->Prop),Inv X pins σ H s->xY v u->t v σ H Q ->
  wpAny (model X.prog X.w) X.A (assign target X.env u) (fun _ s'=>∃ σ' H',Inv X pins σ' H' s'/\Q σ' H') X.xe s
def PGs (X:Cx) (ts:List Expr) (t:TGs):Prop:=
 ∀ (pins:List (Addr × Obj)) (s:Shared) (σ:St) (H:Hp) (vs:List V) (us:List Value) (Q:St->Hp->Prop),Inv X pins σ H s->qR vs us->t vs σ H Q ->
  wpAny (model X.prog X.w) X.A (assignInOrder ((assignEach ts X.env).map (·.2)) us) (fun _ s'=>∃ σ' H',Inv X pins σ' H' s'/\Q σ' H') X.xe s
section
variable {X : Cx} {pos : Pos}
def zEJ (i:Nat):TG:=fun v σ H Q=>Q (σ.set i (some v)) H
variable {i:Nat}
theorem zj {x:Str} (hN:X.N.Nodup) (hi:X.N[i]? = some x) (hx:Loc X.env.scope x) (hf:X.fn x=true\/X.env.scope.names.lookup x=some .local:=by first | exact .inl rfl | exact .inr rfl | assumption):PG X (.Name x pos) (zEJ i):=by
 intro pins s σ H v u Q I r h
 exact wpAny_assign_Name (Jc I hN hi hx r (fun s' I'=>⟨_,H,I',h⟩) hf)
def zLA:TGs:=fun vs σ H Q=>vs=[]/\Q σ H
def zJd (t:TG) (u:TGs):TGs:=fun vs σ H Q=>∃ v r,vs=v::r/\t v σ H fun σ' H'=>u r σ' H' Q
theorem Jp:PGs X [] zLA:=by
 intro pins s σ H vs us Q I r h
 obtain ⟨e,h⟩:=h
 subst e
 cases r
 exact assignInOrder_nil ⟨σ,H,I,h⟩
theorem zx {es:List Expr} {t:TG} {u:TGs} (h1:PG X e t) (h2:PGs X es u)
  (hs:(assignEach (e::es) X.env).map (·.2)=assign e X.env::(assignEach es X.env).map (·.2):=by rfl):PGs X (e::es) (zJd t u):=by
 intro pins s σ H vs us Q I r h
 obtain ⟨v,vr,e1,h⟩:=h
 subst e1
 cases r with
 | cons r rr =>
  rw [hs]
  refine assignInOrder_cons (thn (h1 pins s σ H _ _ _ I r h) fun _ s1 zq=>?_)
  obtain ⟨σ1,H1,I1,q1⟩:=zq
  exact h2 pins s1 σ1 H1 _ _ Q I1 rr q1
def zLJ (K:W.Frag) (n:Nat) (t:TGs):TG:=fun v σ H Q=>∃ a xs,v = .ref a/\SqT K H a xs/\xs.length=n/\t xs σ H Q
theorem Ko {es:List Expr} {k:Nat} {t:TGs} {n:Nat} (hc:X.calm=true) (h:PGs X es t)
  (hn:(assignEach es X.env).length=n:=by rfl) (hst:(assignEach es X.env).findIdx? (·.1)=none:=by rfl):PG X (.Tuple es k pos) (zLJ X.K n t):=by
 intro pins s σ H v u Q I r hw
 obtain ⟨a,xs,e1,hq,hl,hw⟩:=hw
 subst e1
 cases r
 obtain ⟨its,rv,ht,hz⟩:=I.tuple hq
 refine assign_Tuple_tuple (I.ok.hd hc) ht (by simp [hn,<- hl,rv.length]) hst fun h' hx=>?_
 have I1:Inv X pins σ H { s with heap:=h' }:=I.kept (t':=s.toks) fun b o e=>hx b o (ne_of_lt (Heap.lt_size e)) e
 exact h pins _ σ H xs _ Q I1 (by simpa using rv) hw
def zJw (te:TE) (g:TG):TS:=fun D σ H=>te σ H fun x H1=>g x σ H1 D.nx
theorem VW {tg:Expr} {te:TE} {g:TG} (he:PE X e te) (hg:PG X tg g) (hs:swapsWithSole [tg] e pos.line X.env=pure false:=by rfl) (hw:swappedStores [tg] e X.env=pure none:=by rfl)
  (h1:(assignEach [tg] X.env).map (·.2)=[assign tg X.env]:=by rfl):PS X (.Assign [tg] e pos) (zJw te g):=by
 intro pins s σ H D I h
 refine wpAny_Assign_stores (thn (he pins s σ H _ I h) fun v s1 zq=>?_) hs hw
 obtain ⟨x,H1,I1,r1,q1⟩:=zq
 rw [h1]
 exact thn (hg pins s1 σ H1 x v _ I1 r1 q1) fun _ s2 q=>q
theorem zM {x:Str} {te:TE} {pos':Pos} (hN:X.N.Nodup) (hi:X.N[i]? = some x) (hx:Loc X.env.scope x) (he:PE X e te) (hs:swapsWith e (some (.Name x pos')) pos.line X.env=pure false:=by rfl) (hf:X.fn x=true\/X.env.scope.names.lookup x=some .local:=by first | exact .inl rfl | exact .inr rfl | assumption) :
  PS X (.Assign [.Name x pos'] e pos) (zJw te (zEJ i)):=by
 intro pins s σ H D I h
 refine wpAny_Assign_Name (thn (he pins s σ H _ I h) fun v s1 zq=>?_) hs
 obtain ⟨y,H1,I1,r1,q1⟩:=zq
 exact Jc I1 hN hi hx r1 (fun s2 I2=>⟨_,H1,I2,q1⟩) hf
def zK5 (i j:Nat) (ta:TA):TS:=fun D σ H=>ta σ H fun vs H1=>∃ v w,vs=[v,w]/\D.nx ((σ.set i (some v)).set j (some w)) H1
theorem zJp {j:Nat} {x y:Str} {a b:Expr} {ta:TA} {px py pt:Pos} {kt k2 pt2} (hc:X.calm=true) (hN:X.N.Nodup) (hi:X.N[i]? = some x) (hj:X.N[j]? = some y) (hij:i≠j)
  (hx:X.env.scope.names.lookup x=some .local) (hy:X.env.scope.names.lookup y=some .local) (ha:PA X [a,b] ta)
  (hw:swappedStores [.Tuple [.Name x px,.Name y py] kt pt] (.Tuple [a,b] k2 pt2) X.env=pure (some [x,y]))
  (hs:swapsWithSole [.Tuple [.Name x px,.Name y py] kt pt] (.Tuple [a,b] k2 pt2) pos.line X.env=pure false:=by rfl) :
  PS X (.Assign [.Tuple [.Name x px,.Name y py] kt pt] (.Tuple [a,b] k2 pt2) pos) (zK5 i j ta):=by
 intro pins s σ H D I h
 rw [exec_Assign_arm]
 refine wpAny_bind (wpAny_standAt ?_)
 rw [hs]
 refine wpAny_bind (wpAny_pure ?_)
 rw [if_neg (by decide)]
 refine wpAny_bind (Tuple_ (thn (ha _ pins s σ H _ I h) fun us s1 zq=>?_))
 obtain ⟨vs,H1,I1,r1,q1⟩:=zq
 obtain ⟨v,w,e1,q1⟩:=q1
 subst e1
 obtain ⟨u1,u2,rfl,rv,rw'⟩ : ∃ u1 u2,us=[u1,u2]/\xY v u1/\xY w u2:=by
  cases r1 with
  | cons p q =>
   cases q with
   | cons p' q' =>
    cases q'
    exact ⟨_,_,rfl,p,p'⟩
 refine wpAny_newObj_type ?_ (by show 2<=sizeLine;decide)
 have I2:Inv X pins σ H1 { s1 with heap:=s1.heap.push { cls:=.type "tuple", data:=.seq [u1,u2].toArray } }:=I1.kept (t':=s1.toks) fun b o e=>Heap.get?_push_of_some _ e
 rw [hw]
 refine wpAny_bind (wpAny_pure ?_)
 show wpAny (model X.prog X.w) X.A (do rule "assign.swapped-stores"; let items <- unpackItems (.ref s1.heap.objs.size) 2 none;assignInOrder [fun v=>bindName X.env y v,fun v=>bindName X.env x v] items.reverse;pure Flow.next) _ _ _
 refine wpAny_bind (wpAny_rule (wpAny_bind (unpackItems_tuple (items:=#[u1,u2]) (I.ok.hd hc) (IsTup.new s1.heap _) fun h' hx'=>?_)))
 have I3:=I2.kept (h':=h') (t':=s1.toks) fun b o e=>hx' b o (ne_of_lt (Heap.lt_size e)) e
 show wpAny _ _ (assignInOrder [fun v=>bindName X.env y v,fun v=>bindName X.env x v] [u2,u1] >>= fun _=>pure Flow.next) _ _ _
 refine wpAny_bind (assignInOrder_cons (wpAny_bindName (Jc I3 hN hj (.inl hy) rw' (fun s2 I4=>?_) (.inr hy))))
 refine assignInOrder_cons (wpAny_bindName (Jc I4 hN hi (.inl hx) rv (fun s3 I5=>assignInOrder_nil (wpAny_pure ?_)) (.inr hx)))
 rw [List.set_comm _ _ (Ne.symm hij)] at I5
 exact ⟨_,H1,I5,q1⟩
end
section
variable {X : Cx} {pos : Pos}
def zEs (c:TT) (tb:TS):TS:=fun D σ H=>∃ W:Nat->St->Hp->Prop,(∃ m,W m σ H) /\ ∀ m σ H,W m σ H ->
 c σ H fun b H1=>if b=true then ∃ N:St->Hp->Prop,(∀ σ' H',N σ' H' -> ∃ m',m' < m/\W m' σ' H')/\tb { D with nx:=N,ct:=N,bk:=D.nx } σ H1 else D.nx σ H1
theorem QC {c:Expr} {body:List Stmt} {tc:TT} {tb:TS} (hp:PassesOwn (model X.prog X.w) X.A X.env X.xe) (hc:PT X c tc) (hb:PSs X body tb):PS X (.While c body [] pos) (zEs tc tb):=by
 intro pins s σ H D I h
 obtain ⟨W,⟨m0,w0⟩,turn⟩:=h
 refine wpAny_While (codeAny_whileLoop (fun n s'=>∃ σ' H',Inv X pins σ' H' s'/\W n σ' H') ?_ m0 ⟨σ,H,I,w0⟩)
 rintro n s1 ⟨σ1,H1,I1,w1⟩
 refine wpAny_passesOwn hp (thn (hc pins s1 σ1 H1 _ I1 (turn n σ1 H1 w1)) fun b s2 zq=>?_)
 obtain ⟨H2,I2,q2⟩:=zq
 cases b with
 | true =>
  obtain ⟨N,hN,q2⟩:=q2
  rw [if_pos rfl]
  refine wpAny_passesOwn hp (thn (hb pins s2 σ1 H2 _ I2 q2) fun f s3 q3=>?_)
  cases f with
  | next =>
   obtain ⟨σ3,H3,I3,n3⟩:=q3
   obtain ⟨m',hm,w3⟩:=hN σ3 H3 n3
   exact ⟨m',hm,σ3,H3,I3,w3⟩
  | cont =>
   obtain ⟨σ3,H3,I3,n3⟩:=q3
   obtain ⟨m',hm,w3⟩:=hN σ3 H3 n3
   exact ⟨m',hm,σ3,H3,I3,w3⟩
  | brk=>exact q3
  | ret v=>exact q3
 | false =>
  rw [if_neg Bool.false_ne_true]
  exact wpAny_execs_nil ⟨σ1,H2,I2,q2⟩
end
structure It where
 go:Nat->Hp->Prop
 yld:Nat->Hp->V->Hp->Prop
 stop:Nat->Hp->Prop
def zBV (X:Cx) (pins:List (Addr × Obj)) (H:Hp) (b:Addr):Prop:=
 H b=none/\b≠X.env.locals/\b ∉ X.fs/\(b ∈ X.ex\/X.s₀.heap.objs.size<=b)/\(∀ x c,X.env.cells.lookup x=some c->c≠b) /\ ∀ p ∈ X.pn++pins,p.1≠b
variable {pins:List (Addr × Obj)} {σ:St}
theorem Inv.fpOk {H':Hp} (I:Inv X pins σ H s) (hb:s.heap.objs.size<=b) (hn:H' b=none):zBV X pins H' b:=by
 refine ⟨hn,Nat.ne_of_gt (lt_of_lt_of_le I.lt hb),I.nofs hb,.inr (le_trans I.sz hb),fun x c e z=>?_,fun p hp z=>?_⟩
 ·obtain ⟨v,q⟩:=I.cell x c e
  exact absurd (lt_of_lt_of_le q.lt (by rw [z];exact hb)) (lt_irrefl _)
 ·exact absurd (lt_of_lt_of_le (Heap.lt_size (I.pin p hp).1) (by rw [z];exact hb)) (lt_irrefl _)
structure zGe (P:Program) (w:World) (K:W.Frag) (tg:Expr) (J:It) (fp:List Addr) (it:Addr) (tn:Nat->Heap->Prop):Prop where
 mem:it ∈ fp
 obj : ∀ i h,tn i h -> ∀ b ∈ fp,∃ o,h.get? b=some o /\ ∀ v,o.data ≠ .cell v
 keep : ∀ i h h',tn i h->(∀ b ∈ fp,∀ o,h.get? b=some o->h'.get? b=some o)->tn i h'
 item : ∀ (X:Cx),X.prog=P->X.w=w->X.K=K->X.calm=true -> ∀ (i:Nat) (pins:List (Addr × Obj)) (s:Shared) (σ:St) (H:Hp) (E:Value->Shared->Prop),Inv X pins σ H s->(∀ b ∈ fp,zBV X pins H b)->tn i s.heap->J.go i H ->
  wpAny (model P w) X.A (pyNext (.ref it)) (fun r s1=>∃ u,r=some u /\
   wpAny (model P w) X.A (letOwnedTupleGo tg (.ref it) u) (fun _ s2=>∃ x H',Inv X pins σ H' s2/\xY x u/\J.yld i H x H'/\tn (i+1) s2.heap /\ ∀ b ∈ fp,H' b=none) E s1) E s
 done : ∀ (X:Cx),X.prog=P->X.w=w->X.K=K->X.calm=true -> ∀ (i:Nat) (pins:List (Addr × Obj)) (s:Shared) (σ:St) (H:Hp) (E:Value->Shared->Prop),Inv X pins σ H s->(∀ b ∈ fp,zBV X pins H b)->tn i s.heap->J.stop i H ->
  wpAny (model P w) X.A (pyNext (.ref it)) (fun r s1=>r=none/\Inv X pins σ H s1) E s
 self : ∀ (A:Around) (i:Nat) (s:Shared) (Q:Value->Shared->Prop) (E:Value->Shared->Prop),tn i s.heap->Q (.ref it) s->wpAny (model P w) A (pyIter (.ref it)) Q E s
abbrev TI:=St->Hp->(It->Hp->Prop)->Prop
def PIE (X:Cx) (pins:List (Addr × Obj)) (σ:St) (tg:Expr) (R:It->Hp->Prop) (itv:Value) (s2:Shared):Prop:=
 ∃ (it:Addr) (fp:List Addr) (tn:Nat->Heap->Prop) (J:It) (H':Hp),itv = .ref it/\Inv X pins σ H' s2/\zGe X.prog X.w X.K tg J fp it tn/\tn 0 s2.heap/\(∀ b ∈ fp,zBV X pins H' b)/\R J H'
def PI (X:Cx) (tg iter:Expr) (wi:TI):Prop:=
 ∀ (pins:List (Addr × Obj)) (s:Shared) (σ:St) (H:Hp) (R:It->Hp->Prop),Inv X pins σ H s->wi σ H R ->
  wpAny (model X.prog X.w) X.A (eval iter X.env) (fun v s1=>wpAny (model X.prog X.w) X.A (pyIter v) (PIE X pins σ tg R) X.xe s1) X.xe s
variable {tg:Expr} {Q:Unit -> Shared -> Prop}
theorem zBo {M : Model} {it : Addr} {u : Value} {o : Obj} {n : String} {vs : Array Value} (ho : s.heap.get? it = some o) (hc : o.cls = .type n) (hd : o.data = .fields vs)
    (hn : ["enumerate", "zip", "dict_itemiterator", "dict_reverseitemiterator", "odict_iterator", "itertools.zip_longest", "itertools.pairwise"].contains n = false) (hQ : Q () s) : wpAny M A (letOwnedTupleGo tg (.ref it) u) Q E s := by
  unfold letOwnedTupleGo
  cases tg <;> first
    | exact wpAny_pure hQ
    | (cases u <;> first
        | exact wpAny_pure hQ
        | (refine wpAny_bind (wpAny_load ho ?_)
           rw [hc, hd]
           show wpAny M A (if (["enumerate", "zip", "dict_itemiterator", "dict_reverseitemiterator", "odict_iterator", "itertools.zip_longest", "itertools.pairwise"].contains n && vs[0]? == some (rawInt _)) = true then _ else _) Q E s
           rw [if_neg (by intro h; rw [hn, Bool.false_and] at h; cases h)]
           exact wpAny_pure hQ))
def Itl (K:W.Frag) (a:Addr):It:=
 ⟨fun i H=>∃ xs x,SqL K H a xs/\xs[i]? = some x,fun i H x H'=>H'=H /\ ∀ xs,SqL K H a xs->xs[i]? = some x,fun i H=>∃ xs,SqL K H a xs/\xs.length<=i⟩
def Itt (K:W.Frag) (a:Addr):It:=
 ⟨fun i H=>∃ xs x,SqT K H a xs/\xs[i]? = some x,fun i H x H'=>H'=H /\ ∀ xs,SqT K H a xs->xs[i]? = some x,fun i H=>∃ xs,SqT K H a xs/\xs.length<=i⟩
def Itr (lo:Int) (n:Nat):It:=⟨fun i _=>i < n,fun i H x H'=>H'=H/\x = .int (lo+i),fun i _=>n<=i⟩
variable {K:W.Frag}
theorem zCj (a it:Addr):zGe P w K tg (Itl K a) [it] it (fun i h=>h.IsListIter it a i) where
 mem:=by simp
 obj:=fun i h st b hb=>by
  have e:b=it:=by simpa using hb
  subst e
  obtain ⟨o,e,c,d⟩:=st
  exact ⟨o,e,fun v z=>by rw [d] at z;cases z⟩
 keep:=fun i h h' st k=>st.at fun o e=>k it (by simp) o e
 item:=by
  intro X hP hw hK hc i pins s σ H E I hf st hg
  subst hP hw hK
  obtain ⟨xs,x,hq,hx⟩:=hg
  obtain ⟨its,rv,p,hz⟩:=I.list hq
  obtain ⟨u,hu,ru⟩:=rv.get hx
  obtain ⟨f0,f1,f2,f3,f4,f5⟩:=hf it (by simp)
  refine wpAny_pyNext_list_item st p.isList (x:=u) (by simpa using hu) fun h' st' sb=>?_
  have I1:Inv X pins σ H { s with heap:=h' }:=I.turned (t':=s.toks) (fun b o hb e=>(sb.2 b hb).trans e) f0 f1 f3 f4 f5
  obtain ⟨o,e,c,d⟩:=id st'
  exact ⟨u,rfl,zBo (s:={ s with heap:=h' }) e c d (by decide) ⟨x,H,I1,ru,⟨rfl,fun ys hy=>by rw [I.list_inj hy hq];exact hx⟩,st',fun b hb=>(hf b hb).1⟩⟩
 done:=by
  intro X hP hw hK hc i pins s σ H E I hf st hg
  subst hP hw hK
  obtain ⟨xs,hq,hx⟩:=hg
  obtain ⟨its,rv,p,hz⟩:=I.list hq
  obtain ⟨f0,f1,f2,f3,f4,f5⟩:=hf it (by simp)
  have hl:=rv.length
  exact wpAny_pyNext_list_end (I.ok.hd hc) st p.isList (by simp;omega) fun h' eb=>⟨rfl,I.turned (t':=s.toks) (fun b o hb e=>eb b o hb e) f0 f1 f3 f4 f5⟩
 self:=fun _ _ _ _ _ st h=>wpAny_pyIter_listiter st h
theorem zAW (a it:Addr):zGe P w K tg (Itt K a) [it] it (fun i h=>h.IsTupleIter it a i) where
 mem:=by simp
 obj:=fun i h st b hb=>by
  have e:b=it:=by simpa using hb
  subst e
  obtain ⟨o,e,c,d⟩:=st
  exact ⟨o,e,fun v z=>by rw [d] at z;cases z⟩
 keep:=fun i h h' st k=>st.at fun o e=>k it (by simp) o e
 item:=by
  intro X hP hw hK hc i pins s σ H E I hf st hg
  subst hP hw hK
  obtain ⟨xs,x,hq,hx⟩:=hg
  obtain ⟨its,rv,p,hz⟩:=I.tuple hq
  obtain ⟨u,hu,ru⟩:=rv.get hx
  obtain ⟨f0,f1,f2,f3,f4,f5⟩:=hf it (by simp)
  refine wpAny_pyNext_tuple_item st (show s.heap.IsTuple a its.toArray from p) (x:=u) (by simpa using hu) fun h' st' sb=>?_
  have I1:Inv X pins σ H { s with heap:=h' }:=I.turned (t':=s.toks) (fun b o hb e=>(sb.2 b hb).trans e) f0 f1 f3 f4 f5
  obtain ⟨o,e,c,d⟩:=id st'
  exact ⟨u,rfl,zBo (s:={ s with heap:=h' }) e c d (by decide) ⟨x,H,I1,ru,⟨rfl,fun ys hy=>by rw [I.tuple_inj hy hq];exact hx⟩,st',fun b hb=>(hf b hb).1⟩⟩
 done:=by
  intro X hP hw hK hc i pins s σ H E I hf st hg
  subst hP hw hK
  obtain ⟨xs,hq,hx⟩:=hg
  obtain ⟨its,rv,p,hz⟩:=I.tuple hq
  obtain ⟨f0,f1,f2,f3,f4,f5⟩:=hf it (by simp)
  have hl:=rv.length
  exact wpAny_pyNext_tuple_end (I.ok.hd hc) st (show s.heap.IsTuple a its.toArray from p) (by simp;omega) fun h' eb=>⟨rfl,I.turned (t':=s.toks) (fun b o hb e=>eb b o hb e) f0 f1 f3 f4 f5⟩
 self:=fun _ _ _ _ _ st h=>wpAny_pyIter_tupleiter st h
theorem zA3 {K:PySem.W.Frag} (it:Addr) (lo:Int) (n:Nat):zGe P w K tg (Itr lo n) [it] it (fun i h=>IsRangeIter h it (lo+(i:Nat)*1) ((n:Int) - (i:Nat)) 1) where
 mem:=by simp
 obj:=fun i h st b hb=>by
  have e:b=it:=by simpa using hb
  subst e
  exact ⟨_,st,fun v z=>by
   have z':Data.fields _=Data.cell v:=z
   cases z'⟩
 keep:=fun i h h' st k=>k it (by simp) _ st
 item:=by
  intro X hP hw hK hc i pins s σ H E I hf st hg
  subst hP hw hK
  obtain ⟨f0,f1,f2,f3,f4,f5⟩:=hf it (by simp)
  have W:=Walks.range (prog:=X.prog) (w:=X.w) (I.ok.hd hc) it lo 1 n
  refine W.item i s _ _ hg st fun v h' tk hv st' kk=>?_
  obtain ⟨t,rfl⟩:=hv
  have I1:Inv X pins σ H { s with heap:=h',toks:=tk }:=I.turned (fun b o hb e=>kk b o (by simpa using hb) e) f0 f1 f3 f4 f5
  refine ⟨_,rfl,zBo (s:={ s with heap:=h',toks:=tk }) (n:="range_iterator") st' rfl rfl (by decide) ⟨.int (lo+i),H,I1,⟨t,?_⟩,⟨rfl,rfl⟩,st',fun b hb=>(hf b hb).1⟩⟩
  rw [Int.mul_one]
 done:=by
  intro X hP hw hK hc i pins s σ H E I hf st hg
  subst hP hw hK
  obtain ⟨f0,f1,f2,f3,f4,f5⟩:=hf it (by simp)
  exact wpAny_pyNext_range_end (I.ok.hd hc) st (by have:n<=i:=hg;omega) fun h' eb=>⟨rfl,I.turned (t':=s.toks) (fun b o hb e=>eb b o hb e) f0 f1 f3 f4 f5⟩
 self:=fun _ _ _ _ _ st h=>wpAny_pyIter_rangeiter st h
section
variable {X : Cx} {tg : Expr}
def zGq (K:W.Frag) (tl:TE):TI:=fun σ H R=>tl σ H fun x H1=>∃ a,x = .ref a/\(∃ xs,SqL K H1 a xs)/\R (Itl K a) H1
def zLL (K:W.Frag) (tl:TE):TI:=fun σ H R=>tl σ H fun x H1=>∃ a,x = .ref a/\(∃ xs,SqT K H1 a xs)/\R (Itt K a) H1
theorem jF {l:Expr} {tl:TE} (hl:PE X l tl):PI X tg l (zGq X.K tl):=by
 intro pins s σ H R I h
 refine thn (hl pins s σ H _ I h) fun v s1 zq=>?_
 obtain ⟨x,H1,I1,r1,q1⟩:=zq
 obtain ⟨a,e,⟨xs,hq⟩,q⟩:=q1
 subst e
 cases r1
 obtain ⟨its,rv,p,hz⟩:=I1.list hq
 refine wpAny_pyIter_list p.isList ?_
 refine ⟨s1.heap.objs.size,[s1.heap.objs.size],_,_,H1,rfl,I1.kept (t':=s1.toks) fun b o e=>Heap.get?_push_of_some _ e,zCj a _,⟨_,Heap.get?_push_size _ rfl,rfl,rfl⟩,fun b hb=>?_,q⟩
 have e:b=s1.heap.objs.size:=by simpa using hb
 subst e
 exact I1.fpOk (le_refl _) (I1.hok.fresh (le_refl _))
theorem zIS {l:Expr} {tl:TE} (hl:PE X l tl):PI X tg l (zLL X.K tl):=by
 intro pins s σ H R I h
 refine thn (hl pins s σ H _ I h) fun v s1 zq=>?_
 obtain ⟨x,H1,I1,r1,q1⟩:=zq
 obtain ⟨a,e,⟨xs,hq⟩,q⟩:=q1
 subst e
 cases r1
 obtain ⟨its,rv,p,hz⟩:=I1.tuple hq
 refine wpAny_pyIter_tuple (show s1.heap.IsTuple a its.toArray from p) ?_
 refine ⟨s1.heap.objs.size,[s1.heap.objs.size],_,_,H1,rfl,I1.kept (t':=s1.toks) fun b o e=>Heap.get?_push_of_some _ e,zAW a _,⟨_,Heap.get?_push_size _ rfl,rfl,rfl⟩,fun b hb=>?_,q⟩
 have e:b=s1.heap.objs.size:=by simpa using hb
 subst e
 exact I1.fpOk (le_refl _) (I1.hok.fresh (le_refl _))
theorem zAR {R:It->Hp->Prop} {lo hi:Int} {t u v:Tok} {tk:Nat} (I:Inv X pins σ H s) (h1 : -(2 ^ 62)<=lo) (h2:lo < 2 ^ 62) (h3 : -(2 ^ 62)<=hi) (h4:hi < 2 ^ 62)
  (q:R (Itr lo (hi - lo).toNat) H):wpAny (model X.prog X.w) X.A (pyIter (.ref s.heap.objs.size)) (PIE X pins σ tg R) E { s with heap:=s.heap.push { cls:=.type "range", data:=.fields #[.int lo t,.int hi u,.int 1 v] },toks:=tk }:=by
 refine wpAny_pyIter_range (IsRange.new ..) (small_one h1 h2 h3 h4) ?_
 have I1:Inv X pins σ H { s with heap:=s.heap.push { cls:=.type "range", data:=.fields #[.int lo t,.int hi u,.int 1 v] },toks:=tk }:=I.kept fun b o e=>Heap.get?_push_of_some _ e
 refine ⟨(s.heap.push { cls:=.type "range", data:=.fields #[.int lo t,.int hi u,.int 1 v] }).objs.size,[(s.heap.push { cls:=.type "range", data:=.fields #[.int lo t,.int hi u,.int 1 v] }).objs.size],_,_,H,rfl,
  I1.kept (t':=tk) fun b o e=>Heap.get?_push_of_some _ e,zA3 _ lo (hi - lo).toNat,?_,fun b hb=>?_,q⟩
 ·have e1:lo+((0:Nat):Int)*1=lo:=by simp
  have e2:(((hi - lo).toNat:Nat):Int) - ((0:Nat):Int)=Builtin.Range.rangeSize lo hi 1:=by rw [rangeSize_one];split <;> omega
  show IsRangeIter _ _ (lo+((0:Nat):Int)*1) ((((hi - lo).toNat:Nat):Int) - ((0:Nat):Int)) 1
  rw [e1,e2]
  exact Heap.get?_push_size _ rfl
 ·have e:b=(s.heap.push { cls:=.type "range", data:=.fields #[.int lo t,.int hi u,.int 1 v] }).objs.size:=by simpa using hb
  subst e
  exact I1.fpOk (le_refl _) (I1.hok.fresh (le_refl _))
def zF3 (ta:TA):TI:=fun σ H R=>ta σ H fun vs H1=>∃ j:Int,vs=[.int j] /\ -(2 ^ 62)<=j/\j < 2 ^ 62/\R (Itr 0 j.toNat) H1
def zGs (ta:TA):TI:=fun σ H R=>ta σ H fun vs H1=>∃ i j:Int,vs=[.int i,.int j]/\(-(2 ^ 62)<=i/\i < 2 ^ 62 /\ -(2 ^ 62)<=j/\j < 2 ^ 62)/\R (Itr i (j - i).toNat) H1
variable {pos:Pos}
theorem jr {a:Expr} {ta:TA} {p:Pos} (hg:Gl X "range") (hm:X.mg "range" = none) (ha:PA X [a] ta) (hs:starEach [a] X.env=[(false,eval a X.env)]:=by rfl):PI X tg (.Call (.Name "range" p) [a] [] pos) (zF3 ta):=by
 intro pins s σ H R I h
 refine Call_ (YD I hg hm boot_range (PyProof.Rows.callWith_type1 (thn (ha pos pins s σ H _ I h) fun us s1 zq=>?_) hs rfl))
 obtain ⟨vs,H1,I1,r1,q1⟩:=zq
 obtain ⟨j,e,q1,q2,q⟩:=q1
 subst e
 cases r1 with
 | cons r rr =>
  cases rr
  obtain ⟨t,rfl⟩:=r
  exact call_range_1 (zAR I1 (by omega) (by omega) q1 q2 (by simpa using q))
theorem J2 {a b:Expr} {ta:TA} {p:Pos} (hg:Gl X "range") (hm:X.mg "range" = none) (ha:PA X [a,b] ta) (hs:starEach [a,b] X.env=[(false,eval a X.env),(false,eval b X.env)]:=by rfl) (hs2:starEach [b] X.env=[(false,eval b X.env)]:=by rfl) :
  PI X tg (.Call (.Name "range" p) [a,b] [] pos) (zGs ta):=by
 intro pins s σ H R I h
 refine Call_ (YD I hg hm boot_range (PyProof.Rows.callWith_type1 (thn (ha pos pins s σ H _ I h) fun us s1 zq=>?_) (by rw [hs,hs2]) (by rw [hs2];rfl)))
 obtain ⟨vs,H1,I1,r1,q1⟩:=zq
 obtain ⟨i,j,e,⟨q1,q2,q3,q4⟩,q⟩:=q1
 subst e
 cases r1 with
 | cons r rr =>
  cases rr with
  | cons r' rr =>
   cases rr
   obtain ⟨t,rfl⟩:=r
   obtain ⟨t',rfl⟩:=r'
   exact call_range_2 (zAR I1 q1 q2 q3 q4 q)
def zGO (wi:TI) (g:TG) (tb:TS):TS:=fun D σ H=>wi σ H fun J H1=>∃ W:Nat->Nat->St->Hp->Prop,(∃ m,W 0 m σ H1) /\ ∀ i m σ H,W i m σ H ->
 (J.stop i H/\D.nx σ H)\/(J.go i H /\ ∃ N:St->Hp->Prop,(∀ σ' H',N σ' H' -> ∃ m',m' < m/\W (i+1) m' σ' H') /\ ∀ x H',J.yld i H x H'->g x σ H' fun σ2 H2=>tb { D with nx:=N,ct:=N,bk:=D.nx } σ2 H2)
def Ks (fp:List Addr) (h:Heap):List (Addr × Obj):=fp.filterMap fun b=>(h.get? b).map fun o=>(b,o)
variable {fp:List Addr}
theorem ZT {o:Obj} (hb:b ∈ fp) (e:h.get? b=some o):(b,o) ∈ Ks fp h:=List.mem_filterMap.mpr ⟨b,hb,by rw [e];rfl⟩
theorem zBx {p:Addr × Obj} (hp:p ∈ Ks fp h):p.1 ∈ fp/\h.get? p.1=some p.2:=by
 obtain ⟨b,hb,e⟩:=List.mem_filterMap.mp hp
 cases q:h.get? b with
 | none=>rw [q] at e;cases e
 | some o =>
  rw [q] at e
  have e':(b,o)=p:=Option.some.inj e
  subst e'
  exact ⟨hb,q⟩
theorem Inv.pinned (I:Inv X pins σ H s) (hf : ∀ b ∈ fp,zBV X pins H b) (ho : ∀ b ∈ fp,∃ o,s.heap.get? b=some o /\ ∀ v,o.data ≠ .cell v):Inv X (pins++Ks fp s.heap) σ H s:=
 I.pins_of fun p hp=>(List.mem_append.mp hp).elim (fun z=>I.pin p (mem_append_right _ z)) fun z=>by
  obtain ⟨hb,e⟩:=zBx z
  obtain ⟨f0,f1,f2,_⟩:=hf p.1 hb
  obtain ⟨o,e',d⟩:=ho p.1 hb
  rw [e] at e';cases e'
  exact ⟨e,f0,f1,f2,d⟩
theorem Inv.unpinned {pl:List (Addr × Obj)} (I:Inv X (pins++pl) σ H s):Inv X pins σ H s:=I.pins_of fun p hp=>I.pin p (mem_append_right _ (List.mem_append_left _ hp))
theorem kG {iter:Expr} {body:List Stmt} {wi:TI} {g:TG} {tb:TS} (hp:PassesOwn (model X.prog X.w) X.A X.env X.xe) (hc:X.calm=true) (hi:PI X tg iter wi) (hg:PG X tg g) (hb:PSs X body tb)
  (hs : ∀ x,foldedSetIterable iter X.env x=pure x:=by intro _;rfl):PS X (.For tg iter body [] pos) (zGO wi g tb):=by
 intro pins s σ H D I h
 refine wpAny_For (thn (hi pins s σ H _ I h) fun v s1 h1=>thn h1 fun itv s2 h2=>?_) hs
 obtain ⟨it,fp,tn,J,H2,e,I2,T,st2,f2,W,⟨m0,w0⟩,turn⟩:=h2
 subst e
 have stat : ∀ {H':Hp},(∀ b ∈ fp,H' b=none) -> ∀ b ∈ fp,zBV X pins H' b:=fun hn b hb=>⟨hn b hb,(f2 b hb).2⟩
 refine codeAny_forLoop_any (fun n s'=>∃ i σ' H',Inv X pins σ' H' s'/\tn i s'.heap/\(∀ b ∈ fp,H' b=none)/\W i n σ' H') ?_ m0 ⟨0,σ,H2,I2,st2,fun b hb=>(f2 b hb).1,w0⟩
 rintro n s3 ⟨i,σ3,H3,I3,st3,fr3,w3⟩
 rcases turn i n σ3 H3 w3 with ⟨stop,qn⟩ | ⟨go,N,hN,step⟩
 ·refine wpAny_passesOwn hp (thn (T.done X rfl rfl rfl hc i pins s3 σ3 H3 X.xe I3 (stat fr3) st3 stop) fun r s4 zq=>?_)
  obtain ⟨hr,I4⟩:=zq
  subst hr
  exact wpAny_execs_nil ⟨σ3,H3,I4,qn⟩
 ·refine wpAny_passesOwn hp (thn (T.item X rfl rfl rfl hc i pins s3 σ3 H3 X.xe I3 (stat fr3) st3 go) fun r s4 zq=>?_)
  obtain ⟨u,hr,h4⟩:=zq
  subst hr
  refine wpAny_passesOwn hp (thn h4 fun _ s5 zq=>?_)
  obtain ⟨x,H5,I5,r5,y5,st5,fr5⟩:=zq
  have I5':=I5.pinned (stat fr5) (T.obj _ _ st5)
  refine wpAny_passesOwn hp (thn (hg _ s5 σ3 H5 x u _ I5' r5 (step x H5 y5)) fun _ s6 zq=>?_)
  obtain ⟨σ6,H6,I6,q6⟩:=zq
  refine wpAny_passesOwn hp (thn (hb _ s6 σ6 H6 _ I6 q6) fun f s7 q7=>?_)
  have again : ∀ {σ7:St} {H7:Hp},Inv X (pins++Ks fp s5.heap) σ7 H7 s7->N σ7 H7 -> ∃ m,m < n /\ ∃ i σ' H',Inv X pins σ' H' s7/\tn i s7.heap/\(∀ b ∈ fp,H' b=none)/\W i m σ' H':=fun {σ7 H7} I7 n7=>by
   obtain ⟨m',hm,w7⟩:=hN σ7 H7 n7
   refine ⟨m',hm,i+1,σ7,H7,I7.unpinned,T.keep _ _ _ st5 fun b hb o e=>(I7.pin (b,o) (mem_append_right _ (mem_append_right _ (ZT hb e)))).1,fun b hb=>?_,w7⟩
   obtain ⟨o,e,d⟩:=T.obj _ _ st5 b hb
   exact (I7.pin (b,o) (mem_append_right _ (mem_append_right _ (ZT hb e)))).2.1
  cases f with
  | next=>obtain ⟨σ7,H7,I7,n7⟩:=q7;exact again I7 n7
  | cont=>obtain ⟨σ7,H7,I7,n7⟩:=q7;exact again I7 n7
  | brk=>obtain ⟨σ7,H7,I7,q7⟩:=q7;exact ⟨σ7,H7,I7.unpinned,q7⟩
  | ret v=>obtain ⟨x7,σ7,H7,I7,r7,q7⟩:=q7;exact ⟨x7,σ7,H7,I7.unpinned,r7,q7⟩
end
variable {g:TG} {tb:TS} {D:QQ}
theorem zEZ {K:PySem.W.Frag} (Pv:Nat->St->Hp->Prop) (h0:Pv 0 σ H) (hl : ∀ i σ H,i<=xs.length->Pv i σ H->SqL K H a xs)
  (hs : ∀ i x σ H,xs[i]? = some x->Pv i σ H->g x σ H fun σ2 H2=>tb { D with nx:=Pv (i+1),ct:=Pv (i+1),bk:=D.nx } σ2 H2) (hd : ∀ σ H,Pv xs.length σ H->D.nx σ H) :
  ∃ W:Nat->Nat->St->Hp->Prop,(∃ m,W 0 m σ H) /\ ∀ i m σ H,W i m σ H ->
   ((Itl K a).stop i H/\D.nx σ H)\/((Itl K a).go i H /\ ∃ N:St->Hp->Prop,(∀ σ' H',N σ' H' -> ∃ m',m' < m/\W (i+1) m' σ' H') /\ ∀ x H',(Itl K a).yld i H x H'->g x σ H' fun σ2 H2=>tb { D with nx:=N,ct:=N,bk:=D.nx } σ2 H2):=by
 refine ⟨fun i m σ H=>m=xs.length - i/\i<=xs.length/\Pv i σ H,⟨xs.length,by simp,zero_le _,h0⟩,?_⟩
 rintro i m σ H ⟨rfl,hi,p⟩
 have q:=hl i σ H hi p
 by_cases hlt:i < xs.length
 ·refine .inr ⟨⟨xs,xs[i],q,by simp [hlt]⟩,Pv (i+1),fun σ' H' p'=>⟨xs.length - (i+1),by omega,rfl,hlt,p'⟩,fun x H' y=>?_⟩
  obtain ⟨e,y⟩:=y
  subst e
  exact hs i x σ _ (y xs q) p
 ·have e:i=xs.length:=by omega
  subst e
  exact .inl ⟨⟨xs,q,le_refl _⟩,hd σ H p⟩
theorem zGt {K:PySem.W.Frag} (Pv:Nat->St->Hp->Prop) (h0:Pv 0 σ H) (hl : ∀ i σ H,i<=xs.length->Pv i σ H->SqT K H a xs)
  (hs : ∀ i x σ H,xs[i]? = some x->Pv i σ H->g x σ H fun σ2 H2=>tb { D with nx:=Pv (i+1),ct:=Pv (i+1),bk:=D.nx } σ2 H2) (hd : ∀ σ H,Pv xs.length σ H->D.nx σ H) :
  ∃ W:Nat->Nat->St->Hp->Prop,(∃ m,W 0 m σ H) /\ ∀ i m σ H,W i m σ H ->
   ((Itt K a).stop i H/\D.nx σ H)\/((Itt K a).go i H /\ ∃ N:St->Hp->Prop,(∀ σ' H',N σ' H' -> ∃ m',m' < m/\W (i+1) m' σ' H') /\ ∀ x H',(Itt K a).yld i H x H'->g x σ H' fun σ2 H2=>tb { D with nx:=N,ct:=N,bk:=D.nx } σ2 H2):=by
 refine ⟨fun i m σ H=>m=xs.length - i/\i<=xs.length/\Pv i σ H,⟨xs.length,by simp,zero_le _,h0⟩,?_⟩
 rintro i m σ H ⟨rfl,hi,p⟩
 have q:=hl i σ H hi p
 by_cases hlt:i < xs.length
 ·refine .inr ⟨⟨xs,xs[i],q,by simp [hlt]⟩,Pv (i+1),fun σ' H' p'=>⟨xs.length - (i+1),by omega,rfl,hlt,p'⟩,fun x H' y=>?_⟩
  obtain ⟨e,y⟩:=y
  subst e
  exact hs i x σ _ (y xs q) p
 ·have e:i=xs.length:=by omega
  subst e
  exact .inl ⟨⟨xs,q,le_refl _⟩,hd σ H p⟩
theorem V1 {lo:Int} {n:Nat} (Pv:Nat->St->Hp->Prop) (h0:Pv 0 σ H)
  (hs : ∀ i σ H,i < n->Pv i σ H->g (.int (lo+i)) σ H fun σ2 H2=>tb { D with nx:=Pv (i+1),ct:=Pv (i+1),bk:=D.nx } σ2 H2) (hd : ∀ σ H,Pv n σ H->D.nx σ H) :
  ∃ W:Nat->Nat->St->Hp->Prop,(∃ m,W 0 m σ H) /\ ∀ i m σ H,W i m σ H ->
   ((Itr lo n).stop i H/\D.nx σ H)\/((Itr lo n).go i H /\ ∃ N:St->Hp->Prop,(∀ σ' H',N σ' H' -> ∃ m',m' < m/\W (i+1) m' σ' H') /\ ∀ x H',(Itr lo n).yld i H x H'->g x σ H' fun σ2 H2=>tb { D with nx:=N,ct:=N,bk:=D.nx } σ2 H2):=by
 refine ⟨fun i m σ H=>m=n - i/\i<=n/\Pv i σ H,⟨n,by simp,zero_le _,h0⟩,?_⟩
 rintro i m σ H ⟨rfl,hi,p⟩
 by_cases hlt:i < n
 ·refine .inr ⟨hlt,Pv (i+1),fun σ' H' p'=>⟨n - (i+1),by omega,rfl,hlt,p'⟩,fun x H' y=>?_⟩
  obtain ⟨e,y⟩:=y
  subst e y
  exact hs i σ _ hlt p
 ·have e:i=n:=by omega
  subst e
  exact .inl ⟨le_refl _,hd σ H p⟩
abbrev R2:=V->V->Hp->VK->Prop
def OpR (X:Cx) (f:Value->Value->Sem Value) (r:R2):Prop:=
 ∀ (pins:List (Addr × Obj)) (s:Shared) (σ:St) (H:Hp) (x y:V) (v u:Value) (Q:VK),Inv X pins σ H s->xY x v->xY y u->r x y H Q ->
  wpAny (model X.prog X.w) X.A (f v u) (EP X pins σ Q) X.xe s
def UnR (X:Cx) (f:Value->Sem Value) (r:V->Hp->VK->Prop):Prop:=
 ∀ (pins:List (Addr × Obj)) (s:Shared) (σ:St) (H:Hp) (x:V) (v:Value) (Q:VK),Inv X pins σ H s->xY x v->r x H Q ->
  wpAny (model X.prog X.w) X.A (f v) (EP X pins σ Q) X.xe s
def yQ (X:Cx) (f:Value) (r:List V->Hp->VK->Prop):Prop:=
 ∀ (pins:List (Addr × Obj)) (s:Shared) (σ:St) (H:Hp) (xs:List V) (us:List Value) (Q:VK),Inv X pins σ H s->qR xs us->r xs H Q ->
  wpAny (model X.prog X.w) X.A (call f us) (EP X pins σ Q) X.xe s
def tOp (r:R2) (ta tb:TE):TE:=fun σ H Q=>ta σ H fun x H1=>tb σ H1 fun y H2=>r x y H2 Q
def tUn (r:V->Hp->VK->Prop) (ta:TE):TE:=fun σ H Q=>ta σ H fun x H1=>r x H1 Q
def rI (C:Int->Int->Prop) (g:Int->Int->V):R2:=fun x y H Q=>∃ i j,x = .int i/\y = .int j/\C i j/\Q (g i j) H
def rI0 (g:Int->Int->V):R2:=fun x y H Q=>∃ i j,x = .int i/\y = .int j/\Q (g i j) H
def rU (g:Int->V):V->Hp->VK->Prop:=fun x H Q=>∃ i,x = .int i/\Q (g i) H
section
variable {X : Cx} {a b c : Expr} {ta tb tc : TE} {pos : Pos}
variable {f:Value->Value->Sem Value}
theorem zKp (ha:PE X a ta) (hb:PE X b tb) {R:V->V->Hp->Prop} (I:Inv X pins σ H s)
  (h:ta σ H fun x H1=>tb σ H1 fun y H2=>R x y H2) {Q:Value->Shared->Prop}
  (hf : ∀ v u s2 x y H2,Inv X pins σ H2 s2->xY x v->xY y u->R x y H2->wpAny (model X.prog X.w) X.A (f v u) Q X.xe s2) :
  wpAny (model X.prog X.w) X.A (eval a X.env) (fun v s₁=>wpAny (model X.prog X.w) X.A (eval b X.env) (fun u s₂=>wpAny (model X.prog X.w) X.A (f v u) Q X.xe s₂) X.xe s₁) X.xe s:=by
 refine thn (ha pins s σ H _ I h) fun v s1 zq=>?_
 obtain ⟨x,H1,I1,r1,q1⟩:=zq
 refine thn (hb pins s1 σ H1 _ I1 q1) fun u s2 zq=>?_
 obtain ⟨y,H2,I2,r2,q2⟩:=zq
 exact hf v u s2 x y H2 I2 r1 r2 q2
theorem zP {op:Operator} {r:R2} (ho:OpR X (binaryOp op) r) (ha:PE X a ta) (hb:PE X b tb):PE X (.BinOp a op b pos) (tOp r ta tb):=by
 intro pins s σ H Q I h
 exact wpAny_BinOp (zKp ha hb I h fun v u s2 x y H2 I2 rx ry q=>ho pins s2 σ H2 x y v u Q I2 rx ry q)
theorem zBO {op:UnaryOp} {r:V->Hp->VK->Prop} (ho:UnR X (unaryOp op) r) (ha:PE X a ta):PE X (.UnaryOp op a pos) (tUn r ta):=by
 intro pins s σ H Q I h
 exact UnaryOp_ (thn (ha pins s σ H _ I h) fun v s1 ⟨x,H1,I1,r1,q1⟩=>ho pins s1 σ H1 x v Q I1 r1 q1)
theorem opI {C:Int->Int->Prop} {g:Int->Int->Int}
  (rule : ∀ (i j:Int) (t u:Tok) (s:Shared) (Q:Value->Shared->Prop) (E:Value->Shared->Prop),C i j->Q (.int (g i j) s.toks) { s with toks:=s.toks+1 }->wpAny (model X.prog X.w) X.A (f (.int i t) (.int j u)) Q E s) :
  OpR X f (rI C fun i j=>.int (g i j)):=by
 intro pins s σ H x y v u Q I rx ry h
 obtain ⟨i,j,rfl,rfl,hc,q⟩:=h
 obtain ⟨t,rfl⟩:=rx
 obtain ⟨t',rfl⟩:=ry
 exact rule i j t t' s _ _ hc ⟨.int (g i j),H,I.tok _,⟨_,rfl⟩,q⟩
theorem zKz {g:Int->Int->Int}
  (rule : ∀ (i j:Int) (t u:Tok) (s:Shared) (Q:Value->Shared->Prop) (E:Value->Shared->Prop),Q (.int (g i j) s.toks) { s with toks:=s.toks+1 }->wpAny (model X.prog X.w) X.A (f (.int i t) (.int j u)) Q E s) :
  OpR X f (rI0 fun i j=>.int (g i j)):=by
 intro pins s σ H x y v u Q I rx ry h
 obtain ⟨i,j,rfl,rfl,q⟩:=h
 obtain ⟨t,rfl⟩:=rx
 obtain ⟨t',rfl⟩:=ry
 exact rule i j t t' s _ _ ⟨.int (g i j),H,I.tok _,⟨_,rfl⟩,q⟩
theorem zJ0 {g:Int->Int->Bool}
  (rule : ∀ (i j:Int) (t u:Tok) (s:Shared) (Q:Value->Shared->Prop) (E:Value->Shared->Prop),Q (.bool (g i j)) s->wpAny (model X.prog X.w) X.A (f (.int i t) (.int j u)) Q E s) :
  OpR X f (rI0 fun i j=>.bl (g i j)):=by
 intro pins s σ H x y v u Q I rx ry h
 obtain ⟨i,j,rfl,rfl,q⟩:=h
 obtain ⟨t,rfl⟩:=rx
 obtain ⟨t',rfl⟩:=ry
 exact rule i j t t' s _ _ ⟨.bl (g i j),H,I,rfl,q⟩
def zJj (i j:Int):Prop:=0<=j/\j<=1000000/\i.natAbs < 2 ^ 64
def zJE (i j:Int):Prop:=(-(2 ^ 64) < i/\i < 2 ^ 64)\/(-(2 ^ 64) < j/\j < 2 ^ 64)
theorem zJE.ok {i j:Int} (h:zJE i j):IntMulOk i j:=by
 rcases h with ⟨h1,h2⟩ | ⟨h1,h2⟩
 ·exact .of_left (intBits_le_64 h1 h2)
 ·exact .of_right (intBits_le_64 h1 h2)
theorem two_pow_nn (k:Nat):(0:Int)<=2 ^ k:=by
 rw [two_pow_cast]
 exact Int.natCast_nonneg _
theorem zg:OpR X (binaryOp .Add) (rI0 fun i j=>.int (i+j)):=zKz fun _ _ _ _ _ _ _ q=>add_int q
theorem qt:OpR X (binaryOp .Sub) (rI0 fun i j=>.int (i - j)):=zKz fun _ _ _ _ _ _ _ q=>sub_int q
theorem zI8:OpR X (binaryOp .Mod) (rI (fun _ j=>0 < j) fun i j=>.int (i % j)):=opI fun i j _ _ _ _ _ hc q=>by
 have h1:(0:Int) < j:=hc
 exact mod_int' (by omega) (by rw [Int.fmod_eq_emod_of_nonneg i (by omega)];exact q)
theorem zIN:OpR X (binaryOp .Pow) (rI zJj fun i j=>.int (i ^ j.toNat)):=opI fun _ _ _ _ _ _ _ hc q=>pow_int_small hc.1 hc.2.1 hc.2.2 q
theorem zI2:OpR X (binaryOp .RShift) (rI (fun _ j=>0<=j) fun i j=>.int (i / 2 ^ j.toNat)):=opI fun i j _ _ _ _ _ hc q =>
 rshift_int hc (by rw [Int.fdiv_eq_ediv_of_nonneg i (two_pow_nn _)];exact q)
theorem unI {f:Value->Sem Value} {g:Int->Int}
  (rule : ∀ (i:Int) (t:Tok) (s:Shared) (Q:Value->Shared->Prop) (E:Value->Shared->Prop),Q (.int (g i) s.toks) { s with toks:=s.toks+1 }->wpAny (model X.prog X.w) X.A (f (.int i t)) Q E s) :
  UnR X f (rU fun i=>.int (g i)):=by
 intro pins s σ H x v Q I rx h
 obtain ⟨i,rfl,q⟩:=h
 obtain ⟨t,rfl⟩:=rx
 exact rule i t s _ _ ⟨.int (g i),H,I.tok _,⟨_,rfl⟩,q⟩
theorem YI:UnR X (unaryOp .USub) (rU fun i=>.int (-i)):=unI fun _ _ _ _ _ q=>neg_int q
end
def zLC:V->V->Bool
 | .non,.non=>true | .non,.int _=>true | .int _,.non=>true | .non,.bl _=>true | .bl _,.non=>true | .non,.str _=>true | .str _,.non=>true
 | .int _,.int _=>true | .bl _,.bl _=>true | .str _,.str _=>true | .byt _,.byt _=>true
 | .int _,.str _=>true | .str _,.int _=>true | .bl _,.str _=>true | .str _,.bl _=>true
 | _,_=>false
def rEq:R2:=fun x y H Q=>zLC x y=true/\Q (.bl (decide (x=y))) H
def rNe:R2:=fun x y H Q=>zLC x y=true/\Q (.bl (!decide (x=y))) H
theorem zBn {i j:Int}:decide (V.int i=V.int j)=(i == j):=by
 rw [Bool.eq_iff_iff]
 simp
theorem zEz {i j:Bool}:decide (V.bl i=V.bl j)=(i == j):=by
 rw [Bool.eq_iff_iff]
 simp
theorem zC3 {i j:Str}:decide (V.str i=V.str j)=(i == j):=by
 rw [Bool.eq_iff_iff]
 simp
theorem zB0 {i j:Array UInt8}:decide (V.byt i=V.byt j)=(i.toList == j.toList):=by
 rw [Bool.eq_iff_iff]
 cases i
 cases j
 simp
section
variable {X : Cx} {a b c : Expr} {ta tb tc : TE} {pos : Pos}
theorem qN {Q:VK} {k k':Bool} (I:Inv X pins σ H s) (q:Q (.bl k) H) (e:k=k'):EP X pins σ Q (.bool k') s:=by
 subst e
 exact ⟨.bl k,H,I,rfl,q⟩
theorem qb:OpR X (compareOp .Eq) rEq:=by
 intro pins s σ H x y v u Q I rx ry h
 obtain ⟨hs,q⟩:=h
 cases x with
 | non =>
  cases rx
  cases y with
  | non=>cases ry;exact PySem.EqNone.eq_none_none (qN I q (by simp))
  | bl j=>cases ry;exact PySem.EqNone.eq_none_bool (qN I q (by simp))
  | int j=>obtain ⟨t',rfl⟩:=ry;exact PySem.EqNone.eq_none_int (qN I q (by simp))
  | str j=>obtain ⟨t',rfl⟩:=ry;exact PySem.EqNone.eq_none_str (qN I q (by simp))
  | _=>exact absurd (show false=true from hs) Bool.false_ne_true
 | bl i =>
  cases rx
  cases y with
  | non=>cases ry;exact PySem.EqNone.eq_bool_none (qN I q (by simp))
  | bl j=>cases ry;exact eq_bool (qN I q zEz)
  | str j=>obtain ⟨t',rfl⟩:=ry;exact PySem.EqMixed.eq_bool_str (qN I q (by simp))
  | _=>exact absurd (show false=true from hs) Bool.false_ne_true
 | int i =>
  obtain ⟨t,rfl⟩:=rx
  cases y with
  | non=>cases ry;exact PySem.EqNone.eq_int_none (qN I q (by simp))
  | int j=>obtain ⟨t',rfl⟩:=ry;exact eq_int (qN I q zBn)
  | str j=>obtain ⟨t',rfl⟩:=ry;exact PySem.EqMixed.eq_int_str (qN I q (by simp))
  | _=>exact absurd (show false=true from hs) Bool.false_ne_true
 | str i =>
  obtain ⟨t,rfl⟩:=rx
  cases y with
  | non=>cases ry;exact PySem.EqNone.eq_str_none (qN I q (by simp))
  | bl j=>cases ry;exact PySem.EqMixed.eq_str_bool (qN I q (by simp))
  | int j=>obtain ⟨t',rfl⟩:=ry;exact PySem.EqMixed.eq_str_int (qN I q (by simp))
  | str j=>obtain ⟨t',rfl⟩:=ry;exact eq_str (qN I q zC3)
  | _=>exact absurd (show false=true from hs) Bool.false_ne_true
 | byt i =>
  obtain ⟨t,rfl⟩:=rx
  cases y with
  | byt j=>obtain ⟨t',rfl⟩:=ry;exact W.eq_bytes (qN I q zB0)
  | _=>exact absurd (show false=true from hs) Bool.false_ne_true
 | _=>cases y <;> exact absurd (show false=true from hs) Bool.false_ne_true
theorem QH:OpR X (compareOp .NotEq) rNe:=by
 intro pins s σ H x y v u Q I rx ry h
 obtain ⟨hs,q⟩:=h
 cases x with
 | non =>
  cases rx
  cases y with
  | non=>cases ry;exact PySem.EqNone.ne_none_none (qN I q (by simp))
  | bl j=>cases ry;exact PySem.EqNone.ne_none_bool (qN I q (by simp))
  | int j=>obtain ⟨t',rfl⟩:=ry;exact PySem.EqNone.ne_none_int (qN I q (by simp))
  | str j=>obtain ⟨t',rfl⟩:=ry;exact PySem.EqNone.ne_none_str (qN I q (by simp))
  | _=>exact absurd (show false=true from hs) Bool.false_ne_true
 | bl i =>
  cases rx
  cases y with
  | non=>cases ry;exact PySem.EqNone.ne_bool_none (qN I q (by simp))
  | bl j=>cases ry;exact ne_bool (qN I q (congrArg not zEz))
  | str j=>obtain ⟨t',rfl⟩:=ry;exact PySem.EqMixed.ne_bool_str (qN I q (by simp))
  | _=>exact absurd (show false=true from hs) Bool.false_ne_true
 | int i =>
  obtain ⟨t,rfl⟩:=rx
  cases y with
  | non=>cases ry;exact PySem.EqNone.ne_int_none (qN I q (by simp))
  | int j=>obtain ⟨t',rfl⟩:=ry;exact ne_int (qN I q (congrArg not zBn))
  | str j=>obtain ⟨t',rfl⟩:=ry;exact PySem.EqMixed.ne_int_str (qN I q (by simp))
  | _=>exact absurd (show false=true from hs) Bool.false_ne_true
 | str i =>
  obtain ⟨t,rfl⟩:=rx
  cases y with
  | non=>cases ry;exact PySem.EqNone.ne_str_none (qN I q (by simp))
  | bl j=>cases ry;exact PySem.EqMixed.ne_str_bool (qN I q (by simp))
  | int j=>obtain ⟨t',rfl⟩:=ry;exact PySem.EqMixed.ne_str_int (qN I q (by simp))
  | str j=>obtain ⟨t',rfl⟩:=ry;exact ne_str (qN I q (congrArg not zC3))
  | _=>exact absurd (show false=true from hs) Bool.false_ne_true
 | byt i =>
  obtain ⟨t,rfl⟩:=rx
  cases y with
  | byt j=>obtain ⟨t',rfl⟩:=ry;exact W.ne_bytes (qN I q (congrArg not zB0))
  | _=>exact absurd (show false=true from hs) Bool.false_ne_true
 | _=>cases y <;> exact absurd (show false=true from hs) Bool.false_ne_true
theorem Wm:OpR X (compareOp .Lt) (rI0 fun i j=>.bl (decide (i < j))):=zJ0 fun _ _ _ _ _ _ _ q=>lt_int q
theorem K7:OpR X (compareOp .LtE) (rI0 fun i j=>.bl (decide (i<=j))):=zJ0 fun _ _ _ _ _ _ _ q=>le_int q
theorem kM:OpR X (compareOp .Gt) (rI0 fun i j=>.bl (decide (j < i))):=zJ0 fun _ _ _ _ _ _ _ q=>gt_int q
theorem zHa:OpR X (compareOp .GtE) (rI0 fun i j=>.bl (decide (j<=i))):=zJ0 fun _ _ _ _ _ _ _ q=>ge_int q
theorem zCT:OpR X (compareOp .In) (fun x y H Q=>∃ i j,x = .str i/\y = .str j/\Q (.bl (!(Builtin.Str.occurrences j i 0 j.length 1).isEmpty)) H):=by
 intro pins s σ H x y v u Q I rx ry h
 obtain ⟨i,j,rfl,rfl,q⟩:=h
 obtain ⟨t,rfl⟩:=rx
 obtain ⟨t',rfl⟩:=ry
 exact in_str (qN I q rfl)
theorem zFy:OpR X (compareOp .IsNot) (fun x y H Q=>y = .non/\Q (.bl (!decide (x = .non))) H):=by
 intro pins s σ H x y v u Q I rx ry h
 obtain ⟨rfl,q⟩:=h
 cases ry
 refine isnot_none_gen (qN I q ?_)
 cases x <;> first
  | (cases rx;rfl)
  | (obtain ⟨t,rfl⟩:=rx;rfl)
variable {op:CmpOp}
theorem zS (b:Expr) (h:op ≠ .In:=by decide) (h2:op ≠ .NotIn:=by decide):behindInMarks op b=false:=by
 have e1:(op == CmpOp.In)=false:=by cases op <;> first | rfl | exact absurd rfl h
 have e2:(op == CmpOp.NotIn)=false:=by cases op <;> first | rfl | exact absurd rfl h2
 cases b <;> simp [behindInMarks,e1,e2]
variable {r:R2}
theorem qY (ho:OpR X (compareOp op) r) (ha:PE X a ta) (hb:PE X b tb) (hm:behindInMarks op b=false):PE X (.Compare a [op] [b] pos) (tOp r ta tb):=by
 intro pins s σ H Q I h
 exact wpAny_Compare1 (zKp ha hb I h fun v u s2 x y H2 I2 rx ry q=>ho pins s2 σ H2 x y v u Q I2 rx ry q) hm
def zGP (t:TE):TT:=fun σ H Q=>t σ H fun x H'=>∃ k,x = .bl k/\Q k H'
theorem zQ (ho:OpR X (compareOp op) r) (ha:PE X a ta) (hb:PE X b tb) (hm:behindInMarks op b=false):PT X (.Compare a [op] [b] pos) (zGP (tOp r ta tb)):=by
 intro pins s σ H Q I h
 refine wpAny_isTrue_Compare1 (thn (ha pins s σ H _ I h) fun v s1 ⟨x,H1,I1,r1,q1⟩=>thn (hb pins s1 σ H1 _ I1 q1) fun u s2 ⟨y,H2,I2,r2,q2⟩ =>
  thn (ho pins s2 σ H2 x y v u _ I2 r1 r2 q2) fun c s3 ⟨z,H3,I3,r3,k,e,q3⟩=>?_) hm
 subst e
 cases r3
 exact wpAny_truthy_bool ⟨H3,I3,q3⟩
def zFR (r r':R2) (ta tb tc:TE):TE:=fun σ H Q=>ta σ H fun x H1=>tb σ H1 fun y H2=>r x y H2 fun z H3=>∃ k,z = .bl k /\
 (if k=true then tc σ H3 fun w' H4=>r' y w' H4 Q else Q (.bl false) H3)
theorem JY {op':CmpOp} {r':R2} (ho:OpR X (compareOp op) r) (ho':OpR X (compareOp op') r') (ha:PE X a ta) (hb:PE X b tb) (hc:PE X c tc)
  (hm:lastMarks [op,op'] [b,c]=false:=by with_unfolding_all rfl):PT X (.Compare a [op,op'] [b,c] pos) (zGP (zFR r r' ta tb tc)):=by
 intro pins s σ H Q I h
 refine isTrue_chain (thn (ha pins s σ H _ I h) fun v s1 ⟨x,H1,I1,r1,q1⟩=>test_link (thn (hb pins s1 σ H1 _ I1 q1) fun u s2 ⟨y,H2,I2,r2,q2⟩ =>
  thn (ho pins s2 σ H2 x y v u _ I2 r1 r2 q2) fun d s3 ⟨z,H3,I3,r3,k,e,q3⟩=>?_)) hm
 subst e
 cases r3
 refine wpAny_truthy_bool ?_
 cases k with
 | false =>
  obtain ⟨k',e',q'⟩:=q3
  cases e'
  exact ite_ff ⟨H3,I3,q'⟩
 | true =>
  refine ite_tt (test_last (thn (hc pins s3 σ H3 _ I3 q3) fun w' s4 ⟨z',H4,I4,r4,q4⟩=>thn (ho' pins s4 σ H4 y z' u w' _ I4 r2 r4 q4) fun d' s5 zq=>?_))
  obtain ⟨z2,H5,I5,r5,k2,e2,q5⟩:=zq
  subst e2
  cases r5
  exact wpAny_truthy_bool ⟨H5,I5,q5⟩
theorem KO:(sizeLine:Nat) < 2 ^ 63:=by rw [sizeLine_eq];decide
theorem zA5:OpR X (binaryOp .Add) (fun x y H Q=>∃ i j,x = .str i/\y = .str j/\i.length+j.length<=sizeLine/\Q (.str (i++j)) H):=by
 intro pins s σ H x y v u Q I rx ry h
 obtain ⟨i,j,rfl,rfl,hz,q⟩:=h
 obtain ⟨t,rfl⟩:=rx
 obtain ⟨t',rfl⟩:=ry
 exact add_str (fun t' tk=>⟨.str (i++j),H,I.tok _,⟨_,rfl⟩,q⟩) hz
theorem Wf (r:qR [x] us) : ∃ u,us=[u]/\xY x u:=by
 cases r with
 | cons r1 r2=>cases r2;exact ⟨_,rfl,r1⟩
theorem zB4 (r:qR [x,y] us) : ∃ u w',us=[u,w']/\xY x u/\xY y w':=by
 cases r with
 | cons r1 r2 =>
  cases r2 with
  | cons r3 r4=>cases r4;exact ⟨_,_,rfl,r1,r3⟩
theorem zD6:yQ X (.builtin "abs") (fun xs H Q=>∃ i,xs=[.int i]/\Q (.int (if i < 0 then -i else i)) H):=by
 intro pins s σ H xs us Q I r h
 obtain ⟨i,rfl,q⟩:=h
 obtain ⟨u,rfl,t,rfl⟩:=Wf r
 exact call_abs_int fun u tk=>⟨.int (if i < 0 then -i else i),H,I.tok _,⟨_,rfl⟩,q⟩
theorem zBh (hc:X.calm=true):yQ X (.builtin "max") (fun xs H Q=>∃ i j,xs=[.int i,.int j]/\Q (.int (if j > i then j else i)) H):=by
 intro pins s σ H xs us Q I r h
 obtain ⟨i,j,rfl,q⟩:=h
 obtain ⟨u,w',rfl,⟨t,rfl⟩,⟨t',rfl⟩⟩:=zB4 r
 refine max_two_ints (I.ok.hd hc) fun h' tk k=>⟨_,H,I.kept k,?_,q⟩
 by_cases hj:j > i
 ·rw [if_pos hj,if_pos hj];exact ⟨_,rfl⟩
 ·rw [if_neg hj,if_neg hj];exact ⟨_,rfl⟩
theorem zDA (hc:X.calm=true):yQ X (.builtin "min") (fun xs H Q=>∃ i j,xs=[.int i,.int j]/\Q (.int (if j < i then j else i)) H):=by
 intro pins s σ H xs us Q I r h
 obtain ⟨i,j,rfl,q⟩:=h
 obtain ⟨u,w',rfl,⟨t,rfl⟩,⟨t',rfl⟩⟩:=zB4 r
 refine min_two_ints (I.ok.hd hc) fun h' tk k=>⟨_,H,I.kept k,?_,q⟩
 by_cases hj:j < i
 ·rw [if_pos hj,if_pos hj];exact ⟨_,rfl⟩
 ·rw [if_neg hj,if_neg hj];exact ⟨_,rfl⟩
end
structure zGp (h:Heap) (x dx C:Addr) (mA:Str->Option Value):Prop where
 obj:h.get? x=some (W.instObj C dx)
 ns:h.Ns1 dx mA
 ne:dx≠x
theorem zCb {dx:Addr} {mA:Str->Option Value} (n:h.Ns1 dx mA) : ∃ od,h.get? dx=some od /\ ∀ name,W.lookIn name od=some (mA name):=by
 obtain ⟨o,es,ep,ho,hd,hk,_,hm⟩:=n
 refine ⟨o,ho,fun name=>?_⟩
 have e:=hm name
 unfold nsFind findBy at e
 rw [<- Array.find?_toList] at e
 unfold W.lookIn
 rw [hd]
 dsimp only
 split
 ·rename_i y q
  rw [q] at e
  exact congrArg some e
 ·rename_i q
  rw [q] at e
  have a:es.toList.any (·.refKey)=false:=by
   rw [List.any_eq_false]
   intro y hy
   obtain ⟨z,t,hkey⟩:=hk y (Array.mem_toList_iff.mp hy)
   simp [DictEntry.refKey,hkey]
  have a' : ¬ es.toList.any (·.refKey)=true:=by rw [a];exact Bool.false_ne_true
  rw [if_neg a']
  exact congrArg some e
variable {C:Addr}
theorem zGp.look {x dx:Addr} {mA:Str->Option Value} (I:zGp h x dx C mA) : ∃ od,W.InstAt h x (W.instObj C dx) C (some od) /\ ∀ name,W.lookIn name od=some (mA name):=
 let ⟨od,ho,hl⟩:=zCb I.ns
 ⟨od,⟨I.obj,rfl,rfl,ho⟩,hl⟩
section
variable {prog : Program} {w : World} {A : Around} {E : Value -> Shared -> Prop} {s : Shared} {K : W.Frag} {x dx C f : Addr} {mA : Str -> Option Value} {name : Str} {v : Value}
theorem zFo {expr:Bool} {Q:Value->Shared->Prop} (X:K.In s.heap) (I:zGp s.heap x dx C mA) (hg:W.plainGet K C name=true) (hh:W.hasDictIn K C=true)
  (ha:W.findIn K (.ref C) name=some none) (hv:mA name=some v) (hv':W.handedIn v=true) (h:Q v { s with toks:=s.toks+1 }) :
  wpAny (model prog w) A (getAttr (.ref x) name expr) Q E s:=by
 obtain ⟨od,J,hl⟩:=I.look
 exact W.get_value X J (W.plainGet_of hg).1 (W.findObj_own hh ha rfl (by rw [hl,hv])) hv' h
theorem zEE {pl:Sem Bool} {Q:Value × List Value->Shared->Prop} (X:K.In s.heap) (I:zGp s.heap x dx C mA) (hg:W.plainGet K C name=true)
  (hf:W.findIn K (.ref C) name=some (some (.ref f))) (ht:W.isFn K (.ref f)=true) (hv:mA name=none) (h:Q (.ref f,[.ref x]) s) :
  wpAny (model prog w) A (getMethod (.ref x) name pl) Q E s:=by
 obtain ⟨od,J,hl⟩:=I.look
 exact W.method_fn X J (W.plainGet_of hg).1 (W.plainGet_of hg).2 hf (beq_iff_eq.mp ht) (by show (W.lookIn name od).map (·.isSome)=some false;rw [hl,hv];rfl) h
theorem zHI {ns:List Str} (X:K.In s.heap) (I:zGp s.heap x dx C mA)
  (hs:W.findIn K (.ref C) "__setattr__" = some (some (.builtin "object.__setattr__"))) (hp:W.plainOver K C=true) (ht:W.takerIn K C name=some none) (hh:W.hasDictIn K C=true)
  (hw:PySem.Within mA ns) (hsz:ns.length<=sizeLine)
  (h : ∀ h',zGp h' x dx C (fun y=>if y=name then some v else mA y)->Heap.SameBut dx s.heap h'->Q () { s with heap:=h',toks:=s.toks+2 }) :
  wpAny (model prog w) A (setAttr (.ref x) name v) Q E s:=by
 obtain ⟨od,J,hl⟩:=I.look
 refine W.set_plain X J hs (W.osa_open (s:={ s with toks:=s.toks+1 }) (r:=none) X J hp ht fun b=>?_)
 obtain ⟨cd,hc,hd'⟩:=W.any_some hh
 have hx:s.heap.get? x=some ⟨.ref C,some dx,.plain,#[]⟩:=I.obj
 refine wpAny_bind (wpAny_pure (wpAny_bind (wpAny_bind (wpAny_loadPart hx (wpAny_bind (W.Looks.here (s:={ s with toks:=s.toks+1 }) (W.looks_clsIn X hc) ?_))))))
 rw [hd']
 refine wpAny_pure (a:=some dx) (wpAny_bind (wpAny_pure (wpAny_bind ?_)))
 refine wpAny_nsSet1 (s:={ s with toks:=s.toks+1 }) I.ns fun h' hn2 hs2=>?_
 obtain ⟨oD,esD,epD,hoD,hdD,hcD⟩:=hn2.count (PySem.Within.cons name v hw)
 refine wpAny_bind (wpAny_lookBehind hoD (by rw [hdD];exact pastItsLine_dict (le_trans hcD (by rw [length_cons];omega))) ?_)
 exact wpAny_pure (h _ ⟨(hs2.2 _ (Ne.symm I.ne)).trans I.obj,hn2,I.ne⟩ hs2)
theorem zEl {R:Result->Shared->Prop} {vs:List Value} {kw:List (Str × Value)} (X:K.In s.heap) (hm:W.makesIn K C=true)
  (hi:W.findIn K (.ref C) "__init__" = some (some (.ref f))) (hf:W.typeIn K (.ref f)=some (.type "function"))
  (h:codeAny (model prog w) (A.under (.builtin "type.__call__" ⟨.ref C::vs,kw⟩)) (.call (.ref f) ⟨.ref (s.heap.objs.size+1)::vs,kw⟩) (W.InitBack (s.heap.objs.size+1) R)
   { s with heap:=(s.heap.push W.emptyDict).push (W.instObj C s.heap.objs.size) }) :
  codeAny (model prog w) A (.call (.ref C) ⟨vs,kw⟩) R s:=by
 obtain ⟨hh,g,d,t,os⟩:=s
 exact W.make_core (W.makes_of X hm) (W.looks_findIn X hi) (fun self=>W.bind_fn X self hf) (.inl rfl) h
end
def JL (f:Str) (v:V):List (Str × V)->List (Str × V)
 | []=>[(f,v)]
 | (g,x)::r=>if g=f then (g,v)::r else (g,x)::JL f v r
theorem Xj (f g:Str) (v:V) : ∀ fs:List (Str × V),(JL f v fs).lookup g=if g=f then some v else fs.lookup g
 | []=>by
  show List.lookup g [(f,v)]=_
  by_cases h:g=f
  ·have hb:(g == f)=true:=beq_iff_eq.mpr h
   simp only [List.lookup,hb,if_pos h]
  ·have hb:(g == f)=false:=beq_eq_false_iff_ne.mpr h
   simp only [List.lookup,hb,if_neg h]
 | (k,x)::r=>by
  have ih:=Xj f g v r
  rw [show JL f v ((k,x)::r)=(if k=f then (k,v)::r else (k,x)::JL f v r) from rfl]
  by_cases hk:k=f
  ·rw [if_pos hk]
   by_cases h:g=k
   ·have hb:(g == k)=true:=beq_iff_eq.mpr h
    simp only [List.lookup,hb,if_pos (h.trans hk)]
   ·have hb:(g == k)=false:=beq_eq_false_iff_ne.mpr h
    simp only [List.lookup,hb,if_neg (fun e:g=f=>h (e.trans hk.symm))]
  ·rw [if_neg hk]
   by_cases h:g=k
   ·have hb:(g == k)=true:=beq_iff_eq.mpr h
    simp only [List.lookup,hb,if_neg (fun e:g=f=>hk (h.symm.trans e))]
   ·have hb:(g == k)=false:=beq_eq_false_iff_ne.mpr h
    simp only [List.lookup,hb]
    exact ih
theorem Xi (f:Str) (v:V) : ∀ fs:List (Str × V),f ∈ (JL f v fs).map (·.1) /\ ∀ g,g ∈ fs.map (·.1)->g ∈ (JL f v fs).map (·.1)
 | []=>⟨by simp [JL],fun g h=>by simp at h⟩
 | (k,x)::r=>by
  obtain ⟨i1,i2⟩:=Xi f v r
  rw [show JL f v ((k,x)::r)=(if k=f then (k,v)::r else (k,x)::JL f v r) from rfl]
  by_cases hk:k=f
  ·rw [if_pos hk]
   subst hk
   exact ⟨by simp,fun g h=>by simpa using h⟩
  ·rw [if_neg hk]
   refine ⟨?_,fun g h=>?_⟩
   ·rw [List.map_cons]
    exact mem_cons_of_mem _ i1
   ·rw [List.map_cons] at h ⊢
    rcases List.mem_cons.mp h with e | e
    ·exact List.mem_cons.mpr (.inl e)
    ·exact mem_cons_of_mem _ (i2 g e)
theorem XX (f:Str) (v:V) : ∀ fs:List (Str × V),(JL f v fs).length<=fs.length+1
 | []=>by simp [JL]
 | (k,x)::r=>by
  have ih:=XX f v r
  rw [show JL f v ((k,x)::r)=(if k=f then (k,v)::r else (k,x)::JL f v r) from rfl]
  by_cases hk:k=f
  ·rw [if_pos hk,length_cons,length_cons];omega
  ·rw [if_neg hk,length_cons,length_cons];omega
theorem zDS.some_of {v:V} {o:Option Value} (r:zDS (some v) o) : ∃ u,o=some u/\xY v u:=by
 cases o with
 | none=>exact (show False from r).elim
 | some u=>exact ⟨u,rfl,r⟩
theorem zDS.none_of {o:Option Value} (r:zDS none o):o=none:=by
 cases o with
 | none=>rfl
 | some u=>exact (show False from r).elim
theorem zCD {v:V} {u:Value} (r:xY v u):W.handedIn u=true:=by
 cases v with
 | non=>cases (show u=Value.none from r);rfl
 | bl b=>cases (show u=Value.bool b from r);rfl
 | int i=>obtain ⟨t,e⟩:=(show ∃ t,u=Value.int i t from r);cases e;rfl
 | str x=>obtain ⟨t,e⟩:=(show ∃ t,u=Value.str x t from r);cases e;rfl
 | byt b=>obtain ⟨t,e⟩:=(show ∃ t,u=Value.bytes b t from r);cases e;rfl
 | flt b=>obtain ⟨t,e⟩:=(show ∃ t,u=Value.float b t from r);cases e;rfl
 | ref a=>cases (show u=Value.ref a from r);rfl
 | ty n=>cases (show u=Value.type n from r);rfl
section
variable {P : Program} {w : World} {H H' : Hp} {h h' : Heap} {a C dx : Addr} {fs fs' : List (Str × V)}
theorem Yu (hok:HOk P w H h) (e:H a=some (.ins C dx fs)) : ∃ mA,zGp h a dx C mA/\(∀ f,zDS (fs.lookup f) (mA f))/\PySem.Within mA (fs.map (·.1))/\fs.length<=1000/\H dx=some (.own a):=by
 obtain ⟨d,z,ne,ob,mA,n,r,q⟩:=(show xO P w H h a (.ins C dx fs) from hok a _ e)
 exact ⟨mA,⟨ob,n,ne⟩,r,q,z,d⟩
end
structure Cls (K:W.Frag) (C:Addr):Prop where
 pg:W.plainGet K C Str.empty=true
 hd:W.hasDictIn K C=true
 po:W.plainOver K C=true
 sa:W.findIn K (.ref C) "__setattr__" = some (some (.builtin "object.__setattr__"))
theorem Cls.get (c:Cls K C) (f:Str):W.plainGet K C f=true:=c.pg
def y6 (K:W.Frag) (C:Addr) (f:Str):Prop:=W.findIn K (.ref C) f=some none
theorem y6.taker {f:Str} (n:y6 K C f):W.takerIn K C f=some none:=by
 unfold W.takerIn
 rw [show W.findIn K (.ref C) f=some none from n]
 rfl
structure zKV (K:W.Frag) (C:Addr) (m:Str) (f:Addr):Prop where
 at_:W.findIn K (.ref C) m=some (some (.ref f))
 fn:W.isFn K (.ref f)=true
 kp:W.keepIn K (.ref f)=true
section
variable {X : Cx} {pins : List (Addr × Obj)} {σ : St} {H : Hp} {s : Shared} {a C dx : Addr} {fs : List (Str × V)} {f : Str} {v : V} {A : Around} {E : Value -> Shared -> Prop}
theorem zA9 {b:Bool} {Q:Value->Shared->Prop} (I:Inv X pins σ H s) (e:H a=some (.ins C dx fs)) (c:Cls X.K C) (n:y6 X.K C f) (l:fs.lookup f=some v)
  (h : ∀ u s',Inv X pins σ H s'->xY v u->Q u s'):wpAny (model X.prog X.w) A (getAttr (.ref a) f b) Q E s:=by
 obtain ⟨mA,O,r,_,_,_⟩:=Yu I.hok e
 obtain ⟨u,hu,ru⟩:=zDS.some_of (v:=v) (o:=mA f) (by rw [<- l];exact r f)
 exact zFo I.kIn O (c.get f) c.hd n hu (zCD ru) (h u _ (I.tok _) ru)
theorem Yc {m:Str} {g:Addr} {pl:Sem Bool} {Q:Value × List Value->Shared->Prop} (I:Inv X pins σ H s) (e:H a=some (.ins C dx fs)) (c:Cls X.K C) (k:zKV X.K C m g) (l:fs.lookup m=none)
  (h:Q (.ref g,[.ref a]) s):wpAny (model X.prog X.w) A (getMethod (.ref a) m pl) Q E s:=by
 obtain ⟨mA,O,r,_,_,_⟩:=Yu I.hok e
 have hn:mA m=none:=zDS.none_of (by rw [<- l];exact r m)
 exact zEE I.kIn O (c.get m) k.at_ k.fn hn h
theorem zA7 {u:Value} (I:Inv X pins σ H s) (e:H a=some (.ins C dx fs)) (c:Cls X.K C) (n:y6 X.K C f) (hl:fs.length < 1000) (ry:xY y u)
  (h : ∀ s',Inv X pins σ (upd H a (.ins C dx (JL f y fs))) s'->Q () s'):wpAny (model X.prog X.w) A (setAttr (.ref a) f u) Q E s:=by
 obtain ⟨mA,O,r,wi,_,ho⟩:=Yu I.hok e
 have hz:(fs.map (·.1)).length<=sizeLine:=by rw [List.length_map,sizeLine_eq];omega
 refine zHI I.kIn O c.sa c.po n.taker c.hd wi hz fun h' O' sb=>h _ ?_
 have hd : ∃ o,h'.get? dx=some o:=let ⟨o,_,_,e',_⟩:=O'.ns;⟨o,e'⟩
 refine I.write (x:=a) (e:=dx) (by rw [e];exact True.intro) (.inr ho) (fun b q hb z=>(sb.2 b hb).trans z) hd ?_
 refine ⟨by rw [qB O.ne];exact ho,?_,O.ne,O'.obj,_,O'.ns,fun g=>?_,fun g hg=>?_⟩
 ·have:=XX f y fs;omega
 ·show zDS ((JL f y fs).lookup g) (if g=f then some u else mA g)
  rw [Xj]
  by_cases q:g=f
  ·rw [if_pos q,if_pos q];exact ry
  ·rw [if_neg q,if_neg q];exact r g
 ·by_cases q:g=f
  ·rw [q];exact (Xi f y fs).1
  ·refine (Xi f y fs).2 g (wi g fun z=>hg ?_)
   show (if g=f then some u else mA g)=none
   rw [if_neg q];exact z
theorem Inv.made (I:Inv X pins σ H s):Inv X pins σ (upd (upd H s.heap.objs.size (.own (s.heap.objs.size+1))) (s.heap.objs.size+1) (.ins C s.heap.objs.size []))
  { s with heap:=(s.heap.push W.emptyDict).push (W.instObj C s.heap.objs.size) }:=by
 have e1:(s.heap.push W.emptyDict).get? s.heap.objs.size=some W.emptyDict:=Heap.get?_push_size s.heap rfl
 have e2:((s.heap.push W.emptyDict).push (W.instObj C s.heap.objs.size)).get? (s.heap.objs.size+1)=some (W.instObj C s.heap.objs.size):=by
  have:=Heap.get?_push_size (s.heap.push W.emptyDict) (o:=W.instObj C s.heap.objs.size) rfl
  rwa [Heap.size_push] at this
 have e3:(s.heap.push W.emptyDict).Ns s.heap.objs.size (fun _=>none):=⟨W.emptyDict,#[],_,e1,rfl,(fun e he=>absurd he (by simp)),fun _=>rfl⟩
 have I1:=I.laid (a:=s.heap.objs.size) (o:=.own (s.heap.objs.size+1)) (h':=s.heap.push W.emptyDict) (t':=s.toks) (fun b u q=>Heap.get?_push_of_some _ q) (le_refl _) ⟨_,e1⟩
 refine I1.laid (a:=s.heap.objs.size+1) (o:=.ins C s.heap.objs.size []) (t':=s.toks) (fun b u q=>Heap.get?_push_of_some _ q) (Nat.le_of_eq (Heap.size_push _ _)) ?_
 have ne:s.heap.objs.size≠s.heap.objs.size+1:=ne_of_lt (Nat.lt_succ_self _)
 refine ⟨by rw [qB ne,zR],zero_le _,ne,e2,fun _=>none,(Heap.Ns1.of_empty e3).at fun o q=>Heap.get?_push_of_some _ q,fun _=>True.intro,fun y hy=>absurd rfl hy⟩
theorem zHW {prog:Program} {env:Env} {pos:Pos} {Q:Value->Shared->Prop} (hb:attributeBase e f env (eval e env)=eval e env)
  (h:wpAny (model prog w) A (eval e env) (fun o s₁=>wpAny (model prog w) A (getAttr o f true) Q E s₁) E s):wpAny (model prog w) A (eval (.Attribute e f pos) env) Q E s:=
 Attribute_any_ h (by rw [arm_eval_Attribute,hb])
end
def zKN (K:W.Frag) (ta:TE) (f:Str):TE:=fun σ H Q=>ta σ H fun x H1=>∃ a C dx fs v,x = .ref a/\H1 a=some (.ins C dx fs)/\Cls K C/\y6 K C f/\fs.lookup f=some v/\Q v H1
def zLD (K:W.Frag) (ta tv:TE) (f:Str):TS:=fun D σ H=>tv σ H fun y H1=>ta σ H1 fun x H2=>∃ a C dx fs,x = .ref a/\H2 a=some (.ins C dx fs)/\Cls K C/\y6 K C f/\fs.length < 1000 /\
 D.nx σ (upd H2 a (.ins C dx (JL f y fs)))
section
variable {X : Cx} {o e value : Expr} {f : Str} {pos pos' tpos : Pos} {ta tv : TE}
theorem ze (he:PE X e ta) (hb:attributeBase e f X.env (eval e X.env)=eval e X.env):PE X (.Attribute e f pos) (zKN X.K ta f):=by
 intro pins s σ H Q I h
 refine zHW hb (thn (he pins s σ H _ I h) fun u s1 zq=>?_)
 obtain ⟨x,H1,I1,rx,a,C,dx,fs,v,ex,ea,c,n,l,q⟩:=zq
 subst ex
 obtain rfl:u=Value.ref a:=rx
 exact zA9 I1 ea c n l fun u' s2 I2 ru=>⟨v,H1,I2,ru,q⟩
theorem xa (ha:PE X o ta) (hv:PE X value tv) (hs:swapsWith value (some (.Attribute o f pos')) pos.line X.env=pure false):PS X (.Assign [.Attribute o f pos'] value pos) (zLD X.K ta tv f):=by
 intro pins s σ H D I h
 refine plainObj_wpAny_Assign_Attribute (thn (hv pins s σ H _ I h) fun u s1 ⟨y,H1,I1,ry,q⟩=>thn (ha pins s1 σ H1 _ I1 q) fun ov s2 zq=>?_) hs
 obtain ⟨x,H2,I2,rx,a,C,dx,fs,ex,ea,c,n,l,q2⟩:=zq
 subst ex
 obtain rfl:ov=Value.ref a:=rx
 exact zA7 I2 ea c n l ry fun s3 I3=>⟨σ,_,I3,q2⟩
end
section
variable {X : Cx} {pins : List (Addr × Obj)} {σ : St} {H : Hp} {s : Shared} {A : Around} {E : Value -> Shared -> Prop} {Q : Value -> Shared -> Prop} {c : Value} {b : Bool}
inductive K0 (K:W.Frag) (H:Hp):V->Value->Prop where
 | non:K0 K H .non (.type "NoneType")
 | bl (x:Bool):K0 K H (.bl x) (.type "bool")
 | int (i:Int):K0 K H (.int i) (.type "int")
 | str (x:Str):K0 K H (.str x) (.type "str")
 | flt (x:UInt64):K0 K H (.flt x) (.type "float")
 | lst {a:Addr} {xs:List V} (e:H a=some (.lst xs)):K0 K H (.ref a) (.type "list")
 | frz {a:Addr} {o:Obj} {xs:List V} (e:H a=some (.frz o (.lst xs))):K0 K H (.ref a) (.type "list")
 | tup {a:Addr} {xs:List V} (e:H a=some (.tup xs)):K0 K H (.ref a) (.type "tuple")
 | dK {a:Addr} {kvs:List (Key × V)} (e:H a=some (.dK kvs)):K0 K H (.ref a) (.type "dict")
 | dT {a:Addr} {kvs:List (List Key × V)} (e:H a=some (.dT kvs)):K0 K H (.ref a) (.type "dict")
 | ins {a C dx:Addr} {fs:List (Str × V)} (e:H a=some (.ins C dx fs)) (cl:Cls K C) (ha:W.findIn K (.ref C) "__class__" = some (some (.builtin "object.__class__")))
   (hn:W.specialIn K (.builtin "object.__class__") "__get__" = some (some (.builtin "getset_descriptor.__get__"))) (htk:W.takesIn K (.builtin "object.__class__")=some true)
   (hm:W.mroIn K C (.type "object")=some true):K0 K H (.ref a) (.ref C)
theorem zCU {u t:Value} (I:Inv X pins σ H s) (rx:xY x u) (ty:K0 X.K H x t) (e:W.kitOne X.K t c=some b) (h : ∀ tk,Q (.bool b) { s with toks:=tk }) :
  wpAny (model X.prog X.w) A (call (.builtin "isinstance") [u,c]) Q E s:=by
 cases ty with
 | non=>cases (show u=Value.none from rx);exact W.kia_one W.kitx_none I.kIn True.intro e (fun z=>nomatch z) h
 | bl y=>cases (show u=Value.bool y from rx);exact W.kia_one W.kitx_bool I.kIn True.intro e (fun z=>nomatch z) h
 | int i=>obtain ⟨t,q⟩:=(show ∃ t,u=Value.int i t from rx);cases q;exact W.kia_one W.kitx_int I.kIn True.intro e (fun z=>nomatch z) h
 | str y=>obtain ⟨t,q⟩:=(show ∃ t,u=Value.str y t from rx);cases q;exact W.kia_one W.kitx_str I.kIn True.intro e (fun z=>nomatch z) h
 | flt y=>obtain ⟨t,q⟩:=(show ∃ t,u=Value.float y t from rx);cases q;exact W.kia_one W.kitx_float I.kIn True.intro e (fun z=>nomatch z) h
 | @lst a xs ea =>
  cases (show u=Value.ref a from rx)
  obtain ⟨_,_,n,_,h1⟩:=(show xO X.prog X.w H s.heap a (.lst xs) from I.hok a _ ea)
  exact W.kia_one W.kitx_list I.kIn ⟨_,h1,rfl⟩ e (fun z=>nomatch z) h
 | @frz a ob xs ea =>
  cases (show u=Value.ref a from rx)
  obtain ⟨_,_,_,n,_,h1⟩:=(show xO X.prog X.w H s.heap a (.frz ob (.lst xs)) from I.hok a _ ea)
  exact W.kia_one W.kitx_list I.kIn ⟨_,h1,rfl⟩ e (fun z=>nomatch z) h
 | @tup a xs ea =>
  cases (show u=Value.ref a from rx)
  obtain ⟨_,_,_,p⟩:=(show xO X.prog X.w H s.heap a (.tup xs) from I.hok a _ ea)
  obtain ⟨o,h1,h2,_⟩:=p
  exact W.kia_one W.kitx_tuple I.kIn ⟨o,h1,h2⟩ e (fun z=>nomatch z) h
 | @dK a kvs ea =>
  cases (show u=Value.ref a from rx)
  obtain ⟨_,_,vs,_,p⟩:=(show xO X.prog X.w H s.heap a (.dK kvs) from I.hok a _ ea)
  obtain ⟨o,es,ep,h1,h2,_⟩:=p
  exact W.kia_one W.kitx_dict I.kIn ⟨o,h1,h2.1⟩ e (fun z=>nomatch z) h
 | @dT a kvs ea =>
  cases (show u=Value.ref a from rx)
  obtain ⟨_,_,xs,_,o,es,ep,h1,h2,_⟩:=(show xO X.prog X.w H s.heap a (.dT kvs) from I.hok a _ ea)
  exact W.kia_one W.kitx_dict I.kIn ⟨o,h1,h2.1⟩ e (fun z=>nomatch z) h
 | @ins a C dx fs ea cl ha hn htk hm =>
  cases (show u=Value.ref a from rx)
  obtain ⟨mA,O,_⟩:=Yu I.hok ea
  obtain ⟨od,J,_⟩:=O.look
  exact W.kia_one (W.kitx_own (cl.get _) cl.hd ha hn htk hm) I.kIn J e (fun z=>nomatch z) h
end
structure xn (k:Nat) (A:Around):Prop where
 hd:A.handled=none
 dp:A.depth+3*k+5 < recursionLimit
 un:A.units+16*k+200 < cLine
variable {k:Nat}
theorem xn.mono {j:Nat} (r:xn k A) (h:j<=k):xn j A:=⟨r.hd,by have:=r.dp;omega,by have:=r.un;omega⟩
theorem xn.deeper (r:xn (k+1) A) (env:Env):xn k (A.deeper env):=
 ⟨r.hd,by have:=r.dp;show A.depth+1+3*k+5 < _;omega,by have:=r.un;show A.units+3+16*k+200 < _;omega⟩
theorem xn.in1 (r:xn (k+1) A):xn k A.in1:=
 ⟨r.hd,by have:=r.dp;show A.depth+3*k+5 < _;omega,by have:=r.un;show A.units+1+16*k+200 < _;omega⟩
theorem zAe {kw:List (Str × Value)}:(A.under (.builtin "type.__call__" ⟨.ref C::us,kw⟩)).depth=A.depth+1:=by
 first | rfl | simp [Around.under,Code.weight,Code.isCreation,Code.isGuard,Code.isCaller,Code.frames,Code.isFrame,guardIds]
theorem zAl {kw:List (Str × Value)}:(A.under (.builtin "type.__call__" ⟨.ref C::us,kw⟩)).units=A.units+1:=by
 first | rfl | simp [Around.under,Code.cUnits,Code.frames,Code.isFrame]
theorem xn.make (r:xn (k+1) A) (C:Addr) (us:List Value) (kw:List (Str × Value)):xn k (A.under (.builtin "type.__call__" ⟨.ref C::us,kw⟩)):=
 ⟨r.hd,by have:=r.dp;rw [zAe];omega,by have:=r.un;rw [zAl];omega⟩
theorem xn.depth (r:xn k A):A.depth < recursionLimit:=by have:=r.dp;omega
theorem xn.units (r:xn k A):A.units+64 < cLine:=by have:=r.un;omega
def zHB:TA:=fun _ H Q=>Q [] H
def zAg (ta:TE) (tr:TA):TA:=fun σ H Q=>ta σ H fun x H1=>tr σ H1 fun xs H2=>Q (x::xs) H2
section
variable {X : Cx} {e : Expr} {es : List Expr} {te : TE} {t : TA} {pos : Pos}
theorem zB:PA X [] zHB:=fun _ _ _ _ H Q I h=>Calls.spliced_nil ⟨[],H,I,.nil,h⟩
theorem zA (ha:PE X e te) (hr:PA X es t) (hs:starEach (e::es) X.env=(false,eval e X.env)::starEach es X.env:=by rfl):PA X (e::es) (zAg te t):=by
 intro pos pins s σ H Q I h
 rw [hs]
 show wpAny _ _ (spliced ((false,eval e X.env)::backTo pos (starEach es X.env))) _ _ s
 refine Calls.spliced_cons (thn (ha pins s σ H _ I h) fun u s1 zq=>?_)
 obtain ⟨x,H1,I1,r1,q1⟩:=zq
 exact thn (hr pos pins s1 σ H1 _ I1 q1) fun us s2 ⟨xs,H2,I2,r2,q2⟩=>⟨x::xs,H2,I2,.cons r1 r2,q2⟩
def zKX (t:TA):TE:=fun σ H Q=>t σ H fun xs H1=>xs.length<=sizeLine /\ ∀ p,H1 p=none->Q (.ref p) (upd H1 p (.tup xs))
def zLM (t:TA):TE:=fun σ H Q=>t σ H fun xs H1=>xs.length<=sizeLine /\ ∀ p,H1 p=none->Q (.ref p) (upd H1 p (.lst xs))
theorem ji {x1} (h:PA X es t):PE X (.Tuple es x1 pos) (zKX t):=by
 intro pins s σ H Q I hq
 refine wpAny_Tuple_spliced (thn (h pos pins s σ H _ I hq) fun us s1 ⟨xs,H1,I1,r,z,q⟩=>⟨by rw [<- r.length];exact z,?_⟩)
 have hf:H1 s1.heap.objs.size=none:=I1.hok.fresh (le_refl _)
 refine ⟨.ref s1.heap.objs.size,upd H1 s1.heap.objs.size (.tup xs),I1.laid (t':=s1.toks) (fun b u e=>Heap.get?_push_of_some _ e) (le_refl _) ?_,rfl,q _ hf⟩
 exact ⟨z,us,r,⟨_,Heap.get?_push_size _ rfl,rfl,_,rfl⟩⟩
theorem zl (h:PA X es t):PE X (.List es pos) (zLM t):=by
 intro pins s σ H Q I hq
 refine wpAny_List_spliced (thn (h pos pins s σ H _ I hq) fun us s1 ⟨xs,H1,I1,r,z,q⟩=>⟨by rw [<- r.length];exact z,?_⟩)
 have hf:H1 s1.heap.objs.size=none:=I1.hok.fresh (le_refl _)
 refine ⟨.ref s1.heap.objs.size,upd H1 s1.heap.objs.size (.lst xs),I1.laid (t':=s1.toks) (fun b u e=>Heap.get?_push_of_some _ e) (le_refl _) ?_,rfl,q _ hf⟩
 exact ⟨z,us,0,r,Heap.get?_push_size _ rfl⟩
end
abbrev Sp:=List V->Hp->VK->XK->Prop
abbrev CXT:=List Env->Hp->Shared->XK->Value->Shared->Prop
structure Kz (P:Program) (w:World) (K:W.Frag) (mg:Str->Option Value) (base:Heap) (A:Around) (outer:List Env) (s:Shared) (H:Hp):Prop where
 frames:A.frames=some outer
 mod:Mod K mg base
 bs : ∀ b o,base.get? b=some o->s.heap.get? b=some o/\H b=none
 bsz:base.objs.size<=s.heap.objs.size
 funs:s.heap.FunFrames base outer
 frf : ∀ b ∈ frs outer,H b=none
 hok:HOk P w H s.heap
 bare:AllBare s.gens
def CE (outer:List Env) (P:Program) (w:World) (H:Hp) (s:Shared) (Q:VK) (u:Value) (s':Shared):Prop:=
 ∃ v H',s'.os=s.os/\AllBare s'.gens/\Un (frs outer) [] H H' s.heap s'.heap/\HOk P w H' s'.heap/\xY v u/\Q v H'
def CR (CX:CXT) (outer:List Env) (P:Program) (w:World) (H:Hp) (s:Shared) (Q:VK) (E:XK) (r:Result) (s':Shared):Prop:=
 match r with
 | .ok (.ret u)=>CE outer P w H s Q u s'
 | .ok _=>False
 | .error e=>CX outer H s E e s'
structure x5 (P:Program) (w:World) (K:W.Frag) (mg:Str->Option Value) (base:Heap) (CX:CXT) (k:Nat) (f:Addr) (fd:FuncData) (ps:List Str) (sp:Sp):Prop where
 len : ∀ vs H Q E,sp vs H Q E->vs.length=ps.length
 run : ∀ (A:Around) (outer:List Env) (s:Shared) (H:Hp) (args:Args) (us:List Value) (vs:List V) (Q:VK) (E:XK),xn k A->Kz P w K mg base A outer s H->BindsTo s fd args (ps.zip us)->qR vs us->sp vs H Q E ->
  codeAny (model P w) A (.call (.ref f) args) (CR CX outer P w H s Q E) s
variable {mg:Str->Option Value} {base:Heap} {CX:CXT} {f:Addr} {fd:FuncData} {ps:List Str} {sp:Sp}
theorem x5.mono {j:Nat} (F:x5 P w K mg base CX j f fd ps sp) (h:j<=k) :
  x5 P w K mg base CX k f fd ps sp:=⟨F.len,fun A outer s H args us vs Q E hr=>F.run A outer s H args us vs Q E (hr.mono h)⟩
theorem x5.imp {sp':Sp} (F:x5 P w K mg base CX k f fd ps sp)
  (h : ∀ vs H Q E,sp' vs H Q E->sp vs H Q E):x5 P w K mg base CX k f fd ps sp':=
 ⟨fun vs H Q E q=>F.len vs H Q E (h _ _ _ _ q),fun A outer s H args us vs Q E hr he hb hv hs=>F.run A outer s H args us vs Q E hr he hb hv (h _ _ _ _ hs)⟩
variable {outer:List Env}
theorem Kz.make (e:Kz P w K mg base A outer s H) (C:Addr) (us:List Value) (kw:List (Str × Value)) :
  Kz P w K mg base (A.under (.builtin "type.__call__" ⟨.ref C::us,kw⟩)) outer s H:=⟨by first | exact e.frames | (simpa [Around.under,Code.envs,Code.isFrame,pushEnvs] using e.frames),e.mod,e.bs,e.bsz,e.funs,e.frf,e.hok,e.bare⟩
theorem Kz.in1 (e:Kz P w K mg base A outer s H) :
  Kz P w K mg base A.in1 outer s H:=⟨e.frames,e.mod,e.bs,e.bsz,e.funs,e.frf,e.hok,e.bare⟩
section
variable {X : Cx} {pins : List (Addr × Obj)} {σ : St} {H : Hp} {s s' : Shared}
theorem Inv.env0 (I:Inv X pins σ H s):Kz X.prog X.w X.K X.mg X.base X.A X.stack s H:=
 ⟨I.ok.frames,I.ok.mod,I.bs,le_trans I.ok.bsz I.sz,I.stack,I.stkFree,I.hok,I.bare⟩
theorem Inv.after {Q:VK} {u:Value} (I:Inv X pins σ H s) (h:CE X.stack X.prog X.w H s Q u s'):EP X pins σ Q u s':=by
 obtain ⟨v,H',os,bare,un,hok,r,q⟩:=h
 obtain ⟨hh,g,d,t,os'⟩:=s'
 obtain rfl:os'=s.os:=os
 exact ⟨v,H',I.call (h':=hh) (g':=g) (d':=d) (t':=t) (ch:=[]) un hok bare (fun b z=>absurd z (by simp)),r,q⟩
end
def K6 (sp:Sp) (dvs:List V) (E:XK) (t:TA):TE:=fun σ H Q=>t σ H fun vs H1=>sp (vs++dvs) H1 Q E
def Yy (C:Addr) (m:Str) (sp:Sp) (dvs:List V) (E:XK) (ta:TE) (t:TA):TE:=fun σ H Q=>ta σ H fun x H1=>∃ a dx fs,x = .ref a/\H1 a=some (.ins C dx fs)/\fs.lookup m=none /\
 t σ H1 fun vs H2=>sp (x::(vs++dvs)) H2 Q E
def zHP (C:Addr) (sp:Sp) (dvs:List V) (E:XK) (t:TA):TE:=fun σ H Q=>t σ H fun vs H1=>∀ x dx,H1 x=none->H1 dx=none->dx≠x ->
 sp (.ref x::(vs++dvs)) (upd (upd H1 dx (.own x)) x (.ins C dx [])) (fun v H2=>v = .non/\Q (.ref x) H2) E
def x8 (K:W.Frag) (fd:FuncData) (ps:List Str) (ds:List Value):Prop:=
 ∀ (s:Shared) (us:List Value),K.In s.heap->(us++ds).length=ps.length->BindsTo s fd ⟨us,[]⟩ (ps.zip (us++ds))
theorem x8.all (h : ∀ us:List Value,us.length=ps.length->bindArgs fd ⟨us,[]⟩=pure (ps.zip us)):x8 K fd ps []:=fun s us _ hl=>by
 rw [List.append_nil] at hl ⊢
 exact .of_eq (h us hl)
def x9 (CX:CXT) (X:Cx) (E:XK):Prop:=∀ (pins:List (Addr × Obj)) (σ:St) (H:Hp) (s:Shared) (e:Value) (s':Shared),Inv X pins σ H s->CX X.stack H s E e s'->X.xe e s'
section
variable {X : Cx} {CX : CXT} {k : Nat} {f C : Addr} {fd : FuncData} {ps : List Str} {sp : Sp} {dvs : List V} {ds : List Value} {E : XK} {x m : Str} {p pos apos : Pos} {e o : Expr} {es : List Expr} {ta : TE} {t : TA}
theorem zAI {Q:VK} {vs:List V} (F:x5 X.prog X.w X.K X.mg X.base CX k f fd ps sp) (hr:xn k X.A) (hb:x8 X.K fd ps ds) (hd:qR dvs ds) (hx:x9 CX X E)
  (I:Inv X pins σ H s) (r:qR vs us) (h:sp (vs++dvs) H Q E):wpAny (model X.prog X.w) X.A (call (.ref f) us) (EP X pins σ Q) X.xe s:=by
 have r2:qR (vs++dvs) (us++ds):=r.append hd
 have hl:(us++ds).length=ps.length:=by rw [<- r2.length];exact F.len _ _ _ _ h
 refine wpAny_call (codeAny_mono (F.run X.A X.stack s H ⟨us,[]⟩ (us++ds) (vs++dvs) Q E hr I.env0 (hb s us I.kIn hl) r2 h) fun r s' hq=>?_)
 cases r with
 | error e=>exact hx pins σ H s e s' I hq
 | ok fl =>
  cases fl with
  | ret u=>exact I.after hq
  | next=>exact False.elim hq
  | brk=>exact False.elim hq
  | cont=>exact False.elim hq
theorem zHO (F:x5 X.prog X.w X.K X.mg X.base CX k f fd ps sp) (hr:xn k X.A) (hg:Gl X x) (hm:X.mg x=some (.ref f)) (hk:W.keepIn X.K (.ref f)=true) (hb:x8 X.K fd ps ds) (hd:qR dvs ds) (hx:x9 CX X E)
  (ha:PA X (e::es) t) (hdb:(x == ("__debug__" : Str))=false:=by decide) (he:starEach (e::es) X.env=(false,eval e X.env)::starEach es X.env:=by rfl) (hpl:(backTo pos (starEach es X.env)).any (·.1)=false:=by rfl) :
  PE X (.Call (.Name x p) (e::es) [] pos) (K6 sp dvs E t):=by
 intro pins s σ H Q I h
 refine wpAny_Call_Name_kw (jE I hg hm ?_ hdb)
 refine W.callWith_K (h₀:=X.base) I.ok.mod.kin hk (thn (ha pos pins s σ H _ I h) fun us s1 ⟨vs,H1,I1,r,q⟩=>⟨I1.kIn,?_⟩) he hpl
 exact zAI F hr hb hd hx I1 r q
theorem zEF (F:x5 X.prog X.w X.K X.mg X.base CX k f fd ps sp) (hr:xn k X.A) (hg:Gl X x) (hm:X.mg x=some (.ref f)) (hk:W.keepIn X.K (.ref f)=true) (hb:x8 X.K fd ps ds) (hd:qR dvs ds) (hx:x9 CX X E)
  (hdb:(x == ("__debug__" : Str))=false:=by decide):PE X (.Call (.Name x p) [] [] pos) (K6 sp dvs E zHB):=by
 intro pins s σ H Q I h
 refine wpAny_Call_Name_kw (jE I hg hm ?_ hdb)
 exact W.callWith_K0 I.kIn hk (zAI (us:=[]) F hr hb hd hx I .nil h)
theorem zGg {pl:Sem Bool} (he:PE X o ta) (c:Cls X.K C) (hm:zKV X.K C m f) (F:x5 X.prog X.w X.K X.mg X.base CX k f fd ps sp) (hr:xn k X.A) (hb:x8 X.K fd ps ds) (hd:qR dvs ds) (hx:x9 CX X E) (ha:PA X (e::es) t)
  (hst:starEach (e::es) X.env=(false,eval e X.env)::starEach es X.env:=by rfl) (hpl:(backTo pos (starEach es X.env)).any (·.1)=false:=by rfl)
  (ht:eval (.Call (.Attribute o m apos) (e::es) [] pos) X.env=(do
   let ov <- eval o X.env
   standAt apos.atName
   let (f,first) <- holding [ov] (getMethod ov m pl)
   callWith pos f first (backTo pos (starEach (e::es) X.env)) (backToKw pos (keywordEach [] X.env))):=by rfl) :
  PE X (.Call (.Attribute o m apos) (e::es) [] pos) (Yy C m sp dvs E ta t):=by
 intro pins s σ H Q I h
 refine W.methodCall_KW (pl:=pl) (thn (he pins s σ H _ I h) fun u s1 zq=>?_) ht
 obtain ⟨x,H1,I1,rx,a,dx,fs,ex,ea,l,q⟩:=zq
 subst ex
 obtain rfl:u=Value.ref a:=rx
 refine Yc I1 ea c hm l ?_
 refine W.callWith_K (first:=[.ref a]) (h₀:=X.base) I.ok.mod.kin hm.kp (thn (ha pos pins s1 σ H1 _ I1 q) fun us s2 ⟨vs,H2,I2,r,q2⟩=>⟨I2.kIn,?_⟩) hst hpl
 exact zAI (us:=.ref a::us) (vs:=.ref a::vs) F hr hb hd hx I2 (.cons rfl r) q2
structure Mk (K:W.Frag) (C f:Addr):Prop where
 makes:W.makesIn K C=true
 init:W.findIn K (.ref C) "__init__" = some (some (.ref f))
 fn:W.isFn K (.ref f)=true
 kp:W.keepIn K (.ref C)=true
theorem zEi {Q:VK} {vs:List V} (M:Mk X.K C f) (F:x5 X.prog X.w X.K X.mg X.base CX k f fd ps sp) (hr:xn (k+1) X.A) (hb:x8 X.K fd ps ds) (hd:qR dvs ds)
  (hx:x9 CX X E) (I:Inv X pins σ H s) (r:qR vs us)
  (h : ∀ x dx,H x=none->H dx=none->dx≠x->sp (.ref x::(vs++dvs)) (upd (upd H dx (.own x)) x (.ins C dx [])) (fun v H2=>v = .non/\Q (.ref x) H2) E) :
  wpAny (model X.prog X.w) X.A (call (.ref C) us) (EP X pins σ Q) X.xe s:=by
 have hq:=h (s.heap.objs.size+1) s.heap.objs.size (I.hok.fresh (Nat.le_succ _)) (I.hok.fresh (le_refl _)) (ne_of_lt (Nat.lt_succ_self _))
 have I2:=Inv.made (C:=C) I
 have r2:qR (V.ref (s.heap.objs.size+1)::(vs++dvs)) (Value.ref (s.heap.objs.size+1)::(us++ds)):=.cons rfl (r.append hd)
 have hl:(Value.ref (s.heap.objs.size+1)::us++ds).length=ps.length:=by
  have e:=r2.length
  rw [F.len _ _ _ _ hq] at e
  exact e.symm
 refine wpAny_call (zEl (f:=f) I.kIn M.makes M.init (beq_iff_eq.mp M.fn) (codeAny_mono (F.run _ X.stack _ _ ⟨Value.ref (s.heap.objs.size+1)::us,[]⟩ (Value.ref (s.heap.objs.size+1)::(us++ds)) _ _ E (hr.make C us [])
  (I2.env0.make C us []) (hb _ (Value.ref (s.heap.objs.size+1)::us) I2.kIn hl) r2 hq) fun r s' hq'=>?_))
 cases r with
 | error e=>exact hx pins σ _ _ e s' I2 hq'
 | ok fl =>
  cases fl with
  | ret u =>
   obtain ⟨v,H',I3,rv,ev,q3⟩:=I2.after hq'
   subst ev
   exact ⟨rv,⟨V.ref (s.heap.objs.size+1),H',I3,rfl,q3⟩⟩
  | next=>exact False.elim hq'
  | brk=>exact False.elim hq'
  | cont=>exact False.elim hq'
theorem zGT (M:Mk X.K C f) (F:x5 X.prog X.w X.K X.mg X.base CX k f fd ps sp) (hr:xn (k+1) X.A) (hg:Gl X x) (hm:X.mg x=some (.ref C)) (hb:x8 X.K fd ps ds) (hd:qR dvs ds) (hx:x9 CX X E)
  (ha:PA X (e::es) t) (hdb:(x == ("__debug__" : Str))=false:=by decide) (he:starEach (e::es) X.env=(false,eval e X.env)::starEach es X.env:=by rfl) (hpl:(backTo pos (starEach es X.env)).any (·.1)=false:=by rfl) :
  PE X (.Call (.Name x p) (e::es) [] pos) (zHP C sp dvs E t):=by
 intro pins s σ H Q I h
 refine wpAny_Call_Name_kw (jE I hg hm ?_ hdb)
 refine W.callWith_K (h₀:=X.base) I.ok.mod.kin M.kp (thn (ha pos pins s σ H _ I h) fun us s1 ⟨vs,H1,I1,r,q⟩=>⟨I1.kIn,?_⟩) he hpl
 exact zEi M F hr hb hd hx I1 r q
end
section
variable {X : Cx} {CX : CXT} {k : Nat} {f C : Addr} {fd : FuncData} {ps ks : List Str} {sp : Sp} {E : XK} {x m : Str} {p pos apos kpos : Pos} {e o : Expr} {es : List Expr} {kws : List Keyword} {te ta : TE} {t tk : TA} {nm : Option Str}
variable {g : List Value -> List Value -> List Value} {gV : List V -> List V -> List V}
end
structure zO (N P:List Str) (sc:Scope):Prop where
 kind:sc.kind = .function
 co:sc.isCoroutine=false
 gen:sc.isGenerator=false
 nd:N.Nodup
 pre:N.take P.length=P
 par : ∀ x ∈ P,sc.names.lookup x=some .local\/sc.names.lookup x=some .cell
 nofree : ∀ y ∈ sc.names,y.2 ≠ .free
theorem V7 {kindOf:Str->Option NameKind} {x:Str} : ∀ {binds:List (Str × Value)} {m:Str->Option Value},(∀ v,(x,v) ∉ binds)->bindL kindOf binds m x=m x
 | [],_,_=>rfl
 | (n,v)::r,m,h=>by
  unfold bindL
  rw [V7 fun w hw=>h w (mem_cons_of_mem _ hw)]
  split
  ·have:x≠n:=by rintro rfl;exact h v List.mem_cons_self
   simp [this]
  ·rfl
theorem Vk {kindOf:Str->Option NameKind} {x:Str} : ∀ {binds:List (Str × Value)} {m:Str->Option Value},(∀ v,(x,v) ∉ binds)->bindC kindOf binds m x=m x
 | [],_,_=>rfl
 | (n,v)::r,m,h=>by
  unfold bindC
  rw [Vk fun w hw=>h w (mem_cons_of_mem _ hw)]
  split
  ·rfl
  ·have:x≠n:=by rintro rfl;exact h v List.mem_cons_self
   simp [this]
theorem Vj {kindOf:Str->Option NameKind} {x:Str} {v:Value} : ∀ {P:List Str} {vs:List Value} {i:Nat} {m:Str->Option Value},P.Nodup->P[i]? = some x->vs[i]? = some v->kindOf x=some .local ->
  bindL kindOf (P.zip vs) m x=some v
 | [],_,_,_,_,h,_,_=>by simp at h
 | _::_,[],_,_,_,_,h,_=>by simp at h
 | p::P,w::vs,0,m,nd,h1,h2,hk=>by
  simp at h1 h2;subst h1;subst h2
  show bindL kindOf ((p,w)::P.zip vs) m p=_
  unfold bindL
  rw [V7 fun v hv=>(List.nodup_cons.mp nd).1 (List.of_mem_zip hv).1,if_pos hk]
  simp
 | p::P,w::vs,i+1,m,nd,h1,h2,hk=>by
  show bindL kindOf ((p,w)::P.zip vs) m x=_
  unfold bindL
  exact Vj (i:=i) (List.nodup_cons.mp nd).2 (by simpa using h1) (by simpa using h2) hk
theorem KK {kindOf:Str->Option NameKind} {x:Str} {v:Value} : ∀ {P:List Str} {vs:List Value} {i:Nat} {m:Str->Option Value},P.Nodup->P[i]? = some x->vs[i]? = some v->kindOf x≠some .local ->
  bindC kindOf (P.zip vs) m x=some v
 | [],_,_,_,_,h,_,_=>by simp at h
 | _::_,[],_,_,_,_,h,_=>by simp at h
 | p::P,w::vs,0,m,nd,h1,h2,hk=>by
  simp at h1 h2;subst h1;subst h2
  show bindC kindOf ((p,w)::P.zip vs) m p=_
  unfold bindC
  rw [Vk fun v hv=>(List.nodup_cons.mp nd).1 (List.of_mem_zip hv).1,if_neg hk]
  simp
 | p::P,w::vs,i+1,m,nd,h1,h2,hk=>by
  show bindC kindOf ((p,w)::P.zip vs) m x=_
  unfold bindC
  exact KK (i:=i) (List.nodup_cons.mp nd).2 (by simpa using h1) (by simpa using h2) hk
def start (N:List Str) (vs:List V):St:=vs.map some++List.replicate (N.length - vs.length) none
def Zy (CX:CXT) (P:Program) (w:World) (K:W.Frag) (mg:Str->Option Value) (base:Heap) (N:List Str) (qual:Str) (scope:Scope) (f:Addr) (cd:Value) (A:Around) (outer:List Env) (s:Shared) (H:Hp) (E:XK):Cx where
 prog:=P
 w:=w
 K:=K
 mg:=mg
 base:=base
 A:=A.deeper (envOfC qual scope s.heap.objs.size f cd)
 N:=N
 s₀:=s
 H₀:=H
 env:=envOfC qual scope s.heap.objs.size f cd
 outer:=outer
 stack:=envOfC qual scope s.heap.objs.size f cd::outer
 ex:=[]
 calm:=true
 fn:=fun _=>true
 pn:=[]
 xe:=fun e s'=>wpAny (model P w) (A.deeper (envOfC qual scope s.heap.objs.size f cd)) (leaving (envOfC qual scope s.heap.objs.size f cd) e) (fun _ s''=>CX outer H s E e s'') (fun e' s''=>CX outer H s E e' s'') s'
theorem zAS {sc:Scope} {n:Nat} {x:Str} (h:sc.names.lookup x=some .cell) : ∃ c,(cellsFrom n sc.names []).lookup x=some c:=by
 have q:=W.cellsFrom_some sc.names n [] (.inl h)
 exact Option.isSome_iff_exists.mp q
theorem Vp {N:List Str} {qual:Str} {scope:Scope} {cd:Value} {s1:Shared} {E:XK} {vs:List V}
  (S:zO N ps scope) (hd:A.handled=none) (e0:Kz P w K mg base A outer s H) (hl:vs.length=ps.length) (r:qR vs us)
  (x:InCallC s s.heap.objs.size (bindL (envOfC qual scope s.heap.objs.size f cd).kindOf (ps.zip us) fun _=>none) (cellsFrom (s.heap.objs.size+1) scope.names []) (bindC (envOfC qual scope s.heap.objs.size f cd).kindOf (ps.zip us) fun _=>none) s1) :
  Inv (Zy CX P w K mg base N qual scope f cd A outer s H E) [] (start N vs) H s1:=by
 have hpl:ps.length<=N.length:=by have:=congrArg List.length S.pre;rw [List.length_take] at this;omega
 obtain ⟨h1,tk,rfl,hk⟩:=x.done
 have noA : ∀ b:Addr,b ∉ (Zy CX P w K mg base N qual scope f cd A outer s H E).ex:=fun b z=>absurd (show b ∈ ([]:List Addr) from z) (by simp)
 refine ⟨⟨e0.mod,S.kind,rfl,rfl,le_refl _,fun y z c h1 h2=>?_,fun y hy=>?_,fun y c _ h=>?_,fun _=>hd,Around.frames_deeper e0.frames,.inr ⟨rfl,rfl⟩,fun b z=>absurd z (noA b),e0.bs,e0.bsz,fun b _ _=>noA b,fun b z=>absurd z (noA b),e0.funs,e0.frf⟩,
  rfl,e0.bare,Un.kept hk,⟨_,x.toInCall.ns,fun i y v h1 h2 h3=>?_⟩,fun y c h=>⟨_,x.cell y c h⟩,e0.hok.fresh (le_refl _),fun y c h=>?_,fun p hp=>absurd (show p ∈ ([]:List (Addr × Obj)) from hp) (by simp),e0.hok.kept hk,?_⟩
 ·exact name_of_addr x.apart (PySem.mem_of_lookup h1) (PySem.mem_of_lookup h2)
 ·have hy:scope.names.lookup y=some .cell\/scope.names.lookup y=some .free:=hy
  rcases hy with hy | hy
  ·exact zAS hy
  ·exact absurd rfl (S.nofree _ (PySem.mem_of_lookup hy))
 ·exact Nat.le_of_lt (x.above y c (PySem.mem_of_lookup h))
 ·have hi:i < vs.length:=by
   unfold start at h2
   by_cases hi:i < vs.length
   ·exact hi
   ·rw [List.getElem?_append_right (by simpa using hi)] at h2
    rw [List.getElem?_replicate] at h2
    split at h2 <;> cases h2
  have ha:vs[i]? = some v:=by
   unfold start at h2
   rw [List.getElem?_append_left (by simpa using hi),List.getElem?_map] at h2
   cases e:vs[i]? with
   | none=>rw [e] at h2;cases h2
   | some a=>rw [e] at h2;cases h2;rfl
  obtain ⟨u,hu,rv⟩:=r.get ha
  have hp:ps[i]? = some y:=by
   rw [<- S.pre,List.getElem?_take_of_lt (by omega)];exact h1
  have ndP:ps.Nodup:=by rw [<- S.pre];exact S.nd.sublist (List.take_sublist _ _)
  refine ⟨u,rv,?_⟩
  rcases S.par y (List.mem_of_getElem? hp) with k | k
  ·exact .inl ⟨k,Vj ndP hp hu k⟩
  ·obtain ⟨c,e⟩:=zAS (n:=s.heap.objs.size+1) k
   refine .inr ⟨.inl k,c,e,?_⟩
   have q:=x.cell y c e
   rw [KK ndP hp hu (by show scope.names.lookup y≠_;rw [k];decide)] at q
   exact q
 ·exact e0.hok.fresh (Nat.le_of_lt (x.above y c (PySem.mem_of_lookup h)))
 ·unfold start
  show _=N.length
  rw [List.length_append,List.length_map,List.length_replicate]
  omega
theorem zBG {name qual:Str} {params:Arguments} {body:List Stmt} {scope:Scope} {dV kV doc pm cdv ct oc:Value} {an od:Option Addr}
  {osl:Array (Option Value)} {N:List Str} (lk:K.lookup f=some ⟨oc,od,.func (W.fnOf name qual params body scope dV kV doc pm an cdv ct),osl⟩) (hcd:W.codeIn K cdv qual=true) (S:zO N ps scope)
  (len : ∀ vs H Q E,sp vs H Q E->vs.length=ps.length)
  (hbody : ∀ (A:Around) (outer:List Env) (s:Shared) (H:Hp) (vs:List V) (Q:VK) (E:XK),xn k (A.deeper (envOfC qual scope s.heap.objs.size f cdv))->sp vs H Q E ->
   ∃ t,PSs (Zy CX P w K mg base N qual scope f cdv A outer s H E) body t/\t { nx:=fun _ H'=>Q .non H',rt:=Q } (start N vs) H) :
  x5 P w K mg base CX (k+1) f (W.fnOf name qual params body scope dV kV doc pm an cdv ct) ps sp:=by
 refine ⟨len,fun A outer s H args us vs Q E hr e0 hb r hsp=>?_⟩
 have hl:=len _ _ _ _ hsp
 have KX:K.In s.heap:=e0.mod.kin.keeps fun b o e=>(e0.bs b o e).1
 have lim:s.heap.NoLimit:=e0.mod.nolimit.keeps fun b o e=>(e0.bs b o e).1
 have hkind : ∀ y ∈ ps.zip us,scope.names.lookup y.1=some .local\/(scope.names.lookup y.1=some .cell/\((cellsFrom (s.heap.objs.size+1) scope.names []).lookup y.1).isSome=true):=fun ⟨n,v⟩ hy=>by
  rcases S.par n (List.of_mem_zip hy).1 with q | q
  ·exact .inl q
  ·exact .inr ⟨q,W.cellsFrom_some _ _ _ (.inl q)⟩
 refine codeAny_call_function hr.depth (KX _ _ lk) rfl S.co S.gen rfl (W.codeRec_of KX hcd) (hb _ _ _ _ ?_)
 refine wpAny_newFunctionEnv_cells S.kind hkind fun env he s1 x=>?_
 subst he
 refine ⟨lim.keeps x.toInCall.keep,codeAny_func ?_⟩
 obtain ⟨t,ht,hq⟩:=hbody A outer s H vs Q E (hr.deeper _) hsp
 have I:Inv (Zy CX P w K mg base N qual scope f cdv A outer s H E) [] (start N vs) H s1:=Vp S hr.hd e0 hl r x
 refine wpAny_mono (ht [] s1 (start N vs) H _ I hq) (fun fl s' hs=>?_) fun e s' hs=>hs
 have fin : ∀ {σ':St} {H':Hp} {v:V} {u:Value},Inv (Zy CX P w K mg base N qual scope f cdv A outer s H E) [] σ' H' s'->xY v u->Q v H'->CE outer P w H s Q u s':=
  fun {σ' H' v u} J rv q=>⟨v,H',J.os,J.bare,J.base,J.hok,rv,q⟩
 cases fl with
 | ret u =>
  obtain ⟨v,σ',H',J,rv,q⟩:=hs
  exact fin J rv q
 | next =>
  obtain ⟨σ',H',J,q⟩:=hs
  exact fin (v:=V.non) (u:=Value.none) J rfl q
 | brk =>
  obtain ⟨_,_,_,q⟩:=hs
  exact False.elim q
 | cont =>
  obtain ⟨_,_,_,q⟩:=hs
  exact False.elim q
section
variable {X : Cx} {x : Str} {p pos : Pos} {e : Expr} {es : List Expr} {t : TA} {id T : String} {r : List V -> Hp -> VK -> Prop}
def tCB (r:List V->Hp->VK->Prop) (t:TA):TE:=fun σ H Q=>t σ H fun vs H1=>r vs H1 Q
theorem zEU (hc:yQ X (.builtin id) r) (hg:Gl X x) (hm:X.mg x=none) (hv:bootBuiltins x=some (.builtin id)) (ha:PA X (e::es) t) (hn:x ≠ "__name__" := by decide) (hdb:(x == ("__debug__" : Str))=false:=by decide)
  (he:starEach (e::es) X.env=(false,eval e X.env)::starEach es X.env:=by rfl) (hpl:(backTo pos (starEach es X.env)).any (·.1)=false:=by rfl):PE X (.Call (.Name x p) (e::es) [] pos) (tCB r t):=by
 intro pins s σ H Q I h
 refine wpAny_Call_Name_kw (YD I hg hm hv ?_ hn hdb)
 exact PyProof.Rows.callWith_builtin1 (thn (ha pos pins s σ H _ I h) fun us s1 ⟨vs,H1,I1,r1,q1⟩=>hc pins s1 σ H1 vs us Q I1 r1 q1) he hpl
theorem kr (hc:yQ X (.type T) r) (hg:Gl X x) (hm:X.mg x=none) (hv:bootBuiltins x=some (.type T)) (ha:PA X (e::es) t) (hn:x ≠ "__name__" := by decide) (hdb:(x == ("__debug__" : Str))=false:=by decide)
  (he:starEach (e::es) X.env=(false,eval e X.env)::starEach es X.env:=by rfl) (hpl:(backTo pos (starEach es X.env)).any (·.1)=false:=by rfl):PE X (.Call (.Name x p) (e::es) [] pos) (tCB r t):=by
 intro pins s σ H Q I h
 refine wpAny_Call_Name_kw (YD I hg hm hv ?_ hn hdb)
 exact PyProof.Rows.callWith_type1 (thn (ha pos pins s σ H _ I h) fun us s1 ⟨vs,H1,I1,r1,q1⟩=>hc pins s1 σ H1 vs us Q I1 r1 q1) he hpl
end
end L2
namespace HT
open PySem PyProof.Rows
section
open PySem.SeqAt
open PySem.AutoSeq1 (wpAny_loadPart')
open PySem.MeetsSeq PySem.MeetsSeq2 PySem.MeetsSeq3
end
section
variable {prog : Program} {w : World} {A : Around} {E : Value -> Shared -> Prop} {s : Shared}
def sIx (n d:Nat):Option Int->Nat
 | none=>d
 | some v=>if v < 0 then (v+(n:Int)).toNat else min v.toNat n
theorem sIx_none (n d:Nat):sIx n d none=d:=rfl
theorem zIk (n d:Nat) (hd:d<=n) (o:Option Int):sIx n d o<=n:=by
 cases o with
 | none=>exact hd
 | some v =>
  show (if v < 0 then (v+(n:Int)).toNat else min v.toNat n)<=n
  by_cases hv:v < 0
  ·rw [if_pos hv];omega
  ·rw [if_neg hv];exact Nat.min_le_right _ _
theorem zDE (v:Int) (n d:Nat):(if v < 0 then max (v+(n:Int)) 0 else min v (n:Int))=((sIx n d (some v):Nat):Int):=by
 show (if v < 0 then max (v+(n:Int)) 0 else min v (n:Int))=(((if v < 0 then (v+(n:Int)).toNat else min v.toNat n):Nat):Int)
 by_cases hv:v < 0
 ·simp only [if_pos hv];omega
 ·simp only [if_neg hv];omega
theorem zBR (lo hi:Option Int) (n:Nat):Builtin.Slice.sliceAdjust lo hi 1 (n:Int)=(((sIx n 0 lo:Nat):Int),((sIx n n hi:Nat):Int)):=by
 have h1 : ¬ ((1:Int) < 0):=by omega
 unfold Builtin.Slice.sliceAdjust
 simp only [h1,if_false]
 refine Prod.ext ?_ ?_
 ·cases lo with
  | none=>rfl
  | some v=>exact zDE v n 0
 ·cases hi with
  | none=>rfl
  | some v=>exact zDE v n n
theorem zAb (i j:Nat):Builtin.Slice.slicePlaces (i:Int) (j:Int) 1=j - i:=by
 unfold Builtin.Slice.slicePlaces
 have h1:(1:Int) > 0:=by omega
 simp only [h1,if_true,Int.ediv_one]
 split <;> omega
theorem YW {v:Value} {o:Option Int} {Q:Option Int->Shared->Prop} (p:IsPart v o) (h:Q o s):wpAny (model prog w) A (Builtin.Slice.slicePartIndex v) Q E s:=by
 cases p with
 | none=>exact slicePart_none h
 | int i t=>exact slicePart_int h
theorem JK {sl:Addr} {vl vu:Value} {lo hi:Option Int} {n:Nat} {Q:Int × Int × Nat->Shared->Prop} (hs:s.heap.IsSliceOf sl vl vu .none) (pl:IsPart vl lo) (pu:IsPart vu hi)
  (h:Q (((sIx n 0 lo:Nat):Int),1,sIx n n hi - sIx n 0 lo) s):wpAny (model prog w) A (Builtin.Slice.sliceApplied (.ref sl) (pure (n:Int))) Q E s:=by
 obtain ⟨os,hos,hcs,hds⟩:=id hs
 unfold Builtin.Slice.sliceApplied Builtin.Slice.sliceFields
 refine wpAny_bind (wpAny_bind (wpAny_field hos hds (x:=vl) rfl (wpAny_bind (wpAny_field hos hds (x:=vu) rfl (wpAny_bind (wpAny_field hos hds (x:=.none) rfl (wpAny_pure ?_)))))))
 refine wpAny_bind (slicePart_none ?_)
 show wpAny _ _ (if ((1:Int) == 0)=true then _ else _) _ _ s
 rw [if_neg (by decide)]
 refine wpAny_bind (YW pl (wpAny_bind (YW pu (wpAny_bind (wpAny_pure ?_)))))
 show wpAny _ _ (match Builtin.Slice.sliceAdjust lo hi 1 (n:Int) with | (lo,hi)=>pure (lo,(1:Int),Builtin.Slice.slicePlaces lo hi 1)) _ _ s
 rw [zBR lo hi n]
 show wpAny _ _ (pure (((sIx n 0 lo:Nat):Int),(1:Int),Builtin.Slice.slicePlaces ((sIx n 0 lo:Nat):Int) ((sIx n n hi:Nat):Int) 1)) _ _ s
 rw [zAb]
 exact wpAny_pure h
theorem zEN (xs:Array Value) (i k:Nat):((List.range k).filterMap fun (m:Nat)=>xs[((i:Int)+(m:Int)*1).toNat]?).toArray=((xs.toList.drop i).take k).toArray:=by
 have e:(fun (m:Nat)=>xs[((i:Int)+(m:Int)*1).toNat]?)=fun m=>xs[i+m]?:=by
  funext m
  have:((i:Int)+(m:Int)*1).toNat=i+m:=by omega
  rw [this]
 rw [e]
 have:=pick_run xs i k
 rw [List.filterMap_map] at this
 have e2:((fun x=>xs[x]?) ∘ fun x=>i+x)=fun m=>xs[i+m]?:=rfl
 rw [e2] at this
 rw [this]
theorem getItem_tuple_cut {t sl:Addr} {items:Array Value} {vl vu:Value} {lo hi:Option Int} {Q:Value->Shared->Prop} (ht:IsTup s.heap t items) (hs:s.heap.IsSliceOf sl vl vu .none) (pl:IsPart vl lo) (pu:IsPart vu hi)
  (hw : ¬ (sIx items.size 0 lo=0/\sIx items.size items.size hi=items.size))
  (h:Q (.ref s.heap.objs.size) { s with heap:=s.heap.push { cls:=.type "tuple", data:=.seq ((items.toList.drop (sIx items.size 0 lo)).take (sIx items.size items.size hi - sIx items.size 0 lo)).toArray } })
  (hsz:items.size<=sizeLine):wpAny (model prog w) A (getItem (.ref t) (.ref sl)) Q E s:=by
 have htake:sizeOk (.seq ((items.toList.drop (sIx items.size 0 lo)).take (sIx items.size items.size hi - sIx items.size 0 lo)).toArray):=by
  show ((items.toList.drop (sIx items.size 0 lo)).take (sIx items.size items.size hi - sIx items.size 0 lo)).toArray.size<=sizeLine
  rw [List.size_toArray,List.length_take,List.length_drop,Array.length_toList]
  omega
 have hj:sIx items.size items.size hi<=items.size:=zIk _ _ (Nat.le_refl _) hi
 obtain ⟨os,hos,hcs,hds⟩:=id hs
 have hTs:s.TypeIs (.ref sl) "slice" := ⟨os,hos,hcs⟩
 unfold getItem
 try with_reducible refine wpAny_holding ?_
 first | refine wpAny_bind (wpAny_pure ?_) | skip
 refine wpAny_bind (wpAny_sequenceKey ht.typeIs (by decide) ?_)
 refine wpAny_bind (wpAny_callSpecial?_slot (name:=Str.ofString "__getitem__") ht.typeIs PyProof.Rows.slot_tuple_getitem
  (wpAny_call_entry PyProof.Rows.slot_tuple_getitem ht.typeIs entry_tuple_getitem ?_ (args_tuple_getitem _ _)))
 show wpAny _ _ (Builtin.Tuple.tupleItemsOf (.ref t) >>= _) _ _ s
 refine wpAny_bind (tupleItemsOf_ ht ?_)
 refine wpAny_bind (wpAny_typeOf hTs ?_)
 rw [if_pos (by decide)]
 refine wpAny_bind (JK hs pl pu ?_)
 have hno : ¬ ((((sIx items.size 0 lo:Nat):Int) == 0 && (1:Int) == 1 && (sIx items.size items.size hi - sIx items.size 0 lo) == items.size)=true):=by
  intro q
  rw [Bool.and_eq_true,Bool.and_eq_true] at q
  have q1:((sIx items.size 0 lo:Nat):Int)=0:=eq_of_beq q.1.1
  have q2:sIx items.size items.size hi - sIx items.size 0 lo=items.size:=eq_of_beq q.2
  exact hw ⟨by omega,by omega⟩
 show wpAny _ _ (if (((sIx items.size 0 lo:Nat):Int) == 0 && (1:Int) == 1 && (sIx items.size items.size hi - sIx items.size 0 lo) == items.size)=true then _ else _) _ _ s
 rw [if_neg hno,zEN]
 first
  | exact wpAny_bind (m:=Builtin.Tuple.tupleExact _) (wpAny_newObj_type (wpAny_pure ⟨_,rfl,wpAny_pure h⟩) htake)
  | exact wpAny_bind (m:=Builtin.Tuple.tupleExact _) (wpAny_newObj_type (wpAny_bind (wpAny_pure (wpAny_pure ⟨_,rfl,wpAny_pure h⟩))) htake)
  | exact wpAny_bind (wpAny_bind (m:=Builtin.Tuple.tupleExact _) (wpAny_newObj_type (wpAny_pure (wpAny_pure ⟨_,rfl,wpAny_pure h⟩)) htake))
  | exact wpAny_bind (wpAny_bind (m:=Builtin.Tuple.tupleExact _) (wpAny_newObj_type (wpAny_pure ⟨_,rfl,wpAny_pure h⟩) htake))
end
end HT
namespace L2
open PySem PySem.Spec PyProof.Rows
open List (flatten_cons length_append replicate_succ size_toArray)
open Nat (le_refl)
abbrev TO:=St->Hp->(Option Int->Hp->Prop)->Prop
def PO (X:Cx) (e:Option Expr) (t:TO):Prop:=
 ∀ (pins:List (Addr × Obj)) (s:Shared) (σ:St) (H:Hp) (Q:Option Int->Hp->Prop),Inv X pins σ H s->t σ H Q ->
  wpAny (model X.prog X.w) X.A (evalPart e X.env) (fun u s'=>∃ o H',Inv X pins σ H' s'/\IsPart u o/\Q o H') X.xe s
def zBv:TO:=fun _ H Q=>Q none H
def zI1 (t:TE):TO:=fun σ H Q=>t σ H fun x H1=>∃ i,x = .int i/\Q (some i) H1
theorem zBH {ns:List Int} : ∀ {us:List Value},qR (ns.map V.int) us->IntsAre us ns:=by
 induction ns with
 | nil=>intro us r;rw [List.map_nil] at r;cases r;exact .nil
 | cons n ns ih =>
  intro us r
  rw [List.map_cons] at r
  cases r with
  | cons r1 r2 =>
   obtain ⟨t,e⟩:=r1
   subst e
   exact .cons n t (ih r2)
section
variable {X : Cx} {e : Expr} {te : TE} {lo hi : Option Expr} {tl th : TO} {pos p2 : Pos}
theorem qG:PO X none zBv:=by
 intro pins s σ H Q I h
 rw [evalPart_none]
 exact wpAny_pure ⟨none,H,I,.none,h⟩
theorem zm (h:PE X e te):PO X (some e) (zI1 te):=by
 intro pins s σ H Q I hw
 rw [evalPart_some]
 refine thn (h pins s σ H _ I hw) fun u s1 zq=>?_
 obtain ⟨x,H1,I1,r1,q1⟩:=zq
 obtain ⟨i,rfl,q⟩:=q1
 obtain ⟨t,rfl⟩:=r1
 exact ⟨some i,H1,I1,.int i t,q⟩
def SlR (X:Cx) (r:V->Option Int->Option Int->Hp->VK->Prop):Prop:=
 ∀ (pins:List (Addr × Obj)) (s:Shared) (σ:St) (H:Hp) (x:V) (v vl vu:Value) (lo hi:Option Int) (sl:Addr) (Q:VK),Inv X pins σ H s->xY x v->s.heap.IsSliceOf sl vl vu .none->IsPart vl lo->IsPart vu hi->r x lo hi H Q ->
  ∃ T id,typeLookup (.type T) "__getitem__" = pure (some (.builtin id))/\s.TypeIs v T/\wpAny (model X.prog X.w) X.A (getItem v (.ref sl)) (EP X pins σ Q) X.xe s
def tSl (r:V->Option Int->Option Int->Hp->VK->Prop) (te:TE) (tl th:TO):TE:=fun σ H Q=>te σ H fun x H1=>tl σ H1 fun l H2=>th σ H2 fun u H3=>r x l u H3 Q
theorem zk {r:V->Option Int->Option Int->Hp->VK->Prop} (hr:SlR X r) (he:PE X e te) (hl:PO X lo tl) (hu:PO X hi th):PE X (.Subscript e (.Slice lo hi none p2) pos) (tSl r te tl th):=by
 intro pins s σ H Q I h
 refine Subscript_ (thn (he pins s σ H _ I h) fun v s1 zq=>?_)
 obtain ⟨x,H1,I1,r1,q1⟩:=zq
 refine wpAny_Slice (thn (hl pins s1 σ H1 _ I1 q1) fun vl s2 ⟨l,H2,I2,pl,q2⟩=>thn (hu pins s2 σ H2 _ I2 q2) fun vu s3 zq=>?_)
 obtain ⟨u,H3,I3,pu,q3⟩:=zq
 rw [evalPart_none]
 refine wpAny_pure ?_
 have I4:Inv X pins σ H3 { s3 with heap:=s3.heap.push { cls:=.type "slice", data:=.fields #[vl,vu,.none] } }:=I3.kept (t':=s3.toks) fun b ob q=>Heap.get?_push_of_some _ q
 obtain ⟨T,id,hT,ht,hg⟩:=hr pins { s3 with heap:=s3.heap.push { cls:=.type "slice", data:=.fields #[vl,vu,.none] } } σ H3 x v vl vu l u s3.heap.objs.size Q I4 r1 (Heap.IsSliceOf.new ..) pl pu q3
 show wpAny (model X.prog X.w) X.A (subscriptTail e (.Slice lo hi none p2) v (.ref s3.heap.objs.size)) (EP X pins σ Q) X.xe { s3 with heap:=s3.heap.push { cls:=.type "slice", data:=.fields #[vl,vu,.none] } }
 exact tail_any (ops:=[.ref s3.heap.objs.size,v]) ht hT hg (by with_unfolding_all rfl)
def zFE (xs:List V) (lo hi:Option Int):List V:=(xs.drop (HT.sIx xs.length 0 lo)).take (HT.sIx xs.length xs.length hi - HT.sIx xs.length 0 lo)
theorem J5 (xs:List V) (lo hi:Option Int):(zFE xs lo hi).length<=xs.length:=by
 unfold zFE
 rw [List.length_take,List.length_drop]
 omega
def zLK (K:W.Frag):V->Option Int->Option Int->Hp->VK->Prop:=fun x lo hi H Q=>∃ a xs,x = .ref a/\SqT K H a xs /\
 ¬ (HT.sIx xs.length 0 lo=0/\HT.sIx xs.length xs.length hi=xs.length) /\ ∀ p,H p=none->Q (.ref p) (upd H p (.tup (zFE xs lo hi)))
theorem zAK:SlR X (zLK X.K):=by
 intro pins s σ H x v vl vu lo hi sl Q I rx hs pl pu h
 obtain ⟨a,xs,rfl,hx,hw,q⟩:=h
 cases rx
 obtain ⟨its,r,ht,hz⟩:=I.tuple hx
 have hlen:its.toArray.size=xs.length:=by rw [size_toArray];exact r.length.symm
 refine ⟨"tuple", _,PyProof.Rows.slot_tuple_getitem.lookup,ht.typeIs,?_⟩
 refine HT.getItem_tuple_cut ht hs pl pu (by rw [hlen];exact hw) ?_ (by rw [hlen];exact hz)
 rw [hlen]
 refine ⟨.ref s.heap.objs.size,_,I.laid (t':=s.toks) (o:=.tup (zFE xs lo hi)) (fun b ob q=>Heap.get?_push_of_some _ q) (le_refl _) ?_,rfl,q _ (I.hok.fresh (le_refl _))⟩
 exact ⟨Nat.le_trans (J5 xs lo hi) hz,_,(r.drop (HT.sIx xs.length 0 lo)).take (HT.sIx xs.length xs.length hi - HT.sIx xs.length 0 lo),IsTup.new _ _⟩
end
def ixN (n:Nat) (i:Int):Option Nat:=if 0<=i then (if i < n then some i.toNat else none) else if -(n:Int)<=i then some (i+n).toNat else none
def atI {α:Type} (xs:List α) (i:Int):Option α:=(ixN xs.length i).bind fun j=>xs[j]?
variable {n:Nat}
theorem zF4 {i:Int} {j:Nat} (h:ixN n i=some j):seqIndex? i n=some j/\j < n /\ -(n:Int)<=i/\i < n:=by
 unfold ixN at h
 by_cases h0:0<=i
 ·rw [if_pos h0] at h
  by_cases h1:i < n
  ·rw [if_pos h1] at h
   have e:i.toNat=j:=Option.some.inj h
   exact ⟨by rw [seqIndex_of h0 h1,e],by omega,by omega,h1⟩
  ·rw [if_neg h1] at h;cases h
 ·rw [if_neg h0] at h
  by_cases h1 : -(n:Int)<=i
  ·rw [if_pos h1] at h
   have e:(i+n).toNat=j:=Option.some.inj h
   exact ⟨by rw [seqIndex_neg (by omega) h1,e],by omega,h1,by omega⟩
  ·rw [if_neg h1] at h;cases h
theorem WV {α:Type} {xs:List α} {i:Int} {v:α} (h:atI xs i=some v) : ∃ j,seqIndex? i xs.length=some j/\xs[j]? = some v/\j < xs.length /\ -(xs.length:Int)<=i/\i < xs.length:=by
 unfold atI at h
 cases e:ixN xs.length i with
 | none=>rw [e] at h;cases h
 | some j =>
  rw [e] at h
  obtain ⟨h1,h2,h3,h4⟩:=zF4 e
  exact ⟨j,h1,h,h2,h3,h4⟩
theorem zGQ {α:Type} {xs:List α} {j:Nat} {v:α} (h:xs[j]? = some v):atI xs (j:Int)=some v:=by
 have hj:j < xs.length:=(List.getElem?_eq_some_iff.mp h).1
 have e:ixN xs.length (j:Int)=some j:=by
  unfold ixN
  rw [if_pos (by omega),if_pos (by omega)];simp
 unfold atI;rw [e];exact h
def zGZ (b:Expr):Prop:=∀ o i,subscripted b false o i=operate [o,i] (getItem o i)
def IxR (X:Cx) (r:R2):Prop:=
 ∀ (value slice:Expr) (pins:List (Addr × Obj)) (s:Shared) (σ:St) (H:Hp) (x y:V) (v u:Value) (Q:VK),Inv X pins σ H s->xY x v->xY y u->r x y H Q ->
  subscripted slice false v u=operate [v,u] (getItem v u)->wpAny (model X.prog X.w) X.A (subscriptTail value slice v u) (EP X pins σ Q) X.xe s
def MtR (X:Cx) (id:String) (r:V->List V->Hp->VK->Prop):Prop:=
 ∀ (pins:List (Addr × Obj)) (s:Shared) (σ:St) (H:Hp) (x:V) (xs:List V) (v:Value) (us:List Value) (Q:VK),Inv X pins σ H s->xY x v->qR xs us->r x xs H Q ->
  wpAny (model X.prog X.w) X.A (call (.builtin id) (v::us)) (EP X pins σ Q) X.xe s
section
variable {X : Cx} {a b : Expr} {ta tb : TE} {pos : Pos}
theorem zX {r:R2} (hr:IxR X r) (ha:PE X a ta) (hb:PE X b tb) (hs:zGZ b):PE X (.Subscript a b pos) (tOp r ta tb):=by
 intro pins s σ H Q I h
 exact Subscript_ (zKp ha hb I h fun v u s2 x y H2 I2 rx ry q=>hr a b pins s2 σ H2 x y v u Q I2 rx ry q (hs _ _))
def zD0 (K:W.Frag):R2:=fun x y H Q=>∃ p xs i v,x = .ref p/\y = .int i/\SqL K H p xs/\atI xs i=some v/\Q v H
def zJz (K:W.Frag):R2:=fun x y H Q=>∃ p xs i v,x = .ref p/\y = .int i/\SqT K H p xs/\atI xs i=some v/\Q v H
def zFV:R2:=fun x y H Q=>∃ z i c,x = .str z/\y = .int i/\z.length<=sizeLine/\atI z.cps.toList i=some c/\Q (.str ⟨#[c]⟩) H
theorem zp:IxR X (zD0 X.K):=by
 intro value slice pins s σ H x y v u Q I rx ry h hs
 obtain ⟨p,xs,i,z,rfl,rfl,hq,he,q⟩:=h
 cases rx
 obtain ⟨t,rfl⟩:=ry
 obtain ⟨its,r,pl,hz⟩:=I.list hq
 obtain ⟨j,h1,h2,h3,h4,h5⟩:=WV he
 obtain ⟨w,ew,rw'⟩:=r.get h2
 have hl:=r.length
 have hn:=KO
 have fin:EP X pins σ Q w s:=⟨z,H,I,rw',q⟩
 by_cases h0:0<=i
 ·have hj:i.toNat=j:=by
   rw [seqIndex_of h0 h5] at h1
   exact Option.some.inj h1
  exact item_listR pl.isList h0 (by omega) (by rw [hj];simpa using ew) fin hs
 ·have hj:(i+(its.toArray.size:Int)).toNat=j:=by
   rw [seqIndex_neg (by omega) h4] at h1
   rw [size_toArray,<- hl]
   exact Option.some.inj h1
  exact subscriptTail_builtinR (x:=w) pl.isList.typeIs slot_list_getitem.lookup
   (wpAny_getItem_list_neg (Q:=fun r s'=>r=w/\EP X pins σ Q r s') pl.isList (by omega) (by rw [size_toArray] <;> omega) (by omega) (by rw [hj];simpa using ew) ⟨rfl,fin⟩) hs
theorem zi:IxR X (zJz X.K):=by
 intro value slice pins s σ H x y v u Q I rx ry h hs
 obtain ⟨p,xs,i,z,rfl,rfl,hq,he,q⟩:=h
 cases rx
 obtain ⟨t,rfl⟩:=ry
 obtain ⟨its,r,pl,hz⟩:=I.tuple hq
 obtain ⟨j,h1,h2,h3,h4,h5⟩:=WV he
 obtain ⟨w,ew,rw'⟩:=r.get h2
 have hl:=r.length
 have hn:=KO
 have fin:EP X pins σ Q w s:=⟨z,H,I,rw',q⟩
 exact subscriptTail_builtinR (x:=w) pl.typeIs slot_tuple_getitem.lookup
  (getItem_tuple (j:=j) (Q:=fun r s'=>r=w/\EP X pins σ Q r s') pl (by omega) (by omega) (by rw [size_toArray,<- hl];exact h1) (by simpa using ew) ⟨rfl,fin⟩) hs
theorem x0:IxR X zFV:=by
 intro value slice pins s σ H x y v u Q I rx ry h hs
 obtain ⟨z,i,c,rfl,rfl,hz,he,q⟩:=h
 obtain ⟨t,rfl⟩:=rx
 obtain ⟨t',rfl⟩:=ry
 obtain ⟨j,h1,h2,h3,h4,h5⟩:=WV he
 have hl:z.cps.toList.length=z.length:=by simp [Str.length]
 rw [hl] at h1 h4 h5
 have hn:=KO
 exact tail_any (typeIs_str s z t) slot_str_getitem.lookup (getItem_str (c:=c) (by
  have e1:decide (i < -(2 ^ 63:Int))=false:=decide_eq_false (by omega)
  have e2:decide (i ≥ 2 ^ 63)=false:=decide_eq_false (by omega)
  rw [e1,e2,Bool.or_false]) (by rw [h1];simpa using h2) ⟨.str ⟨#[c]⟩,H,I.tok _,⟨_,rfl⟩,q⟩) hs
variable {s:Shared}
theorem Inv.lst {pins:List (Addr × Obj)} {σ:St} {H:Hp} {p:Addr} {xs:List V} (I:Inv X pins σ H s) (h:H p=some (.lst xs)) :
  ∃ (its:List Value) (n:Nat),qR xs its/\s.heap.get? p=some { cls:=.type "list", data:=.seq its.toArray n }/\xs.length<=sizeLine:=by
 obtain ⟨z,its,n,r,e⟩:=I.hok p _ h
 exact ⟨its,n,r,e,z⟩
theorem KM (lo hi:Option Int) (n:Nat):(sliceBounds lo hi none n).1=((HT.sIx n 0 lo:Nat):Int)/\(sliceBounds lo hi none n).2.1=((HT.sIx n n hi:Nat):Int)/\(sliceBounds lo hi none n).2.2=1:=by
 refine ⟨?_,?_,rfl⟩
 ·cases lo with
  | none=>simp [sliceBounds,HT.sIx]
  | some i =>
   simp only [sliceBounds,HT.sIx,Option.getD_none,show (1:Int) > 0 by decide,if_true]
   by_cases h:i < 0
   ·simp only [h,if_true] <;> omega
   ·simp only [h,if_false] <;> omega
 ·cases hi with
  | none=>simp [sliceBounds,HT.sIx]
  | some i =>
   simp only [sliceBounds,HT.sIx,Option.getD_none,show (1:Int) > 0 by decide,if_true]
   by_cases h:i < 0
   ·simp only [h,if_true] <;> omega
   ·simp only [h,if_false] <;> omega
theorem Yq (its:List Value) (lo hi:Option Int):slicePick its.toArray lo hi none=((its.drop (HT.sIx its.length 0 lo)).take (HT.sIx its.length its.length hi - HT.sIx its.length 0 lo)).toArray:=by
 obtain ⟨h1,h2,h3⟩:=KM lo hi its.toArray.size
 unfold slicePick
 rw [h1,h2,h3]
 simp only [sliceRange_one,pick_run,size_toArray] <;> rfl
def zJn (K:W.Frag):V->Option Int->Option Int->Hp->VK->Prop:=fun x lo hi H Q=>∃ a xs,x = .ref a/\SqL K H a xs /\ ∀ p,H p=none->Q (.ref p) (upd H p (.lst (zFE xs lo hi)))
theorem QT:SlR X (zJn X.K):=by
 intro pins s σ H x v vl vu lo hi sl Q I rx hs pl pu h
 obtain ⟨a,xs,rfl,hx,q⟩:=h
 cases rx
 obtain ⟨its,r,ht,hz⟩:=I.list hx
 have hlen:=r.length
 refine ⟨"list", _,slot_list_getitem.lookup,ht.isList.typeIs,?_⟩
 refine wpAny_getItem_list_slice ht.isList hs pl pu .none (by simp) ?_ (by rw [size_toArray] <;> omega)
 rw [Yq,<- hlen]
 refine ⟨.ref s.heap.objs.size,_,I.laid (t':=s.toks) (o:=.lst (zFE xs lo hi)) (fun b ob q=>Heap.get?_push_of_some _ q) (le_refl _) ?_,rfl,q _ (I.hok.fresh (le_refl _))⟩
 exact ⟨Nat.le_trans (J5 xs lo hi) hz,_,0,(r.drop (HT.sIx xs.length 0 lo)).take (HT.sIx xs.length xs.length hi - HT.sIx xs.length 0 lo),Heap.get?_push_size _ rfl⟩
def Xz:V->Bool
 | .non=>true
 | .bl _=>true
 | .int _=>true
 | .str _=>true
 | _=>false
def eqV:V->V->Bool
 | .non,.non=>true
 | .bl a,.bl b=>a == b
 | .bl a,.int b=>(if a then 1 else 0) == b
 | .int a,.bl b=>a == (if b then 1 else 0)
 | .int a,.int b=>a == b
 | .str a,.str b=>a == b
 | _,_=>false
variable {x:V}
theorem zHu {A:Around} {y:V} {u v:Value} (ry:xY y u) (rx:xY x v) (fy:Xz y=true) (fx:Xz x=true):SeqAt.EqAt A s u v (eqV y x):=by
 cases y with
 | non =>
  cases ry
  cases x with
  | non=>cases rx;exact SeqAt.EqAt.same _
  | bl b=>cases rx;exact SeqAt.EqAt.none_bool b
  | int b=>obtain ⟨t,rfl⟩:=rx;exact SeqAt.EqAt.none_int b t
  | str b=>obtain ⟨t,rfl⟩:=rx;exact SeqAt.EqAt.none_str b t
  | _=>exact absurd (show false=true from fx) Bool.false_ne_true
 | bl a =>
  cases ry
  cases x with
  | non=>cases rx;exact SeqAt.EqAt.bool_none a
  | bl b=>cases rx;exact SeqAt.EqAt.bool_bool a b
  | int b=>obtain ⟨t,rfl⟩:=rx;exact SeqAt.EqAt.bool_int a b t
  | str b=>obtain ⟨t,rfl⟩:=rx;exact SeqAt.EqAt.bool_str a b t
  | _=>exact absurd (show false=true from fx) Bool.false_ne_true
 | int a =>
  obtain ⟨t',rfl⟩:=ry
  cases x with
  | non=>cases rx;exact SeqAt.EqAt.int_none a t'
  | bl b=>cases rx;exact SeqAt.EqAt.int_bool a t' b
  | int b=>obtain ⟨t,rfl⟩:=rx;exact SeqAt.EqAt.int_int a t' b t
  | str b=>obtain ⟨t,rfl⟩:=rx;exact SeqAt.EqAt.int_str a t' b t
  | _=>exact absurd (show false=true from fx) Bool.false_ne_true
 | str a =>
  obtain ⟨t',rfl⟩:=ry
  cases x with
  | non=>cases rx;exact SeqAt.EqAt.str_none a t'
  | bl b=>cases rx;exact SeqAt.EqAt.str_bool a t' b
  | int b=>obtain ⟨t,rfl⟩:=rx;exact SeqAt.EqAt.str_int a t' b t
  | str b=>obtain ⟨t,rfl⟩:=rx;exact SeqAt.EqAt.str_str a t' b t
  | _=>exact absurd (show false=true from fx) Bool.false_ne_true
 | _=>exact absurd (show false=true from fy) Bool.false_ne_true
def eqU (x:V) (u:Value):Bool:=match u with
 | .none=>eqV .non x
 | .bool b=>eqV (.bl b) x
 | .int i _=>eqV (.int i) x
 | .str z _=>eqV (.str z) x
 | _=>false
theorem zE1 {y:V} {u:Value} (r:xY y u) (f:Xz y=true):eqU x u=eqV y x:=by
 cases y with
 | non=>cases r;rfl
 | bl b=>cases r;rfl
 | int i=>obtain ⟨t,rfl⟩:=r;rfl
 | str z=>obtain ⟨t,rfl⟩:=r;rfl
 | _=>exact absurd (show false=true from f) Bool.false_ne_true
theorem XJ {x:V} : ∀ {xs:List V} {us:List Value},qR xs us->xs.all Xz=true->us.any (eqU x)=xs.any fun y=>eqV y x
 | _,_,.nil,_=>rfl
 | y::xs,u::us,.cons r t,f=>by
  rw [List.all_cons,Bool.and_eq_true] at f
  rw [List.any_cons,List.any_cons,zE1 r f.1,XJ t f.2]
theorem ZK {A:Around} {s:Shared} {x:V} {v:Value} (rx:xY x v) (fx:Xz x=true) : ∀ {xs:List V} {us:List Value},qR xs us->xs.all Xz=true -> ∀ u ∈ us,SeqAt.EqAt A s u v (eqU x u)
 | _,_,.nil,_=>fun u hu=>by cases hu
 | y::xs,u::us,.cons r t,f=>fun u' hu=>by
  rw [List.all_cons,Bool.and_eq_true] at f
  rcases List.mem_cons.mp hu with rfl | hu
  ·rw [zE1 r f.1];exact zHu r rx f.1 fx
  ·exact ZK rx fx t f.2 u' hu
def inV (x:V) (xs:List V):Bool:=xs.any fun y=>eqV y x
def rIn (K:W.Frag) (neg:Bool):R2:=fun x y H Q=>∃ p xs,y = .ref p/\(SqL K H p xs\/SqT K H p xs)/\Xz x=true/\xs.all Xz=true/\Q (.bl (if neg then !inV x xs else inV x xs)) H
theorem zC8:OpR X (compareOp .In) (rIn X.K false):=by
 intro pins s σ H x y v u Q I rx ry h
 obtain ⟨p,xs,rfl,hq,fx,fs,q⟩:=h
 cases ry
 rcases hq with hq | hq
 ·obtain ⟨its,r,pl,hz⟩:=I.list hq
  refine SeqAt.in_listAt (eqU x) pl.isList (fun w hw=>ZK rx fx r fs w (by simpa using hw)) ⟨.bl _,H,I,rfl,?_⟩
  rw [show its.toArray.any (eqU x)=its.any (eqU x) by simp,XJ r fs]
  exact q
 ·obtain ⟨its,r,pl,hz⟩:=I.tuple hq
  refine SeqAt.in_tupleAt (eqU x) pl (fun w hw=>ZK rx fx r fs w (by simpa using hw)) ⟨.bl _,H,I,rfl,?_⟩
  rw [show its.toArray.any (eqU x)=its.any (eqU x) by simp,XJ r fs]
  exact q
theorem Vi:OpR X (compareOp .NotIn) (rIn X.K true):=by
 intro pins s σ H x y v u Q I rx ry h
 obtain ⟨p,xs,rfl,hq,fx,fs,q⟩:=h
 cases ry
 rcases hq with hq | hq
 ·obtain ⟨its,r,pl,hz⟩:=I.list hq
  refine SeqAt.notIn_listAt (eqU x) pl.isList (fun w hw=>ZK rx fx r fs w (by simpa using hw)) ⟨.bl _,H,I,rfl,?_⟩
  rw [show its.toArray.any (eqU x)=its.any (eqU x) by simp,XJ r fs]
  exact q
 ·obtain ⟨its,r,pl,hz⟩:=I.tuple hq
  refine SeqAt.notIn_tupleAt (eqU x) pl (fun w hw=>ZK rx fx r fs w (by simpa using hw)) ⟨.bl _,H,I,rfl,?_⟩
  rw [show its.toArray.any (eqU x)=its.any (eqU x) by simp,XJ r fs]
  exact q
theorem Ku:yQ X (.builtin "len") (fun xs H Q=>∃ p ys,xs=[.ref p]/\(SqL X.K H p ys\/SqT X.K H p ys)/\Q (.int ys.length) H):=by
 intro pins s σ H xs us Q I r h
 obtain ⟨p,ys,rfl,hq,q⟩:=h
 obtain ⟨u,rfl,rx⟩:=Wf r
 cases rx
 have hn:=KO
 rcases hq with hq | hq
 ·obtain ⟨its,r',pl,hz⟩:=I.list hq
  have hlen:=r'.length
  exact Calls.call_len_list pl.isList (by simp only [size_toArray] <;> omega) ⟨.int ys.length,H,I.tok _,⟨s.toks+1,by rw [size_toArray,hlen]⟩,q⟩
 ·obtain ⟨its,r',pl,hz⟩:=I.tuple hq
  have hlen:=r'.length
  exact len_tuple pl (by simp only [size_toArray] <;> omega) ⟨.int ys.length,H,I.tok _,⟨s.toks+1,by rw [size_toArray,hlen]⟩,q⟩
theorem Kq:yQ X (.builtin "len") (fun xs H Q=>∃ z,xs=[.str z]/\z.length<=sizeLine/\Q (.int z.length) H):=by
 intro pins s σ H xs us Q I r h
 obtain ⟨z,rfl,hz,q⟩:=h
 obtain ⟨u,rfl,t,rfl⟩:=Wf r
 have hn:=KO
 exact len_str (by omega) ⟨.int z.length,H,I.tok _,⟨_,rfl⟩,q⟩
theorem Km:yQ X (.type "list") (fun xs H Q=>∃ p ys,xs=[.ref p]/\(SqL X.K H p ys\/SqT X.K H p ys) /\ ∀ l,H l=none->Q (.ref l) (upd H l (.lst ys))):=by
 intro pins s σ H xs us Q I r h
 obtain ⟨p,ys,rfl,hq,q⟩:=h
 obtain ⟨u,rfl,rx⟩:=Wf r
 cases rx
 have fin : ∀ (its:List Value),qR ys its->ys.length<=sizeLine -> ∀ (h':Heap) (c':Nat),(∀ b o',s.heap.get? b=some o'->h'.get? b=some o') ->
   h'.get? s.heap.objs.size=some { cls:=.type "list", dict:=none,data:=.seq its.toArray c',slots:=#[] }->EP X pins σ Q (.ref s.heap.objs.size) { s with heap:=h' }:=fun its r' hz h' c' kp e =>
  ⟨.ref s.heap.objs.size,_,I.laid (t':=s.toks) kp (le_refl _) (show xO X.prog X.w _ h' _ (.lst ys) from ⟨hz,its,c',r',e⟩),rfl,q _ (I.hok.fresh (le_refl _))⟩
 rcases hq with hq | hq
 ·obtain ⟨its,r',pl,hz⟩:=I.list hq
  have hlen:=r'.length
  obtain ⟨o,ho,hc,n,hd⟩:=pl.isList
  exact call_list_seq p (.inl rfl) ho hc hd (fun h' c' kp e=>fin its r' hz h' c' kp e) (by simp only [size_toArray] <;> omega)
 ·obtain ⟨its,r',pl,hz⟩:=I.tuple hq
  have hlen:=r'.length
  obtain ⟨o,ho,hc,n,hd⟩:=pl
  exact call_list_seq p (.inr rfl) ho hc hd (fun h' c' kp e=>fin its r' hz h' c' kp e) (by simp only [size_toArray] <;> omega)
def tyV (K:W.Frag) (T:String) (x:V) (H:Hp):Prop:=match x with
 | .str _=>T = "str"
 | .int _=>T = "int"
 | .ref p=>(T = "list" /\ ∃ xs,SqL K H p xs)\/(T = "tuple" /\ ∃ o,K.lookup p=some o/\o.cls = .type "tuple" /\ o.dict=none) \/
   (T = "dict" /\ ((∃ kvs,H p=some (.dK kvs)) \/ ∃ kvs,H p=some (.dT kvs)))\/(T = "set" /\ ∃ S n,H p=some (.set S n))
 | _=>False
theorem zEw {pins:List (Addr × Obj)} {σ:St} {H:Hp} {T:String} {v:Value} (I:Inv X pins σ H s) (r:xY x v) (ty:tyV X.K T x H) :
  s.TypeIs v T /\ ∀ a,v = .ref a -> ∃ ob,s.heap.get? a=some ob/\ob.dict=none:=by
 cases x with
 | str z =>
  obtain ⟨t,rfl⟩:=r
  cases (show T = "str" from ty)
  exact ⟨typeIs_str s z t,fun _ e=>nomatch e⟩
 | int i =>
  obtain ⟨t,rfl⟩:=r
  cases (show T = "int" from ty)
  exact ⟨typeIs_int s i t,fun _ e=>nomatch e⟩
 | ref p =>
  cases r
  rcases ty with ⟨rfl,xs,hq⟩ | ⟨rfl,o,hk,hc,hd⟩ | ⟨rfl,hk⟩ | ⟨rfl,S,n,hk⟩
  ·obtain ⟨its,_,pl,_⟩:=I.list hq
   refine ⟨pl.isList.typeIs,fun a e=>?_⟩
   cases e
   obtain ⟨o,n,e,c,hd,_⟩:=pl
   exact ⟨o,e,hd⟩
  ·refine ⟨⟨o,I.kIn p o hk,hc⟩,fun a e=>?_⟩
   cases e
   exact ⟨o,I.kIn _ o hk,hd⟩
  ·have z : ∃ o,s.heap.get? p=some o/\o.ExactDict:=by
    rcases hk with ⟨kvs,hk⟩ | ⟨kvs,hk⟩
    ·obtain ⟨_,_,_,_,o,_,_,e,ex,_⟩:=I.hok p _ hk
     exact ⟨o,e,ex⟩
    ·obtain ⟨_,_,_,_,o,_,_,e,ex,_⟩:=I.hok p _ hk
     exact ⟨o,e,ex⟩
   obtain ⟨o,e,ex⟩:=z
   refine ⟨⟨o,e,ex.1⟩,fun a e2=>?_⟩
   cases e2
   exact ⟨o,e,ex.2.1⟩
  ·obtain ⟨o,_,_,_,e,ex,_⟩:=I.hok p _ hk
   refine ⟨⟨o,e,ex.1⟩,fun a e2=>?_⟩
   cases e2
   exact ⟨o,e,ex.2.1⟩
 | _=>exact False.elim ty
def zLB (K:W.Frag) (T:String) (r:V->List V->Hp->VK->Prop) (to:TE):TE:=fun σ H Q=>to σ H fun x H1=>tyV K T x H1/\r x [] H1 Q
def tBM (K:W.Frag) (T:String) (r:V->List V->Hp->VK->Prop) (to:TE) (t:TA):TE:=fun σ H Q=>to σ H fun x H1=>tyV K T x H1/\t σ H1 fun xs H2=>r x xs H2 Q
variable {o e : Expr} {es : List Expr} {to : TE} {t : TA} {name : Str} {apos cpos : Pos} {T id : String} {r : V -> List V -> Hp -> VK -> Prop}
theorem zFW (pa:PlainAttrs T) (slot:Slot T name id) (hty:typeOf (.builtin id)=pure (.type "method_descriptor")) (hm:MtR X id r) (ho:PE X o to)
  (hbase:attributeBase o name X.env (eval o X.env)=eval o X.env:=by rfl) (hline:(apos.endLine == cpos.line)=true:=by rfl):PE X (.Call (.Attribute o name apos) [] [] cpos) (zLB X.K T r to):=by
 intro pins s σ H Q I h
 refine wpAny_Call_method0_late hbase hline (thn (ho pins s σ H _ I h) fun v s1 zq=>?_)
 obtain ⟨x,H1,I1,r1,ty,q1⟩:=zq
 obtain ⟨h1,h2⟩:=zEw I1 r1 ty
 exact ⟨T,id,pa,slot,hty,h1,h2,Calls.callWith_builtin rfl (PySem.evalArgs_none (hm pins s1 σ H1 x [] v [] Q I1 r1 .nil q1))⟩
theorem yz (pa:PlainAttrs T) (slot:Slot T name id) (hty:typeOf (.builtin id)=pure (.type "method_descriptor")) (hm:MtR X id r) (ho:PE X o to) (ha:PA X (e::es) t)
  (hbase:attributeBase o name X.env (eval o X.env)=eval o X.env:=by rfl)
  (hfew:((backTo cpos (starEach (e::es) X.env)).all (fun x=>!x.1) && (backToKw cpos (keywordEach [] X.env)).all (fun x=>x.1.isSome)
   && decide ((e::es).length+([]:List Keyword).length+(if ([]:List Keyword).isEmpty then 0 else 1) < 30))=true:=by rfl)
  (hline:(apos.endLine == cpos.line)=true:=by rfl) (hs:starEach (e::es) X.env=(false,eval e X.env)::starEach es X.env:=by rfl) (hplain:(backTo cpos (starEach es X.env)).any (·.1)=false:=by rfl) :
  PE X (.Call (.Attribute o name apos) (e::es) [] cpos) (tBM X.K T r to t):=by
 intro pins s σ H Q I h
 refine wpAny_Call_method_late hbase hfew hline rfl (thn (ho pins s σ H _ I h) fun v s1 zq=>?_)
 obtain ⟨x,H1,I1,r1,ty,q1⟩:=zq
 obtain ⟨h1,h2⟩:=zEw I1 r1 ty
 refine ⟨T,id,pa,slot,hty,h1,h2,?_⟩
 have hA:=ha cpos pins s1 σ H1 _ I1 q1
 rw [hs] at hA ⊢
 refine Calls.callWith_builtin (by show (false || (backTo cpos (starEach es X.env)).any (·.1))=false;rw [hplain] <;> rfl) (Calls.evalArgs_plain ?_)
 exact thn hA fun us s2 ⟨vs,H2,I2,r2,q2⟩=>hm pins s2 σ H2 x vs v us Q I2 r1 r2 q2
end
def MtM (X:Cx) (id:String) (r:V->List V->Hp->VK->Prop):Prop:=
 ∀ (pins:List (Addr × Obj)) (s:Shared) (σ:St) (H:Hp) (x:V) (xs:List V) (v:Value) (us:List Value) (Q:VK),Inv X pins σ H s->xY x v->qR xs us->r x xs H Q ->
  wpAny (model X.prog X.w) X.A (call (.builtin id) (v::us)) (EP X pins σ Q) X.xe s
theorem qR.one : ∀ {x:V} {us:List Value},qR [x] us -> ∃ u,us=[u]/\xY x u
 | _,_,.cons r .nil=>⟨_,rfl,r⟩
theorem qR.zero : ∀ {us:List Value},qR [] us->us=[]
 | _,.nil=>rfl
theorem qR.reverse {xs:List V} {us:List Value} (h:qR xs us):qR xs.reverse us.reverse:=by
 induction h with
 | nil=>exact .nil
 | cons r t ih=>rw [List.reverse_cons,List.reverse_cons];exact qR.append ih (.cons r .nil)
theorem qR.rep {xs:List V} {us:List Value} (h:qR xs us) : ∀ k:Nat,qR (List.replicate k xs).flatten (List.replicate k us).flatten
 | 0=>.nil
 | k+1=>by
  rw [replicate_succ,replicate_succ,flatten_cons,flatten_cons]
  exact qR.append h (qR.rep h k)
theorem Kh (its:List Value) : ∀ (k:Nat) (acc:List Value),
  List.foldl (fun x1 x2=>x1++x2) acc.toArray (List.replicate k its.toArray)=(acc++(List.replicate k its).flatten).toArray
 | 0,acc=>by simp
 | k+1,acc=>by
  have e:acc.toArray++its.toArray=(acc++its).toArray:=by simp
  have e2:(acc++its)++(List.replicate k its).flatten=acc++(List.replicate (k+1) its).flatten:=by
   rw [replicate_succ,flatten_cons,List.append_assoc]
  rw [<- e2,<- Kh its k (acc++its),<- e,replicate_succ,List.foldl_cons]
section
variable {X : Cx} {pins : List (Addr × Obj)} {σ : St} {H : Hp} {s : Shared} {l b : Addr} {xs ys zs : List V}
theorem Inv.lset {its its':List Value} {f:Array Value->Array Value} {t':Nat} (I:Inv X pins σ H s) (hH:H l=some (.lst xs))
  (e:s.heap.get? l=some { cls:=.type "list", data:=.seq its.toArray n }) (hf:f its.toArray=its'.toArray) (hv:qR ys its') (hz:ys.length<=sizeLine) :
  Inv X pins σ (upd H l (.lst ys)) { s with heap:=s.heap.update l (Obj.mapSeq f),toks:=t' }:=by
 have q:=PySem.IsL.update e f
 rw [hf] at q
 refine I.write (x:=l) (e:=l) (by rw [hH];exact trivial) (.inl rfl) (fun b' u hb hu=>(Heap.get?_update_other s.heap (Obj.mapSeq f) (Ne.symm hb)).trans hu) ⟨_,q⟩ ?_
 exact ⟨hz,its',_,hv,q⟩
theorem Inv.lnew {its:List Value} {t':Nat} (I:Inv X pins σ H s) (hv:qR ys its) (hz:ys.length<=sizeLine) :
  Inv X pins σ (upd H s.heap.objs.size (.lst ys)) { s with heap:=s.heap.push { cls:=.type "list", data:=.seq its.toArray },toks:=t' }:=
 I.laid (fun _ _ q=>Heap.get?_push_of_some _ q) (le_refl _) ⟨hz,its,0,hv,Heap.get?_push_size _ rfl⟩
theorem Inv.fresh (I:Inv X pins σ H s):H s.heap.objs.size=none:=I.hok.fresh (le_refl _)
theorem Inv.lstM (I:Inv X pins σ H s) (hH:H l=some (.lst xs)):xs.length<=sizeLine /\ ∃ (its:List Value) (n:Nat),qR xs its/\xs.length=its.length/\s.heap.get? l=some { cls:=.type "list", data:=.seq its.toArray n }:=by
 obtain ⟨z,its,n,r,e⟩:=I.hok l _ hH
 exact ⟨z,its,n,r,r.length,e⟩
theorem Ww (h:n<=sizeLine):Builtin.List.listTooLong n=false:=by
 unfold Builtin.List.listTooLong
 exact decide_eq_false (by omega)
end
section
variable {X : Cx}
def Ym:V->List V->Hp->VK->Prop:=fun x vs H Q=>∃ l xs y,x = .ref l/\vs=[y]/\H l=some (.lst xs)/\xs.length < sizeLine/\Q .non (upd H l (.lst (xs++[y])))
theorem xL:MtM X "list.append" Ym:=by
 intro pins s σ H x vs v us Q I rx rv h
 obtain ⟨l,xs,y,rfl,rfl,hH,hz,q⟩:=h
 cases rx
 obtain ⟨u,rfl,ru⟩:=rv.one
 obtain ⟨z,its,n,r,hl,e⟩:=I.lstM hH
 refine call_meets F.slot_list_append ⟨_,e,rfl⟩ F.entry_list_append (F.args_list_append_2 _ _) (PySem.list_append l its.toArray n u (by rw [size_toArray];omega)) ⟨e,?_⟩
 refine ⟨.non,_,I.lset (its':=its++[u]) hH e (by simp) (r.append (.cons ru .nil)) ?_,rfl,q⟩
 rw [length_append,List.length_singleton]
 omega
def zGk:V->List V->Hp->VK->Prop:=fun x vs H Q=>∃ l b xs zs,x = .ref l/\vs=[.ref b]/\H l=some (.lst xs)/\H b=some (.lst zs)/\xs.length+zs.length<=sizeLine/\Q .non (upd H l (.lst (xs++zs)))
theorem zCr:MtM X "list.extend" zGk:=by
 intro pins s σ H x vs v us Q I rx rv h
 obtain ⟨l,b,xs,zs,rfl,rfl,hH,hB,hz,q⟩:=h
 cases rx
 obtain ⟨u,rfl,ru⟩:=rv.one
 cases ru
 obtain ⟨z,its,n,r,hl,e⟩:=I.lstM hH
 obtain ⟨z2,its2,n2,r2,hl2,e2⟩:=I.lstM hB
 have hsz:its.toArray.size+its2.toArray.size<=sizeLine:=by rw [size_toArray,size_toArray];omega
 have hlong : ¬ (!its.toArray.isEmpty && Builtin.List.listTooLong (its.toArray.size+its2.toArray.size))=true:=by
  rw [Ww hsz,Bool.and_false]
  exact Bool.false_ne_true
 refine call_meets F.slot_list_extend ⟨_,e,rfl⟩ F.entry_list_extend (F.args_list_extend_2 _ _)
  (AutoSeq1.list_extend_list_list_0 l its.toArray n b its2.toArray n2 hlong (by rw [size_toArray];omega) (by omega)) ⟨e,e2,?_⟩
 refine ⟨.non,_,I.lset (its':=its++its2) hH e (by simp) (r.append r2) ?_,rfl,q⟩
 rw [length_append]
 omega
def Wx:V->List V->Hp->VK->Prop:=fun x vs H Q=>∃ l xs,x = .ref l/\vs=[]/\H l=some (.lst xs)/\Q .non (upd H l (.lst xs.reverse))
theorem YY:MtM X "list.reverse" Wx:=by
 intro pins s σ H x vs v us Q I rx rv h
 obtain ⟨l,xs,rfl,rfl,hH,q⟩:=h
 cases rx
 have hus:=rv.zero
 subst hus
 obtain ⟨z,its,n,r,hl,e⟩:=I.lstM hH
 refine call_meets F.slot_list_reverse ⟨_,e,rfl⟩ F.entry_list_reverse (F.args_list_reverse_1 _) (AutoSeq1.list_reverse_list_0 l its.toArray n (by rw [size_toArray];omega)) ⟨e,?_⟩
 refine ⟨.non,_,I.lset (its':=its.reverse) hH e (by simp) r.reverse ?_,rfl,q⟩
 rw [List.length_reverse]
 omega
def zKT:R2:=fun x y H Q=>∃ l b xs zs,x = .ref l/\y = .ref b/\H l=some (.lst xs)/\H b=some (.lst zs)/\xs.length+zs.length<=sizeLine /\ ∀ p,H p=none->Q (.ref p) (upd H p (.lst (xs++zs)))
theorem jf:OpR X (binaryOp .Add) zKT:=by
 intro pins s σ H x y v u Q I rx ry h
 obtain ⟨l,b,xs,zs,rfl,rfl,hH,hB,hz,q⟩:=h
 cases rx
 cases ry
 obtain ⟨z,its,n,r,hl,e⟩:=I.lstM hH
 obtain ⟨z2,its2,n2,r2,hl2,e2⟩:=I.lstM hB
 refine PySem.P.add_list e e2 ?_ (by rw [size_toArray,size_toArray];omega)
 have ea:its.toArray++its2.toArray=(its++its2).toArray:=by simp
 rw [ea]
 exact ⟨.ref _,_,I.lnew (t':=s.toks) (r.append r2) (by rw [length_append];omega),rfl,q _ I.fresh⟩
def zKy:R2:=fun x y H Q=>∃ l k xs,x = .ref l/\y = .int k/\H l=some (.lst xs) /\ -(2 ^ 63)<=k/\k < 2 ^ 63/\xs.length*k.toNat<=sizeLine /\
 ∀ p,H p=none->Q (.ref p) (upd H p (.lst (List.replicate k.toNat xs).flatten))
theorem zHQ {α:Type} (xs:List α) (k:Nat):(List.replicate k xs).flatten.length=k*xs.length:=by
 induction k with
 | zero=>simp
 | succ k ih=>rw [replicate_succ,flatten_cons,length_append,ih,Nat.succ_mul,Nat.add_comm]
theorem J8:OpR X (binaryOp .Mult) zKy:=by
 intro pins s σ H x y v u Q I rx ry h
 obtain ⟨l,k,xs,rfl,rfl,hH,h1,h2,hz,q⟩:=h
 cases rx
 obtain ⟨t,rfl⟩:=ry
 obtain ⟨z,its,n,r,hl,e⟩:=I.lstM hH
 have hlen:its.toArray.size*k.toNat<=sizeLine:=by rw [size_toArray,<- hl];exact hz
 have hcap : ¬ its.toArray.size*k.toNat > (2 ^ 63 - 1) / 8:=by
  have:(sizeLine:Nat)<=(2 ^ 63 - 1) / 8:=by decide
  omega
 have hfit : ¬ (!Builtin.List.listFitsIndex k)=true:=by
  rw [fitsIndex_both h1 h2]
  exact Bool.false_ne_true
 have hlong : ¬ Builtin.List.listTooLong (its.toArray.size*k.toNat)=true:=by
  rw [Ww hlen]
  exact Bool.false_ne_true
 have hnew:List.foldl (fun x1 x2=>x1++x2) #[] (List.replicate (if its.toArray.isEmpty=true then 0 else k.toNat) its.toArray)=(List.replicate k.toNat its).flatten.toArray:=by
  have f0 : ∀ m:Nat,List.foldl (fun x1 x2=>x1++x2) #[] (List.replicate m its.toArray)=(List.replicate m its).flatten.toArray:=fun m=>by
   have:=Kh its m []
   rw [List.nil_append] at this
   exact this
  rw [f0]
  cases its with
  | nil=>simp
  | cons a r'=>rw [if_neg (by simp)]
 refine wpAny_binaryOp_repeat_ref (T:="list") (U:="int") (by decide) ⟨_,e,rfl⟩ (fun s'=>typeIs_int s' k t) noFill_list_mul F.fills_int_mul F.slot_int_rmul repeat_list F.slot_int_index.lookup
  (call_meets F.slot_int_rmul (typeIs_int s k t) F.entry_int_rmul (F.args_int_rmul_2 _ _) (int___rmul___int_list k t l its.toArray n)
   ⟨e,rfl,⟨_,e,rfl⟩,call_meets F.slot_list_mul ⟨_,e,rfl⟩ F.entry_list_mul (F.args_list_mul_2 _ _) (AutoListH.list___mul___list_int_3 l its.toArray n k t hfit hcap hlong) ⟨e,?_⟩⟩)
 rw [hnew]
 exact ⟨.ref _,_,I.lnew (t':=s.toks) (r.rep k.toNat) (by rw [zHQ,Nat.mul_comm];exact hz),rfl,q _ I.fresh⟩
end
section
variable {prog : Program} {w : World} {A : Around} {E : Value -> Shared -> Prop} {s : Shared}
set_option maxRecDepth 100000 in
end
end L2
namespace Att
open PySem PySem.W PySem.Calls PyProof.Rows
theorem J0 {P:Params} {h:Heap} : ∀ (ns:List Int) (vs:List Value),WellAll P h vs (ns.map WData.int)->IntsAre vs ns:=by
 intro ns
 induction ns with
 | nil =>
  intro vs w
  rw [List.map_nil] at w
  cases w
  exact .nil
 | cons n ns ih =>
  intro vs w
  rw [List.map_cons] at w
  cases w with
  | cons a b =>
   cases a
   exact .cons _ _ (ih _ b)
theorem zCe {l:OpenLaw} {n:Nat} (hn:l.most=some n) {P:Params} {h:Heap} {args:List WData} {vals:List Value}
  (hpre:l.row.toRowW.claim.pre args=true) (hwl:WellAll P h vals args) :
  ∃ a vs ns,vals=[Value.ref a]/\args=[WData.list (ns.map WData.int)]/\h.get? a=some { cls:=.type "list", data:=.seq vs.toArray }/\IntsAre vs ns/\ns.length<=n:=by
 have hsh:WShape.hasAll [] args [.list .int]=true:=(pre_splitW hpre).1
 have hc:l.pre.holds [] { args:=args }=true:=(pre_splitW hpre).2
 obtain ⟨d,r,rfl,h1,h2⟩:=hasAllW_cons hsh
 obtain rfl:=hasAllW_nil h2
 obtain ⟨xs,rfl,h3⟩:=hasW_list h1
 obtain ⟨ns,rfl⟩:=items_int h3
 have hlen:ns.length<=n:=by
  unfold OpenLaw.pre at hc
  have h4:(WTm.not (.lt (.lit (.int (n:Int))) (.len (.arg 0)))).holds [] { args:=[.list (ns.map .int)] }=true:=by
   have h4:=(holds_andW hc).1
   rw [hn] at h4
   exact h4
  have h5:=condW_of h4 (w_not (w_lt w_lit (w_len_list (w_arg rfl))))
  rw [List.length_map] at h5
  refine Nat.le_of_not_lt fun q=>?_
  have q':(n:Int) < ((ns.length:Nat):Int):=by omega
  first
   | (rw [decide_eq_true q'] at h5;exact absurd h5 (by decide))
   | (simp at h5;omega)
 cases hwl with
 | cons w1 w2 =>
  cases w2
  cases w1 with
  | list ho hall=>exact ⟨_,_,ns,rfl,rfl,ho,J0 ns _ hall,hlen⟩
theorem zCu (l:OpenLaw) (args:List WData):l.row.toRowW.claim.post args (.bool true) args=true:=
 postW_of (r:=l.row.toRowW) (X:=(true == true))
  (show WShape.has [] (.bool true) .bool=true by first | rfl | decide | simp [WShape.has,WShape.arms,WShape.armsAll])
  (show (WTm.eq .res (.lit (.bool true))).value [] { args:=args,res:=some (.bool true),after:=args }=some (.bool (true == true)) from w_eq_bool (w_res rfl) w_lit) rfl
theorem attach_call {l:OpenLaw} {n:Nat} {q:Program} {loose:List Str} {XP:(Str->Option Value)->Heap->Prop} {YP:World->Heap->Prop} {d:DefRec}
  (hn:l.most=some n) (hdf:d.params.defaults=[])
  (call : ∀ (w:World) (s₀ s₁:Shared) (mg mb:Str->Option Value) (fa:Addr) (o:Obj) (pm cd doc:Value) (a:Addr) (vs:List Value) (ns:List Int),
   Ground q loose [] XP w s₀ mg mb s₁.heap->YP w s₁.heap ->
   s₁.heap.get? fa=some o->o.data = .func (docDef d.name d.params d.body d.scope pm cd doc)->s₁.heap.CodeRec cd d.name->mg d.name=some (.ref fa) ->
   s₁.heap.get? a=some { cls:=.type "list", data:=.seq vs.toArray }->IntsAre vs ns->ns.length<=n->s₁.gens = #[] ->
   codeAny (model l.prog w) callerA (.call (.ref fa) ⟨[.ref a],[]⟩) (fun r s'=>r = .ok (.ret (.bool true))/\OldK s₁.heap s'.heap/\s'.os=s₁.os/\AllBare s'.gens) s₁) :
  WalkO q loose XP YP l.row.toRowW d [] (fun f vs=>PySem.call f vs):=by
 intro w s₀ s₁ mg mb G Y fa o pm cd doc dV kV ho hd hcd hD hmg hg args vals as hpre hlay hrd hwl hlo
 obtain rfl:dV = .none:=Dflts.none hD hdf
 obtain rfl:kV = .none:=Dflts.noKw hD
 obtain ⟨a,vs,ns,rfl,rfl,hobj,hints,hlen⟩:=zCe hn hpre hwl
 refine enter_call (codeAny_mono (call w s₀ s₁ mg mb fa o pm cd doc a vs ns G Y ho (fd_plain hd) hcd hmg hobj hints hlen hg) fun r s' hq=>?_)
 obtain ⟨rfl,h2,h3,h4⟩:=hq
 exact ⟨.inl ⟨.bool true,.bool true,[],rfl,fun _=>rfl,.bool true,zCu l _,fun _=>⟨List.Pairwise.nil,fun _ hm=>(nomatch hm)⟩⟩,h2,h3,h4⟩
end Att
namespace L2
open PySem PySem.Spec PyProof.Rows
open List (append_assoc drop_of_length_le drop_zero eq_nil_of_length_eq_zero find?_cons find?_toArray foldl_cons getD_eq_getElem?_getD getElem?_eq_getElem getElem?_map getElem_mem length_append length_cons length_drop length_map length_replicate length_reverse length_singleton length_take lookup_cons map_cons mem_append_left mem_append_right mem_cons reverse_reverse take_append_of_le_length take_length take_of_length_le)
open Nat (eq_zero_or_pos le_trans lt_irrefl lt_of_lt_of_le lt_or_ge mod_eq_of_lt ne_of_lt)
open Int (max_eq_right)
theorem VX : ∀ {vs:List Value} {ns:List Int},IntsAre vs ns->qR (ns.map V.int) vs
 | _,_,.nil=>.nil
 | _,_,.cons n t h=>.cons ⟨t,rfl⟩ (VX h)
def zKj (H:Hp):Prop:=∀ b,H b=none \/ ∃ o xs,H b=some (.frz o (.lst xs))
variable {P:Program} {w:World} {K:W.Frag} {mg:Str->Option Value} {k:Nat} {a:Addr} {fd:FuncData} {x:Str} {sp:Sp}
theorem zEI {mb:Str->Option Value} {CX:CXT} {fa:Addr} {s₁:Shared} {vs:List Value} {ns:List Int}
  (KX:K.In s₁.heap) (hns:s₁.heap.Ns mainGlobals mg) (hb:s₁.heap.Ns builtinsNs mb) (hbb : ∀ x:Str,x ≠ "__name__" -> mb x=bootBuiltins x) (hlim:s₁.heap.NoLimit) (hg:s₁.gens = #[])
  (ha:s₁.heap.get? a=some { cls:=.type "list", data:=.seq vs.toArray }) (hi:IntsAre vs ns) (hl:ns.length<=sizeLine) (hr:xn k callerA)
  (F : ∀ base:Heap,K.In base->base.Ns mainGlobals mg->x5 P w K mg base CX k fa fd [x] sp) (hbind : ∀ (s:Shared) (u:Value),BindsTo s fd ⟨[u],[]⟩ [(x,u)])
  (hsp : ∀ H:Hp,zKj H->SqL K H a (ns.map V.int)->sp [.ref a] H (fun v _=>v = .bl true) fun _ _ _=>False)
  (hCX : ∀ H e s',CX [] H s₁ (fun _ _ _=>False) e s'->False) :
  codeAny (model P w) callerA (.call (.ref fa) ⟨[.ref a],[]⟩) (fun r s'=>r = .ok (.ret (.bool true))/\OldK s₁.heap s'.heap/\s'.os=s₁.os/\AllBare s'.gens) s₁:=by
 have rv:=VX hi
 have lenV:=hi.length
 have core : ∀ H:Hp,zKj H->SqL K H a (ns.map V.int)->HOk P w H s₁.heap->(∀ b,H b≠none->b=a)->(H a≠none->K.lookup a=none) ->
   codeAny (model P w) callerA (.call (.ref fa) ⟨[.ref a],[]⟩) (fun r s'=>r = .ok (.ret (.bool true))/\OldK s₁.heap s'.heap/\s'.os=s₁.os/\AllBare s'.gens) s₁:=by
  intro H hO hS hok hA hK
  have base_of : ∀ {b:Addr} {o:Obj},s₁.heap.get? b=some o->H b=none->(zD4 s₁.heap H).get? b=some o:=fun e n=>zEW e n
  have noA : ∀ {b:Addr} {o:Obj} {es:Array DictEntry} {ep:Nat},s₁.heap.get? b=some o->o.data = .dict es ep->H b=none:=fun {b o es ep} e d=>by
   cases q:H b with
   | none=>rfl
   | some u =>
    have e':b=a:=hA b (by rw [q];simp)
    subst e'
    rw [ha] at e;cases e
    have d':Data.seq vs.toArray _=Data.dict es ep:=d
    cases d'
  have nsK : ∀ {b:Addr} {m:Str->Option Value},s₁.heap.Ns b m->(zD4 s₁.heap H).Ns b m:=fun {b m} ⟨o,es,ep,e,d,r⟩=>⟨o,es,ep,base_of e (noA e d),d,r⟩
  have hKb:K.In (zD4 s₁.heap H):=fun b o e=>base_of (KX b o e) (by
   cases q:H b with
   | none=>rfl
   | some u =>
    have e':b=a:=hA b (by rw [q];simp)
    subst e'
    rw [hK (by rw [q];simp)] at e;cases e)
  have hM:Mod K mg (zD4 s₁.heap H):=⟨hKb,nsK hns,⟨mb,nsK hb,hbb⟩,let ⟨mc,h1,h2⟩:=hlim;⟨mc,nsK h1,h2⟩⟩
  have e0:Kz P w K mg (zD4 s₁.heap H) callerA [] s₁ H:=⟨rfl,hM,fun b o e=>zFf e,Nat.le_of_eq (zDL _ _),trivial,fun b hb=>absurd (show b ∈ ([]:List Addr) from hb) (by simp),hok,.of_eq hg⟩
  refine codeAny_mono ((F _ hKb (nsK hns)).run callerA [] s₁ H ⟨[.ref a],[]⟩ [.ref a] [.ref a] _ _ hr e0 (hbind s₁ (.ref a)) (.cons rfl .nil) (hsp H hO hS)) fun r s' h=>?_
  cases r with
  | error e=>exact (hCX H e s' h).elim
  | ok fl =>
   cases fl with
   | next=>exact False.elim h
   | brk=>exact False.elim h
   | cont=>exact False.elim h
   | ret u =>
    obtain ⟨v,H',os,bare,un,hok',r',q⟩:=h
    have q':v = .bl true:=q
    subst q'
    obtain rfl:u=Value.bool true:=r'
    refine ⟨rfl,OldK.of_keep fun b o e=>?_,os,bare⟩
    cases q:H b with
    | none=>exact un.keep b o e q (by intro z;exact absurd (show b ∈ ([]:List Addr) from z) (by simp)) (by simp)
    | some u =>
     rcases hO b with z | ⟨ob,xs,z⟩
     ·rw [q] at z;cases z
     ·have z2:=un.frzs b ob _ z
      obtain ⟨e1,_⟩:=hok b _ z
      obtain ⟨e2,_⟩:=hok' b _ z2
      rw [e] at e1;cases e1
      exact e2
 cases hk:K.lookup a with
 | some o =>
  have e:=KX a o hk
  rw [ha] at e
  cases e
  refine core (fun _=>none) (fun _=>.inl rfl) (.inr ⟨_,vs.toArray,_,hk,rfl,rfl,rfl,by rw [List.size_toArray,lenV];exact hl,by simpa using rv⟩) (fun b u z=>by have z':(none:Option HO)=some u:=z;cases z') (fun b z=>absurd rfl z) fun z=>absurd rfl z
 | none =>
  refine core (fun b=>if b=a then some (.frz { cls:=.type "list", data:=.seq vs.toArray } (.lst (ns.map V.int))) else none) (fun b=>?_) (.inl (.inr ⟨{ cls:=.type "list", data:=.seq vs.toArray },if_pos rfl⟩)) (fun b u z=>?_) (fun b z=>?_) fun _=>hk
  ·by_cases hb:b=a
   ·exact .inr ⟨_,_,if_pos hb⟩
   ·exact .inl (if_neg hb)
  ·by_cases hb:b=a
   ·have z':=(if_pos hb).symm.trans z
    cases z'
    subst hb
    exact ⟨ha,by rw [length_map];exact hl,vs,_,rv,ha⟩
   ·have z':=(if_neg hb).symm.trans z
    cases z'
  ·by_cases hb:b=a
   ·exact hb
   ·exact absurd (if_neg hb) z
variable {n:Nat}
theorem walk_of {l:W.OpenLaw} {q:Program} {loose:List Str} {XP:(Str->Option Value)->Heap->Prop} {YP:World->Heap->Prop} {d:DefRec} {K:Params->W.Frag} {CX:World->CXT} {sp:World->Sp}
  (hn:l.most=some n) (hn2:n<=sizeLine) (hdf:d.params.defaults=[]) (hr:xn k callerA)
  (hY : ∀ (w:World) (h:Heap),YP w h->(K w.params).In h)
  (F : ∀ (w:World) (mg:Str->Option Value) (fa:Addr) (h:Heap),(K w.params).In h->h.Ns mainGlobals mg->mg d.name=some (.ref fa) ->
   ∃ fd:FuncData,(∀ (s:Shared) (u:Value),BindsTo s fd ⟨[u],[]⟩ [(x,u)]) /\
    ∀ base:Heap,(K w.params).In base->base.Ns mainGlobals mg->x5 l.prog w (K w.params) mg base (CX w) k fa fd [x] (sp w))
  (hsp : ∀ (w:World) (H:Hp) (a:Addr) (ns:List Int),ns.length<=n->zKj H->SqL (K w.params) H a (ns.map V.int)->sp w [.ref a] H (fun v _=>v = .bl true) fun _ _ _=>False)
  (hCX : ∀ (w:World) (H:Hp) (s:Shared) (e:Value) (s':Shared),CX w [] H s (fun _ _ _=>False) e s'->False) :
  W.WalkO q loose XP YP l.row.toRowW d [] (fun f vs=>PySem.call f vs):=by
 refine Att.attach_call hn hdf fun w s₀ s₁ mg mb fa o pm cd doc a vs ns G Y ho hd hcd hmg hobj hints hlen hg=>?_
 have KX:=hY w _ Y
 obtain ⟨fd,hb,hF⟩:=F w mg fa _ KX G.T.g hmg
 exact zEI KX G.T.g G.T.b G.T.builtins G.T.nolimit hg hobj hints (le_trans hlen hn2) hr hF hb (fun H hO hS=>hsp w H a ns hlen hO hS) fun H e s'=>hCX w H s₁ e s'
def qk (s:Stmt) (j:Nat):Stmt:=match s with
 | .ClassDef _ _ _ body _ _ _ _ _ _ _=>body.getD j (.Pass ⟨0,0,0,0⟩)
 | _=>.Pass ⟨0,0,0,0⟩
def qL (s:Stmt):Arguments:=match s with
 | .FunctionDef _ a _ _ _ _ _ _ _ _=>a
 | _=>{ posonlyargs:=[],args:=[],vararg:=none,kwonlyargs:=[],kw_defaults:=[],kwarg:=none,defaults:=[] }
def z7 (s:Stmt):List Stmt:=match s with
 | .FunctionDef _ _ b _ _ _ _ _ _ _=>b
 | _=>[]
def zH (s:Stmt):Scope:=match s with
 | .FunctionDef _ _ _ _ _ _ sc _ _ _=>sc
 | _=>{ kind:=.function,names:=[],isGenerator:=false,isCoroutine:=false }
abbrev CX0:CXT:=fun _ _ _ _ _ _=>False
abbrev E0:XK:=fun _ _ _=>False
variable {X:Cx}
theorem qu:x9 CX0 X E0:=fun _ _ _ _ _ _ _ h=>h.elim
structure Fun (K:W.Frag) (x qual:Str) (st:Stmt) (f:Addr) (fd:FuncData):Prop where
 ex : ∃ (oc:Value) (od:Option Addr) (kV doc pm:Value) (an:Option Addr) (cdv ct:Value) (osl:Array (Option Value)),
  fd=W.fnOf x qual (qL st) (z7 st) (zH st) .none kV doc pm an cdv ct/\K.lookup f=some ⟨oc,od,.func fd,osl⟩/\W.codeIn K cdv qual=true
 kp:W.keepIn K (.ref f)=true
section
variable {P : Program} {w : World} {K : W.Frag} {mg : Str -> Option Value} {base : Heap}
variable {qual:Str} {st:Stmt} {f:Addr}
theorem Fun.ok {N ps:List Str} (F:Fun K x qual st f fd) (S:zO N ps (zH st)) (len : ∀ vs H Q E,sp vs H Q E->vs.length=ps.length)
  (hbody : ∀ (cdv:Value) (A:Around) (outer:List Env) (s:Shared) (H:Hp) (vs:List V) (Q:VK) (E:XK),xn k (A.deeper (envOfC qual (zH st) s.heap.objs.size f cdv))->sp vs H Q E ->
   ∃ t,PSs (Zy CX0 P w K mg base N qual (zH st) f cdv A outer s H E).nox (z7 st) t/\t { nx:=fun _ H'=>Q .non H',rt:=Q } (start N vs) H):x5 P w K mg base CX0 (k+1) f fd ps sp:=by
 obtain ⟨oc,od,kV,doc,pm,an,cdv,ct,osl,rfl,lk,hcd⟩:=F.ex
 refine zBG lk hcd S len fun A outer s H vs Q E hr hsp=>?_
 obtain ⟨t,h,q⟩:=hbody cdv A outer s H vs Q E hr hsp
 exact ⟨t,h.nox,q⟩
theorem Fun.binds {ps:List Str} (F:Fun K x qual st f fd)
  (h : ∀ (kV doc pm:Value) (an:Option Addr) (cdv ct:Value) (us:List Value),us.length=ps.length->bindArgs (W.fnOf x qual (qL st) (z7 st) (zH st) .none kV doc pm an cdv ct) ⟨us,[]⟩=pure (ps.zip us)):x8 K fd ps []:=by
 obtain ⟨oc,od,kV,doc,pm,an,cdv,ct,osl,rfl,lk,hcd⟩:=F.ex
 exact .all (h kV doc pm an cdv ct)
theorem zC4 {oc:Value} {od an:Option Addr} {osl:Array (Option Value)} {kV doc pm cdv ct:Value} (l:K.lookup f=some ⟨oc,od,.func (W.fnOf x qual (qL st) (z7 st) (zH st) .none kV doc pm an cdv ct),osl⟩)
  (c:W.codeIn K cdv qual=true) (k:W.keepIn K (.ref f)=true):Fun K x qual st f (W.fnOf x qual (qL st) (z7 st) (zH st) .none kV doc pm an cdv ct):=⟨⟨oc,od,kV,doc,pm,an,cdv,ct,osl,rfl,l,c⟩,k⟩
end
theorem qK (h:n<=1000):n < sizeLine:=Nat.lt_of_le_of_lt h (by decide)
section
variable {X : Cx}
theorem pv (i:Nat) {pos:Pos} (hN:X.N[i]? = some x:=by rfl) (hv:Vis X.env.scope x:=by first | exact Or.inl rfl | exact Or.inr (Or.inl rfl) | exact Or.inr (Or.inr rfl)) (hd:(x == ("__debug__" : Str))=false:=by decide)
  (hcd:(x == ("__classdict__" : Str))=false:=by decide):PE X (.Name x pos) (zIu i):=zH7 hN hv hd hcd
end
variable {A B:Prop}
theorem zLl (h:B):if false=true then A else B:=by
 rw [if_neg Bool.false_ne_true]
 exact h
theorem zLa (h:A):if true=true then A else B:=by
 rw [if_pos rfl]
 exact h
def zT (H H':Hp):Prop:=∀ b o,H b=some o->H' b=some o
theorem zT.refl (H:Hp):zT H H:=fun _ _ h=>h
variable {H:Hp}
theorem zT.trans {H1 H2:Hp} (a:zT H H1) (b:zT H1 H2):zT H H2:=fun c o h=>b c o (a c o h)
variable {H':Hp} {l:Addr}
theorem zT.free (e:zT H H') (h:H' l=Option.none):H l=Option.none:=by
 cases q:H l with
 | none=>rfl
 | some o =>
  rw [e l o q] at h
  cases h
variable {xs:List V}
theorem zT.seq (e:zT H H') (h:SqL K H a xs):SqL K H' a xs:=by
 rcases h with (h | ⟨o,h⟩) | h
 ·exact .inl (.inl (e _ _ h))
 ·exact .inl (.inr ⟨o,e _ _ h⟩)
 ·exact .inr h
set_option maxHeartbeats 4000000
abbrev GL:Int:=100000000000000000000000000000000000000000000000000000000000000000000000000000000000000000000000000000000000000000000000000000000000000000000000000000000000000000000000000000000000000000000000000000000
theorem zCP {k:Int} (h1 : -GL < k) (h2:k < GL):Builtin.Int.intBits k<=1000:=by
 unfold Builtin.Int.intBits
 split
 ·exact Nat.zero_le _
 ·have hn:k.natAbs < 100000000000000000000000000000000000000000000000000000000000000000000000000000000000000000000000000000000000000000000000000000000000000000000000000000000000000000000000000000000000000000000000000000000:=by
   unfold GL at h1 h2;omega
  have hp:(100000000000000000000000000000000000000000000000000000000000000000000000000000000000000000000000000000000000000000000000000000000000000000000000000000000000000000000000000000000000000000000000000000000:Nat)<=2 ^ 999:=by decide +kernel
  have:k.natAbs.log2 < 999:=by
   rcases eq_zero_or_pos k.natAbs with h0 | hp'
   ·rw [h0];decide
   ·exact (Nat.log2_lt (Nat.ne_of_gt hp')).mpr (lt_of_lt_of_le hn hp)
  omega
def zBd (i j:Int):Prop:=(-GL < i/\i < GL)/\(-GL < j/\j < GL)
variable {i j:Int}
theorem zBd.ok (h:zBd i j):IntMulOk i j:=PySem.IntMulOk.of_le (zCP h.1.1 h.1.2) (zCP h.2.1 h.2.2) (by decide)
def zIg (i j:Int):Prop:=zJE i j\/zBd i j
def zH9 (i j:Int):Prop:=0 < j/\j < GL
def zKo (i j:Int):Prop:=j≠0 /\ -GL < j/\j < GL
theorem zLk (h1 : -GL < j) (h2:j < GL):Builtin.divisionGoesByPylong i j=false:=by
 refine PyProof.noPylong_of_log2 ?_
 have hn:j.natAbs < 100000000000000000000000000000000000000000000000000000000000000000000000000000000000000000000000000000000000000000000000000000000000000000000000000000000000000000000000000000000000000000000000000000000:=by
  unfold GL at h1 h2;omega
 have hp:(100000000000000000000000000000000000000000000000000000000000000000000000000000000000000000000000000000000000000000000000000000000000000000000000000000000000000000000000000000000000000000000000000000000:Nat)<=2 ^ 999:=by decide +kernel
 have:j.natAbs.log2 < 999:=by
  rcases eq_zero_or_pos j.natAbs with h0 | hp'
  ·rw [h0];decide
  ·exact (Nat.log2_lt (Nat.ne_of_gt hp')).mpr (lt_of_lt_of_le hn hp)
 omega
section
variable {X : Cx} {a b : Expr} {ta tb : TE} {pos : Pos}
theorem qi:OpR X (binaryOp .Mult) (rI zIg fun i j=>.int (i*j)):=opI fun _ _ _ _ _ _ _ hc q=>mul_int q (hc.elim zJE.ok zBd.ok)
theorem jp:OpR X (binaryOp .FloorDiv) (rI zH9 fun i j=>.int (i / j)):=opI fun i j _ _ _ _ _ hc q=>by
 have h1:(0:Int) < j:=hc.1
 have h2:=hc.2
 exact floordiv_int (by omega) (by rw [Int.fdiv_eq_ediv_of_nonneg i (by omega)];exact q) (.inl (zLk (by unfold GL;omega) h2))
theorem WI {k:Int} {n1 n2:Nat} {p1 p2:Pos} (hc:zJj i j) (e:i ^ j.toNat=k):PE X (.BinOp (.Constant (.int i) n1 p1) .Pow (.Constant (.int j) n2 p2) pos) (tC (.int k)):=by
 intro pins s σ H Q I h
 refine zP zIN zD zD pins s σ H Q I ⟨i,j,rfl,rfl,hc,?_⟩
 show Q (.int (i ^ j.toNat)) H
 rw [e];exact h
def zHh:V->Value
 | .ty T=>.type T
 | .ref C=>.ref C
 | _=>.none
def zDR (K:W.Frag):List V->Hp->VK->Prop:=fun xs H Q=>∃ x c t b,xs=[x,c]/\K0 K H x t/\(∃ T,c = .ty T \/ ∃ C,c = .ref C)/\W.kitOne K t (zHh c)=some b/\Q (.bl b) H
theorem jS:yQ X (.builtin "isinstance") (zDR X.K):=by
 intro pins s σ H xs us Q I r h
 obtain ⟨x,c,t,b,rfl,ty,hc,e,q⟩:=h
 obtain ⟨v,w,rfl,rx,rw'⟩:=zB4 r
 have:w=zHh c:=by
  obtain ⟨T,rfl | ⟨C,rfl⟩⟩:=hc
  ·exact rw'
  ·exact rw'
 subst this
 exact zCU I rx ty e fun tk=>⟨.bl b,H,I.tok _,rfl,q⟩
theorem qR.getD : ∀ {xs:List V} {us:List Value} (j:Nat) (h:j < us.length),qR xs us->xY (xs.getD j .non) us[j]
 | _,_,j,h,.nil=>absurd h (Nat.not_lt_zero _)
 | _,_,0,_,.cons r _=>r
 | _,_,j+1,h,.cons _ t=>qR.getD j (Nat.lt_of_succ_lt_succ h) t
end
def Has (P:Program) (w:World) (K:W.Frag) (mg:Str->Option Value) (base:Heap) (x:Str) (k:Nat) (ps:List Str) (sp:Sp):Prop:=
 ∃ (f:Addr) (fd:FuncData),x5 P w K mg base CX0 k f fd ps sp/\mg x=some (.ref f)/\W.keepIn K (.ref f)=true/\x8 K fd ps []
variable {ps:List Str} {p pos:Pos} {e:Expr} {es:List Expr} {t:TA}
theorem zF (F:Has X.prog X.w X.K X.mg X.base x k ps sp) (hr:xn n X.A) (hg:Gl X x) (ha:PA X (e::es) t) (hk:k<=n:=by decide)
  (hdb:(x == ("__debug__" : Str))=false:=by decide) (he:starEach (e::es) X.env=(false,eval e X.env)::starEach es X.env:=by rfl) (hpl:(backTo pos (starEach es X.env)).any (·.1)=false:=by rfl) :
  PE X (.Call (.Name x p) (e::es) [] pos) (K6 sp [] E0 t):=by
 obtain ⟨f,fd,G,hm,kp,hb⟩:=F
 exact zHO G (hr.mono hk) hg hm kp hb .nil qu ha hdb he hpl
theorem zK {id:String} {r:List V->Hp->VK->Prop} (hc:yQ X (.builtin id) r) (hm:X.mg x=none) (hg:Gl X x) (hv:bootBuiltins x=some (.builtin id)) (ha:PA X (e::es) t) (hn:x ≠ "__name__" := by decide) (hdb:(x == ("__debug__" : Str))=false:=by decide)
  (he:starEach (e::es) X.env=(false,eval e X.env)::starEach es X.env:=by rfl) (hpl:(backTo pos (starEach es X.env)).any (·.1)=false:=by rfl):PE X (.Call (.Name x p) (e::es) [] pos) (tCB r t):=
 zEU hc hg hm hv ha hn hdb he hpl
theorem jP {p:Addr} (h:H p=none) (o:HO):zT H (upd H p o):=fun b u q=>by rw [qB (qT q h)];exact q
variable {o:HO}
theorem zT.at (g:zT H H') {b:Addr} (h:H b=some o):H' b=some o:=g b o h
theorem small (h:n<=1000):n<=sizeLine:=Nat.le_of_lt (qK h)
section
variable {σ : St} {H : Hp} {Q : VK} {D : QQ} {K : W.Frag}
variable {v:V}
theorem zKJ {i:Nat} (e:σ[i]? = some (some v)) (h:Q v H):zIu i σ H Q:=⟨v,e,h⟩
theorem r_c (h:Q v H):tC v σ H Q:=h
variable {ta tb:TE}
theorem zLg {r:R2} (h:ta σ H fun x H1=>tb σ H1 fun y H2=>r x y H2 Q):tOp r ta tb σ H Q:=h
theorem zLO {r:V->Hp->VK->Prop} (h:ta σ H fun x H1=>r x H1 Q):tUn r ta σ H Q:=h
theorem r_I {C:Int->Int->Prop} {g:Int->Int->V} (hc:C i j) (h:Q (g i j) H):rI C g (.int i) (.int j) H Q:=⟨i,j,rfl,rfl,hc,h⟩
theorem zLU {g:Int->Int->V} (h:Q (g i j) H):rI0 g (.int i) (.int j) H Q:=⟨i,j,rfl,rfl,h⟩
theorem r_U {g:Int->V} (h:Q (g i) H):rU g (.int i) H Q:=⟨i,rfl,h⟩
theorem zKn (h:Q (.bl (decide (i=j))) H):rEq (.int i) (.int j) H Q:=⟨rfl,by rw [show decide (V.int i=V.int j)=decide (i=j) by by_cases e:i=j <;> simp [e]];exact h⟩
theorem zKL (h:Q (.bl (!decide (i=j))) H):rNe (.int i) (.int j) H Q:=⟨rfl,by rw [show decide (V.int i=V.int j)=decide (i=j) by by_cases e:i=j <;> simp [e]];exact h⟩
variable {b:Bool}
theorem zBK {y:Str} (e:decide (x=y)=b) (h:Q (.bl b) H):rEq (.str x) (.str y) H Q:=⟨rfl,by rw [show decide (V.str x=V.str y)=decide (x=y) by by_cases e:x=y <;> simp [e],e];exact h⟩
variable {R:Bool->Hp->Prop}
theorem zJA {t:TE} (h:t σ H fun x H'=>∃ k,x = .bl k/\R k H'):zGP t σ H R:=h
theorem zLV {t:TE} (h:t σ H fun x H'=>∃ k,x = .bl k/\R k H'):tB t σ H R:=h
theorem zJb {R:Bool->Prop} (h:R b) : ∃ k,V.bl b = .bl k/\R k:=⟨b,rfl,h⟩
theorem zJ5 {t u:TT} (h:t σ H fun c H1=>if c=true then u σ H1 R else R false H1):zK3 t u σ H R:=h
theorem zLe {t u:TT} (h:t σ H fun c H1=>if c=true then R true H1 else u σ H1 R):tOr t u σ H R:=h
theorem zKF {t:TT} (h:t σ H fun c H1=>R (!c) H1):zK0 t σ H R:=h
theorem zIZ (h:ta σ H fun x H1=>∃ c,x = .bl c/\if c=true then tb σ H1 Q else Q (.bl false) H1):zJW ta tb σ H Q:=h
theorem zJ4 (h:ta σ H fun x H1=>∃ c,x = .bl c/\if c=true then Q (.bl true) H1 else tb σ H1 Q):zLG ta tb σ H Q:=h
theorem zIE (h:ta σ H fun x H1=>∃ c,x = .bl c/\Q (.bl (!c)) H1):zIJ ta σ H Q:=h
theorem zKI {t:TT} (h:t σ H fun c H1=>if c=true then ta σ H1 Q else tb σ H1 Q):tIf t ta tb σ H Q:=h
theorem zGx {r r':R2} {tc:TE} (h:ta σ H fun x H1=>tb σ H1 fun y H2=>r x y H2 fun z H3=>∃ k,z = .bl k/\(if k=true then tc σ H3 fun w' H4=>r' y w' H4 Q else Q (.bl false) H3)):zFR r r' ta tb tc σ H Q:=h
theorem zHb {t u:TS} (h:t { D with nx:=u D } σ H):zJv t u D σ H:=h
theorem zJC (h:D.nx σ H):zJO D σ H:=h
variable {te:TE}
theorem zHE {g:TG} (h:te σ H fun x H1=>g x σ H1 D.nx):zJw te g D σ H:=h
theorem zIO {i:Nat} {R:St->Hp->Prop} (h:R (σ.set i (some v)) H):zEJ i v σ H R:=h
theorem zKg (h:te σ H D.rt):zJy te D σ H:=h
theorem zJU (h:te σ H fun _ H1=>D.nx σ H1):zH1 te D σ H:=h
theorem zKQ {c:TT} {t u:TS} (h:c σ H fun b H1=>if b=true then t D σ H1 else u D σ H1):zK1 c t u D σ H:=h
theorem zHK {R:List V->Hp->Prop} (h:R [] H):zHB σ H R:=h
theorem zIb {tr:TA} {R:List V->Hp->Prop} (h:ta σ H fun x H1=>tr σ H1 fun xs H2=>R (x::xs) H2):zAg ta tr σ H R:=h
theorem zHs {dvs:List V} {E:XK} (h:t σ H fun vs H1=>sp (vs++dvs) H1 Q E):K6 sp dvs E t σ H Q:=h
theorem zLi {r:List V->Hp->VK->Prop} (h:t σ H fun vs H1=>r vs H1 Q):tCB r t σ H Q:=h
def zK7 (Q:VK) (xs:List V) (H:Hp):Prop:=xs.length<=sizeLine /\ ∀ p,H p=none->Q (.ref p) (upd H p (.tup xs))
def zJr (Q:VK) (xs:List V) (H:Hp):Prop:=xs.length<=sizeLine /\ ∀ p,H p=none->Q (.ref p) (upd H p (.lst xs))
theorem zKr (h:t σ H (zK7 Q)):zKX t σ H Q:=h
theorem zFh (h:t σ H (zJr Q)):zLM t σ H Q:=h
theorem zI3 (hz:xs.length<=sizeLine) (h : ∀ p H',zT H H'->H' p=some (.tup xs)->Q (.ref p) H'):zK7 Q xs H:=⟨hz,fun p hp=>h p _ (jP hp _) zR⟩
theorem zKc {p:Addr} (h:H p=some (.tup xs)) (e:atI xs i=some v) (q:Q v H):zJz K (.ref p) (.int i) H Q:=⟨p,xs,i,v,rfl,rfl,SqT.of h,e,q⟩
theorem zF7 {p:Addr} (h:SqL K H p xs) (e:atI xs i=some v) (q:Q v H):zD0 K (.ref p) (.int i) H Q:=⟨p,xs,i,v,rfl,rfl,h,e,q⟩
theorem kZ {x c:V} {t:Value} (ty:K0 K H x t) (hc : ∃ T,c = .ty T \/ ∃ C,c = .ref C) (e:W.kitOne K t (zHh c)=some b) (q:Q (.bl b) H):zDR K [x,c] H Q:=⟨x,c,t,b,rfl,ty,hc,e,q⟩
end
def zLH (_ j:Int):Prop:=0 < j
def CNn (_ j:Int):Prop:=0<=j
def CNz (_ j:Int):Prop:=j≠0
theorem qh:OpR X (binaryOp .Mod) (rI zLH fun i j=>.int (i % j)):=zI8
theorem VJ:OpR X (binaryOp .RShift) (rI CNn fun i j=>.int (i / 2 ^ j.toNat)):=zI2
section
variable {σ : St} {H : Hp} {Q : VK} {D : QQ} {K : W.Frag}
theorem zKS {i j:Nat} {ta:TA} (h:ta σ H fun vs H1=>∃ v w,vs=[v,w]/\D.nx ((σ.set i (some v)).set j (some w)) H1):zK5 i j ta D σ H:=h
theorem zKs {v w:V} {R:V->V->Prop} (h:R v w) : ∃ v' w',[v,w]=[v',w']/\R v' w':=⟨v,w,rfl,h⟩
variable {tb:TS}
theorem zKi {W:Nat->St->Hp->Prop} {m:Nat} (h:tb { D with nx:=fun σ' H'=>∃ m',m' < m/\W m' σ' H',ct:=fun σ' H'=>∃ m',m' < m/\W m' σ' H',bk:=D.nx } σ H) :
  ∃ N:St->Hp->Prop,(∀ σ' H',N σ' H' -> ∃ m',m' < m/\W m' σ' H')/\tb { D with nx:=N,ct:=N,bk:=D.nx } σ H:=⟨_,fun _ _ h=>h,h⟩
theorem XR {c:TT} (W:Nat->St->Hp->Prop) (h0 : ∃ m,W m σ H) (hs : ∀ m σ H,W m σ H->c σ H fun b H1=>if b=true then ∃ N:St->Hp->Prop,(∀ σ' H',N σ' H' -> ∃ m',m' < m/\W m' σ' H')/\tb { D with nx:=N,ct:=N,bk:=D.nx } σ H1 else D.nx σ H1):zEs c tb D σ H:=⟨W,h0,hs⟩
def zHl (K:PySem.W.Frag) (g:TG) (tb:TS) (D:QQ) (σ:St) (x:V) (H:Hp):Prop:=∃ a,x = .ref a/\(∃ xs,SqL K H a xs) /\ ∃ W:Nat->Nat->St->Hp->Prop,(∃ m,W 0 m σ H) /\ ∀ i m σ H,W i m σ H ->
 ((Itl K a).stop i H/\D.nx σ H)\/((Itl K a).go i H /\ ∃ N:St->Hp->Prop,(∀ σ' H',N σ' H' -> ∃ m',m' < m/\W (i+1) m' σ' H') /\ ∀ x H',(Itl K a).yld i H x H'->g x σ H' fun σ2 H2=>tb { D with nx:=N,ct:=N,bk:=D.nx } σ2 H2)
variable {g:TG}
theorem zI7 {tl:TE} (h:tl σ H (zHl K g tb D σ)):zGO (zGq K tl) g tb D σ H:=h
theorem zGd (hx:SqL K H a xs) (Pv:Nat->St->Hp->Prop) (h0:Pv 0 σ H) (hl : ∀ i σ H,i<=xs.length->Pv i σ H->SqL K H a xs)
  (hs : ∀ i x σ H,xs[i]? = some x->Pv i σ H->g x σ H fun σ2 H2=>tb { D with nx:=Pv (i+1),ct:=Pv (i+1),bk:=D.nx } σ2 H2) (hd : ∀ σ H,Pv xs.length σ H->D.nx σ H):zHl K g tb D σ (.ref a) H:=⟨a,rfl,⟨xs,hx⟩,zEZ Pv h0 hl hs hd⟩
def zHx (g:TG) (tb:TS) (D:QQ) (σ:St) (vs:List V) (H:Hp):Prop:=∃ j:Int,vs=[.int j] /\ -(2 ^ 62)<=j/\j < 2 ^ 62 /\ ∃ W:Nat->Nat->St->Hp->Prop,(∃ m,W 0 m σ H) /\ ∀ i m σ H,W i m σ H ->
 ((Itr 0 j.toNat).stop i H/\D.nx σ H)\/((Itr 0 j.toNat).go i H /\ ∃ N:St->Hp->Prop,(∀ σ' H',N σ' H' -> ∃ m',m' < m/\W (i+1) m' σ' H') /\ ∀ x H',(Itr 0 j.toNat).yld i H x H'->g x σ H' fun σ2 H2=>tb { D with nx:=N,ct:=N,bk:=D.nx } σ2 H2)
theorem zH8 {ta:TA} (h:ta σ H (zHx g tb D σ)):zGO (zF3 ta) g tb D σ H:=h
theorem Qm (h1 : -(2 ^ 62)<=j) (h2:j < 2 ^ 62) (Pv:Nat->St->Hp->Prop) (h0:Pv 0 σ H)
  (hs : ∀ i σ H,i < j.toNat->Pv i σ H->g (.int (0+i)) σ H fun σ2 H2=>tb { D with nx:=Pv (i+1),ct:=Pv (i+1),bk:=D.nx } σ2 H2) (hd : ∀ σ H,Pv j.toNat σ H->D.nx σ H):zHx g tb D σ [.int j] H:=⟨j,rfl,h1,h2,V1 Pv h0 hs hd⟩
variable {R:St->Hp->Prop}
theorem zIt {t:TGs} (h:H a=some (.tup xs)) (hn:xs.length=n) (k:t xs σ H R):zLJ K n t (.ref a) σ H R:=⟨a,xs,rfl,SqT.of h,hn,k⟩
theorem zGw {t:TG} {u:TGs} {v:V} {r:List V} (h:t v σ H fun σ' H'=>u r σ' H' R):zJd t u (v::r) σ H R:=⟨v,r,rfl,h⟩
theorem zIL (h:R σ H):zLA [] σ H R:=⟨rfl,h⟩
end
def zK8:List V->Hp->VK->Prop:=fun xs H Q=>∃ i,xs=[.int i]/\Q (.int (if i < 0 then -i else i)) H
def zJN:List V->Hp->VK->Prop:=fun xs H Q=>∃ i j,xs=[.int i,.int j]/\Q (.int (if j > i then j else i)) H
def zJX:List V->Hp->VK->Prop:=fun xs H Q=>∃ i j,xs=[.int i,.int j]/\Q (.int (if j < i then j else i)) H
def zDZ (K:W.Frag):List V->Hp->VK->Prop:=fun xs H Q=>∃ p ys,xs=[.ref p]/\(SqL K H p ys\/SqT K H p ys)/\Q (.int ys.length) H
section
variable {X : Cx} {H : Hp} {Q : VK} {K : W.Frag}
theorem ki:yQ X (.builtin "abs") zK8:=zD6
theorem xm (hc:X.calm=true):yQ X (.builtin "max") zJN:=zBh hc
theorem ZP (hc:X.calm=true):yQ X (.builtin "min") zJX:=zDA hc
theorem qj:yQ X (.builtin "len") (zDZ X.K):=Ku
theorem zIs (h : ∀ k:Int,(0<=i/\k=i)\/(i < 0/\k = -i)->Q (.int k) H):zK8 [.int i] H Q:=⟨i,rfl,h _ (by split <;> omega)⟩
theorem zFq (h : ∀ k:Int,(i < j/\k=j)\/(j<=i/\k=i)->Q (.int k) H):zJN [.int i,.int j] H Q:=⟨i,j,rfl,h _ (by split <;> omega)⟩
theorem zGA (h : ∀ k:Int,(j < i/\k=j)\/(i<=j/\k=i)->Q (.int k) H):zJX [.int i,.int j] H Q:=⟨i,j,rfl,h _ (by split <;> omega)⟩
theorem zHL {p:Addr} {a b:V} (h:H p=some (.tup [a,b])) (q:Q (.int 2) H):zDZ K [.ref p] H Q:=⟨p,[a,b],rfl,.inr (SqT.of h),q⟩
theorem zFA {p:Addr} {ys:List V} (h:SqL K H p ys) (q:Q (.int ys.length) H):zDZ K [.ref p] H Q:=⟨p,ys,rfl,.inl h,q⟩
end
theorem zFa:bootBuiltins "int" = some (.type "int"):=by decide +kernel
theorem WS:bootBuiltins "bool" = some (.type "bool"):=by decide +kernel
theorem zEM:bootBuiltins "tuple" = some (.type "tuple"):=by decide +kernel
theorem zAT:bootBuiltins "str" = some (.type "str"):=by decide +kernel
theorem J9:bootBuiltins "list" = some (.type "list"):=by decide +kernel
theorem zf:bootBuiltins "isinstance" = some (.builtin "isinstance"):=by decide +kernel
theorem KA:bootBuiltins "abs" = some (.builtin "abs"):=by decide +kernel
theorem YF:bootBuiltins "max" = some (.builtin "max"):=by decide +kernel
theorem zAE:bootBuiltins "min" = some (.builtin "min"):=by decide +kernel
theorem qD:bootBuiltins "len" = some (.builtin "len"):=by decide +kernel
def zK4 (T T':String):Option Bool:=if (Value.type T == Value.type T')=true then some true else if W.kitMeta T'=true then (fastBuiltinMro T).map (·.contains (Value.type T')) else none
variable {b:Bool}
theorem kC (K:W.Frag) (T T':String) (h:zK4 T T'=some b):W.kitOne K (.type T) (.type T')=some b:=h
theorem WA (K:W.Frag):W.kitOne K (.type "int") (.type "int")=some true:=kC K _ _ (by decide +kernel)
theorem Vd (K:W.Frag):W.kitOne K (.type "int") (.type "bool")=some false:=kC K _ _ (by decide +kernel)
theorem VH (K:W.Frag):W.kitOne K (.type "bool") (.type "bool")=some true:=kC K _ _ (by decide +kernel)
theorem Qw (K:W.Frag):W.kitOne K (.type "bool") (.type "int")=some true:=kC K _ _ (by decide +kernel)
theorem Js (K:W.Frag):W.kitOne K (.type "tuple") (.type "tuple")=some true:=kC K _ _ (by decide +kernel)
theorem Wi (K:W.Frag):W.kitOne K (.type "str") (.type "int")=some false:=kC K _ _ (by decide +kernel)
theorem We (K:W.Frag):W.kitOne K (.type "str") (.type "str")=some true:=kC K _ _ (by decide +kernel)
theorem Vv (K:W.Frag):W.kitOne K (.type "list") (.type "int")=some false:=kC K _ _ (by decide +kernel)
theorem Yo (K:W.Frag):W.kitOne K (.type "tuple") (.type "int")=some false:=kC K _ _ (by decide +kernel)
theorem JT (K:W.Frag):W.kitOne K (.type "NoneType") (.type "int")=some false:=kC K _ _ (by decide +kernel)
theorem KR (K:W.Frag):W.kitOne K (.type "dict") (.type "int")=some false:=kC K _ _ (by decide +kernel)
section
variable {H : Hp} {Q : VK} {K : W.Frag}
theorem zDb (q:Q (.bl true) H):zDR K [.int i,.ty "int"] H Q:=kZ (.int i) ⟨_,.inl rfl⟩ (WA K) q
theorem zDV (q:Q (.bl false) H):zDR K [.int i,.ty "bool"] H Q:=kZ (.int i) ⟨_,.inl rfl⟩ (Vd K) q
theorem zDl {i:Bool} (q:Q (.bl true) H):zDR K [.bl i,.ty "bool"] H Q:=kZ (.bl i) ⟨_,.inl rfl⟩ (VH K) q
theorem W2 {i:Bool} (q:Q (.bl true) H):zDR K [.bl i,.ty "int"] H Q:=kZ (.bl i) ⟨_,.inl rfl⟩ (Qw K) q
theorem zDi {p:Addr} (h:H p=some (.tup xs)) (q:Q (.bl true) H):zDR K [.ref p,.ty "tuple"] H Q:=kZ (.tup h) ⟨_,.inl rfl⟩ (Js K) q
end
variable {c:Prop}
theorem i_d [Decidable c] (h1:c->A) (h2 : ¬ c->B):if decide c=true then A else B:=by
 by_cases h:c
 ·rw [if_pos (decide_eq_true h)];exact h1 h
 ·rw [if_neg (by rw [decide_eq_false h];decide)];exact h2 h
theorem zKE [Decidable c] (h1:c->B) (h2 : ¬ c->A):if (!decide c)=true then A else B:=by
 by_cases h:c
 ·rw [decide_eq_true h];exact h1 h
 ·rw [decide_eq_false h];exact h2 h
theorem zLn [Decidable c] (h:c) (h1:A):if decide c=true then A else B:=i_d (fun _=>h1) (fun n=>absurd h n)
theorem zLR [Decidable c] (h : ¬ c) (h1:B):if decide c=true then A else B:=i_d (fun n=>absurd n h) (fun _=>h1)
theorem zKu [Decidable c] (h:c) (h1:B):if (!decide c)=true then A else B:=zKE (fun _=>h1) (fun n=>absurd h n)
theorem zKO [Decidable c] (h : ¬ c) (h1:A):if (!decide c)=true then A else B:=zKE (fun n=>absurd n h) (fun _=>h1)
theorem i_b (h1:b=true->A) (h2:b=false->B):if b=true then A else B:=by
 cases b with
 | true=>rw [if_pos rfl];exact h1 rfl
 | false=>rw [if_neg (by decide)];exact h2 rfl
theorem zLh (h:B):if (!true)=true then A else B:=h
theorem zLP (h:A):if (!false)=true then A else B:=h
def jz (X:Cx) (scope:Scope) (cl:List (Str × Addr)) (N':List Str) (C:Addr) (s₂:Shared) (H₂:Hp) (fp:List Addr):Cx where
 prog:=X.prog
 w:=X.w
 K:=X.K
 mg:=X.mg
 base:=X.base
 A:=X.A
 N:=N'
 s₀:=s₂
 H₀:=H₂
 env:=compEnvC scope cl C X.env
 outer:=X.stack
 stack:=X.stack
 ex:=fp
 calm:=X.calm
 fn:=fun _=>false
 pn:=[]
 xe:=fun _ _=>False
def zE0 (cells:List (Str × Addr)):List (Str × Addr)->Prop
 | []=>True
 | p::r=>cells.lookup p.1=some p.2/\zE0 cells r
theorem zE0.look {cells:List (Str × Addr)} : ∀ {cl:List (Str × Addr)} {x:Str} {c:Addr},zE0 cells cl->cl.lookup x=some c->cells.lookup x=some c
 | [],_,_,_,h=>by simp at h
 | (y,d)::r,x,c,⟨h1,h2⟩,h=>by
  rw [lookup_cons] at h
  cases e:x == y with
  | true =>
   rw [e] at h
   have e':x=y:=eq_of_beq e
   cases h
   rw [e'];exact h1
  | false =>
   rw [e] at h
   exact zE0.look h2 h
def zDQ (X:Cx) (scope:Scope):List Str->List Nat->Prop
 | [],[]=>True
 | y::r,j::js=>(X.N[j]? = some y/\scope.names.lookup y=some .free/\(X.env.kindOf y=some .cell\/X.env.kindOf y=some .free))/\zDQ X scope r js
 | _,_=>False
theorem zDQ.get {X:Cx} {scope:Scope} : ∀ {fr:List Str} {js:List Nat} {k:Nat} {y:Str},zDQ X scope fr js->fr[k]? = some y -> ∃ j,js[k]? = some j/\X.N[j]? = some y/\scope.names.lookup y=some .free/\(X.env.kindOf y=some .cell\/X.env.kindOf y=some .free)
 | [],_,_,_,_,h=>by simp at h
 | _::_,[],_,_,h,_=>h.elim
 | y::r,j::js,0,z,⟨h1,_⟩,h=>by simp at h;subst h;exact ⟨j,rfl,h1⟩
 | y::r,j::js,k+1,z,⟨_,h2⟩,h=>by
  obtain ⟨j',e,q⟩:=zDQ.get (k:=k) h2 (by simpa using h)
  exact ⟨j',by simpa using e,q⟩
theorem zDQ.len {X:Cx} {scope:Scope} : ∀ {fr:List Str} {js:List Nat},zDQ X scope fr js->fr.length=js.length
 | [],[],_=>rfl
 | [],_::_,h=>h.elim
 | _::_,[],h=>h.elim
 | _::r,_::js,h=>by rw [length_cons,length_cons,zDQ.len h.2]
theorem Qv {env : Env} : ∀ {names : List (Str × NameKind)} {x : Str}, (∀ y ∈ names, y.2 ≠ .cell) ->
    ((names.map fun (n, k) => if (k == NameKind.free && env.scope.kind == .function && env.kindOf n == some .cell) then (n, NameKind.cell) else (n, k)).lookup x = some .cell \/
     (names.map fun (n, k) => if (k == NameKind.free && env.scope.kind == .function && env.kindOf n == some .cell) then (n, NameKind.cell) else (n, k)).lookup x = some .free) -> names.lookup x = some .free
  | [], _, _, h => by simp at h
  | (n, k) :: r, x, hc, h => by
    have ih := @Qv env r x (fun y hy => hc y (List.mem_cons_of_mem _ hy))
    rw [map_cons] at h
    dsimp only at h
    by_cases hb : (k == NameKind.free && env.scope.kind == .function && env.kindOf n == some .cell) = true
    · rw [if_pos hb] at h
      rw [lookup_cons] at h
      rw [lookup_cons]
      cases e : x == n with
      | true =>
        have : k = .free := by simp at hb; exact hb.1.1
        rw [this]
      | false =>
        rw [e] at h
        exact ih h
    · rw [if_neg hb] at h
      rw [lookup_cons] at h
      rw [lookup_cons]
      cases e : x == n with
      | true =>
        rw [e] at h
        have hk : k ≠ .cell := hc (n, k) List.mem_cons_self
        rcases h with h | h
        · exact absurd (Option.some.inj h) hk
        · exact h
      | false =>
        rw [e] at h
        exact ih h
theorem kh {env : Env} (hk : env.scope.kind = .function) {x : Str} : ∀ {names : List (Str × NameKind)}, names.lookup x = some .free -> (env.kindOf x = some .cell \/ env.kindOf x = some .free) ->
    ((names.map fun (n, k) => if (k == NameKind.free && env.scope.kind == .function && env.kindOf n == some .cell) then (n, NameKind.cell) else (n, k)).lookup x = some .cell \/
     (names.map fun (n, k) => if (k == NameKind.free && env.scope.kind == .function && env.kindOf n == some .cell) then (n, NameKind.cell) else (n, k)).lookup x = some .free)
  | [], h, _ => by simp at h
  | (n, k) :: r, h, hx => by
    have ih := @kh env hk x r
    rw [lookup_cons] at h
    rw [map_cons]
    dsimp only
    cases e : x == n with
    | true =>
      rw [e] at h
      have ek : k = .free := Option.some.inj h
      have en : x = n := eq_of_beq e
      subst ek
      rcases hx with hx | hx
      · left
        have hb : ((NameKind.free == NameKind.free) && env.scope.kind == .function && env.kindOf n == some .cell) = true := by rw [<- en, hx, hk]; decide
        rw [if_pos hb, lookup_cons, e]
      · right
        have hb : ¬ ((NameKind.free == NameKind.free) && env.scope.kind == .function && env.kindOf n == some .cell) = true := by rw [<- en, hx, hk]; decide
        rw [if_neg hb, lookup_cons, e]
    | false =>
      rw [e] at h
      rcases ih h hx with q | q
      · left
        split <;> rw [lookup_cons, e] <;> exact q
      · right
        split <;> rw [lookup_cons, e] <;> exact q
section
variable {X : Cx} {pins : List (Addr × Obj)} {σ : St} {H : Hp} {s : Shared}
theorem HOk.track {h:Heap} (x:HOk P w H h) (hn:H a=none) (new:xO P w (upd H a o) h a o):HOk P w (upd H a o) h:=fun b u e=>by
 by_cases hb:b=a
 ·subst hb;rw [zR] at e;cases e;exact new
 ·rw [qB hb] at e
  exact (x b u e).stay (fun c v _ q=>q) (fun c q=>by rw [qB (qT q hn)];exact q) fun c xs q=>by rw [qB (qT q hn)];exact q
theorem Inv.track (I:Inv X pins σ H s) (f:zBV X pins H a) (new:xO X.prog X.w (upd H a o) s.heap a o):Inv X pins σ (upd H a o) s:=by
 obtain ⟨f0,f1,f2,f3,f4,f5⟩:=f
 have up : ∀ b,H b=none->b≠a->upd H a o b=none:=fun b e n=>by rw [qB n];exact e
 have st : ∀ {b u},H b=some u->upd H a o b=some u:=fun {b u} e=>by rw [qB (qT e f0)];exact e
 have na : ∀ b ob,X.s₀.heap.get? b=some ob->b ∉ X.ex->b≠a:=fun b ob e hx z=>by
  rcases f3 with q | q
  ·exact hx (z ▸ q)
  ·exact absurd (lt_of_lt_of_le (Heap.lt_size e) (z ▸ q)) (lt_irrefl _)
 refine ⟨I.ok,I.os,I.bare,⟨I.base.keep,I.base.slot,fun b ob e n hx=>up b (I.base.free b ob e n hx) (na b ob e hx),I.base.there,fun b xs e=>st (I.base.tups b xs e),fun b ob u e=>st (I.base.frzs b ob u e),fun b ps e=>?_⟩,I.loc,I.cell,up _ I.free (Ne.symm f1),fun x c e=>up c (I.freeC x c e) (f4 x c e),fun p hp=>?_,I.hok.track f0 new,I.len⟩
 ·obtain ⟨m,q⟩:=I.base.tbls b ps e
  exact ⟨m,st q⟩
 ·obtain ⟨e,n,r⟩:=I.pin p hp
  exact ⟨e,up _ n (f5 p hp),r⟩
end
def zJZ (Y:Cx) (ifs:List Expr) (t:TT):Prop:=
 ∀ (pins:List (Addr × Obj)) (s:Shared) (σ:St) (H:Hp) (R:Bool->Hp->Prop),Inv Y pins σ H s->t σ H R ->
  wpAny (model Y.prog Y.w) Y.A (forIn ifs true fun c r=>if r=true then do let ok <- isTrue c Y.env (eval c Y.env);pure (ForInStep.yield ok) else pure (ForInStep.yield r)) (TP Y pins σ R) Y.xe s
def zJm:TT:=fun _ H R=>R true H
theorem qz {Y:Cx}:zJZ Y [] zJm:=fun _ _ _ H _ I h=>wpAny_tests_nil ⟨H,I,h⟩
theorem yw {Y:Cx} {c:Expr} {t:TT} (h:PT Y c t):zJZ Y [c] t:=fun pins s σ H R I q=>wpAny_tests_one (h pins s σ H R I q)
def zBQ (is : List Nat) (tt : TT) (te : TE) (σ : St) (Q : VK) (J : It) (H1 : Hp) : Prop := ∃ W : Nat -> Nat -> List V -> Hp -> Prop, (∃ m, W 0 m [] H1) /\ ∀ i m ys H, W i m ys H -> ys.length <= sizeLine /\
  ((J.stop i H /\ ∀ p, H p = none -> Q (.ref p) (upd H p (.lst ys))) \/
   (J.go i H /\ ys.length < sizeLine /\ ∀ x H', J.yld i H x H' -> tt (some x :: is.map fun j => (σ[j]?).getD none) H' fun ok H2 =>
     if ok = true then te (some x :: is.map fun j => (σ[j]?).getD none) H2 fun y H3 => ∃ m', m' < m /\ W (i + 1) m' (ys ++ [y]) H3 else ∃ m', m' < m /\ W (i + 1) m' ys H2))
def zBF (is:List Nat) (wi:TI) (tt:TT) (te:TE):TE:=fun σ H Q=>wi σ H fun J H1=>zBQ is tt te σ Q J H1
section
variable {X : Cx} {elt iter : Expr} {ifs : List Expr} {x : Str} {px pos : Pos} {scope : Scope} {cl : List (Str × Addr)} {fr : List Str} {is : List Nat} {wi : TI} {tt : TT} {te : TE}
theorem zDG {pins:List (Addr × Obj)} {σ:St} {H₂:Hp} {s₂:Shared} {C:Addr} {fp:List Addr} {N':List Str} (I:Inv X pins σ H₂ s₂) (hC:s₂.heap.objs.size<=C) (hf : ∀ b ∈ fp,zBV X pins H₂ b) (hfl : ∀ b ∈ fp,b < s₂.heap.objs.size)
  (hcell : ∀ y ∈ scope.names,y.2 ≠ .cell) (hkind:scope.kind = .function) (hcl:zE0 X.env.cells cl) (hfree:(scope.names.all fun p=>p.2 != .free || (cl.lookup p.1).isSome)=true):(jz X scope cl N' C s₂ H₂ fp).Ok where
 mod:=I.mod
 kind:=hkind
 glob:=I.ok.glob
 blt:=I.ok.blt
 above:=hC
 inj:=fun x y c h1 h2=>I.ok.inj x y c (hcl.look h1) (hcl.look h2)
 has:=fun y h=>by
  have h':=Qv (env:=X.env) hcell h
  have hm:(y,NameKind.free) ∈ scope.names:=by
   have aux : ∀ {l:List (Str × NameKind)},l.lookup y=some .free->(y,NameKind.free) ∈ l:=by
    intro l
    induction l with
    | nil=>intro z;simp at z
    | cons p r ih =>
     intro z
     obtain ⟨n,k⟩:=p
     rw [lookup_cons] at z
     cases e:y == n with
     | true=>rw [e] at z;cases z;rw [eq_of_beq e];exact List.mem_cons_self
     | false=>rw [e] at z;exact List.mem_cons_of_mem _ (ih z)
   exact aux h'
  have q:((NameKind.free != NameKind.free) || (cl.lookup y).isSome)=true:=List.all_eq_true.mp hfree _ hm
  have q':(cl.lookup y).isSome=true:=by rw [bne_self_eq_false,Bool.false_or] at q;exact q
  exact Option.isSome_iff_exists.mp q'
 cab:=fun _ _ h _=>by cases h
 hd:=I.ok.hd
 frames:=I.ok.frames
 stk:=.inl rfl
 exf:=fun b hb=>⟨ne_of_lt (lt_of_lt_of_le (hfl b hb) hC),fun y c e=>(hf b hb).2.2.2.2.1 y c (hcl.look e)⟩
 bs:=I.bs
 bsz:=le_trans I.ok.bsz I.sz
 noex:=fun b o e hb=>by
  rcases (hf b hb).2.2.2.1 with q | q
  ·exact I.ok.noex b o e q
  ·exact absurd (lt_of_lt_of_le (Heap.lt_size e) (le_trans I.ok.bsz q)) (lt_irrefl _)
 exfs:=fun b hb z=>by
  rcases List.mem_cons.mp (I.stkSub b z) with q | q
  ·exact (hf b hb).2.1 q
  ·exact (hf b hb).2.2.1 q
 funs:=I.stack
 frf:=I.stkFree
def zBf (X:Cx) (pins:List (Addr × Obj)) (σ:St) (Q:VK) (acc:Value) (C:Addr) (r:Result) (s':Shared):Prop:=match r with
 | .ok _=>∃ (D:Addr) (H':Hp) (m:Str->Option Value),acc = .ref D/\Inv X pins σ H' s'/\s'.heap.Ns C m/\zBV X pins H' C/\Q (.ref D) H'
 | .error _=>False
theorem zKZ {M:Model} {A:Around} {E:Value->Shared->Prop} {s:Shared} {it u:Value} {Q1:Unit->Shared->Prop} {α:Type} {t:Sem α} {Q2:α->Shared->Prop} (h:wpAny M A (letOwnedTupleGo (.Name x px) it u) Q1 E s) (k : ∀ s,Q1 () s->wpAny M A t Q2 E s):wpAny M A t Q2 E s:=by
 have z:wpAny M A (letOwnedTupleGo (.Name x px) it u >>= fun _=>t) Q2 E s:=wpAny_bind (thn h fun _ s q=>k s q)
 rw [show letOwnedTupleGo (.Name x px) it u=pure () from rfl,pure_bind] at z
 exact z
theorem VZ {pins:List (Addr × Obj)} {σ:St} {Q:VK} {E:Value->Shared->Prop} {s₂:Shared} {H₂:Hp} {it:Addr} {fp:List Addr} {tn:Nat->Heap->Prop} {J:It}
  (hc:X.calm=true) (hcell : ∀ y ∈ scope.names,y.2 ≠ .cell) (hkind:scope.kind = .function) (hx:scope.names.lookup x=some .local) (hcl:zE0 X.env.cells cl)
  (hfree:(scope.names.all fun p=>p.2 != .free || (cl.lookup p.1).isSome)=true) (hfr:zDQ X scope fr is) (hnd:(x::fr).Nodup)
  (ht : ∀ C s₂ H₂ fp,zJZ (jz X scope cl (x::fr) C s₂ H₂ fp) ifs tt) (he : ∀ C s₂ H₂ fp,PE (jz X scope cl (x::fr) C s₂ H₂ fp) elt te)
  (I:Inv X pins σ H₂ s₂) (T:zGe X.prog X.w X.K (.Name x px) J fp it tn) (st:tn 0 s₂.heap) (hf : ∀ b ∈ fp,zBV X pins H₂ b) (R:zBQ is tt te σ Q J H₂) :
  wpAny (model X.prog X.w) X.A (newList []) (fun acc s₃=>wpAny (model X.prog X.w) X.A (newFunctionEnv scope X.env.globals cl [] X.env.qual none .none (some X.env)) (fun cenv s₄ =>
   codeAny (model X.prog X.w) X.A (.compStart (.ListComp elt [⟨.Name x px,iter,ifs,0⟩] scope pos) 0 (.ref it) acc { cenv with scope:=relabel scope X.env }) (zBf X pins σ Q acc cenv.locals) s₄) E s₃) E s₂:=by
 obtain ⟨W,⟨m0,w0⟩,turn⟩:=R
 refine wpAny_newObj_type (wpAny_newFunctionEnv hcell (by intro y hy;simp at hy) (fun h₁ hns₁ hsb₁=>?_) hkind)
 dsimp only at hns₁ hsb₁ ⊢
 generalize hH2:s₂.heap.push { cls:=.type "list", dict:=none,data:=.seq ([]:List Value).toArray }=G2 at hns₁ hsb₁ ⊢
 have hC:G2.objs.size=s₂.heap.objs.size+1:=by rw [<- hH2,Heap.size_push]
 have hDC:s₂.heap.objs.size≠G2.objs.size:=by rw [hC];exact ne_of_lt (Nat.lt_succ_self _)
 have below : ∀ b,b < s₂.heap.objs.size->b≠G2.objs.size/\b≠s₂.heap.objs.size:=fun b hb=>⟨by rw [hC];exact ne_of_lt (Nat.lt_succ_of_lt hb),ne_of_lt hb⟩
 have hfl : ∀ b ∈ fp,b < s₂.heap.objs.size:=fun b hb=>by obtain ⟨o,e,_⟩:=T.obj _ _ st b hb;exact Heap.lt_size e
 have old : ∀ b o,s₂.heap.get? b=some o->h₁.get? b=some o:=fun b o e=>hsb₁.extBut b o (below b (Heap.lt_size e)).1 (Heap.get?_push_of_some _ (hH2 ▸ Heap.get?_push_of_some _ e))
 have hacc:h₁.get? s₂.heap.objs.size=some { cls:=.type "list", data:=.seq ([]:List Value).toArray 0 }:=hsb₁.extBut _ _ hDC (Heap.get?_push_of_some _ (hH2 ▸ Heap.get?_push_size _ rfl))
 have hfresh : ∀ b,s₂.heap.objs.size<=b->H₂ b=none:=fun b hb=>I.hok.fresh hb
 have hCle:s₂.heap.objs.size<=G2.objs.size:=by rw [hC];exact Nat.le_succ _
 generalize hCe:G2.objs.size=C at *
 generalize hDe:s₂.heap.objs.size=D at *
 have ok:(jz X scope cl (x::fr) C s₂ H₂ fp).Ok:=zDG I (by rw [hDe];exact hCle) hf (by rw [hDe];exact hfl) hcell hkind hcl hfree
 have hYc:(jz X scope cl (x::fr) C s₂ H₂ fp).calm=true:=hc
 have hDfp : ∀ b ∈ fp,b≠D:=fun b hb=>ne_of_lt (hfl b hb)
 have hDst:D ∉ frs X.stack:=fun z=>by
  rcases List.mem_cons.mp (I.stkSub D z) with q | q
  ·have:=I.lt;rw [hDe,<- q] at this;exact lt_irrefl _ this
  ·exact I.nofs (by rw [hDe];exact Nat.le_refl _) q
 have hfY : ∀ {H':Hp} {its:List Value} {n:Nat},(∀ b ∈ fp,H' b=none) -> ∀ b ∈ fp,zBV (jz X scope cl (x::fr) C s₂ H₂ fp) [(D,{ cls:=.type "list", data:=.seq its.toArray n })] H' b:=fun hn b hb =>
  ⟨hn b hb,(ok.exf b hb).1,ok.exfs b hb,.inl hb,(ok.exf b hb).2,fun p hp=>by
   have e:p=(D,{ cls:=.type "list", data:=.seq _ _ }):=List.mem_singleton.mp hp
   rw [e];exact Ne.symm (hDfp b hb)⟩
 have lenF:(is.map fun j=>(σ[j]?).getD none).length=fr.length:=by rw [length_map,hfr.len]
 have I0:Inv (jz X scope cl (x::fr) C s₂ H₂ fp) [(D,{ cls:=.type "list", data:=.seq ([]:List Value).toArray 0 })] (none::is.map fun j=>(σ[j]?).getD none) H₂ { s₂ with heap:=h₁,toks:=s₂.toks+([]:List (Str × Value)).length }:=by
  refine ⟨ok,rfl,I.bare,Un.kept old,⟨_,hns₁,fun i y v e1 e2 e3=>?_⟩,fun y c e=>?_,hfresh C hCle,fun y c e=>I.freeC y c (hcl.look e),fun p hp=>?_,I.hok.kept old,?_⟩
  ·cases i with
   | zero=>cases e2
   | succ k =>
    have e1':fr[k]? = some y:=e1
    have e2':(is.map fun j=>(σ[j]?).getD none)[k]? = some (some v):=e2
    obtain ⟨j,hj,hN,hfy,hkx⟩:=hfr.get e1'
    rw [getElem?_map,hj] at e2'
    have e4:(σ[j]?).getD none=some v:=Option.some.inj e2'
    have e5:σ[j]? = some (some v):=by
     cases q:σ[j]? with
     | none=>rw [q] at e4;cases e4
     | some o=>rw [q] at e4;have e4':o=some v:=e4;rw [e4']
    obtain ⟨m,hn,hl⟩:=id I.loc
    have hvis:Vis X.env.scope y:=hkx.elim (fun q=>.inr (.inl q)) fun q=>.inr (.inr q)
    obtain ⟨u,r,lk⟩:=hl j y v hN e5 hvis
    refine ⟨u,r,.inr ⟨kh I.ok.kind hfy hkx,?_⟩⟩
    rcases lk with ⟨kl,_⟩ | ⟨_,c,ec,ic⟩
    ·rcases hkx with q | q <;> rw [kl] at q <;> cases q
    ·obtain ⟨c',ec'⟩:=ok.has y (kh I.ok.kind hfy hkx)
     have:c'=c:=Option.some.inj ((hcl.look ec').symm.trans ec)
     rw [this] at ec'
     obtain ⟨o,ho,hd⟩:=ic
     exact ⟨c,ec',o,old c o ho,hd⟩
  ·obtain ⟨v,o,ho,hd⟩:=I.cell y c (hcl.look e)
   exact ⟨v,o,old c o ho,hd⟩
  ·have e:p=(D,{ cls:=.type "list", data:=.seq ([]:List Value).toArray 0 }):=List.mem_singleton.mp hp
   rw [e]
   exact ⟨hacc,hfresh D (Nat.le_refl _),hDC,hDst,fun v z=>by cases z⟩
  ·show (none::_).length=(x::fr).length
   rw [length_cons,length_cons,lenF]
 have loop : ∀ s₃:Shared,s₃={ s₂ with heap:=h₁,toks:=s₂.toks+([]:List (Str × Value)).length } ->
   codeAny (model X.prog X.w) X.A (.compLoop (.ListComp elt [⟨.Name x px,iter,ifs,0⟩] scope pos) 0 (.ref it) (.ref D) (compEnvC scope cl C X.env)) (zBf X pins σ Q (.ref D) C) s₃:=by
  rintro s₃ rfl
  refine codeAny_compLoop_tests (fun n s'=>∃ (i:Nat) (o:Option V) (ys:List V) (its:List Value) (k:Nat) (H':Hp),Inv (jz X scope cl (x::fr) C s₂ H₂ fp) [(D,{ cls:=.type "list", data:=.seq its.toArray k })] (o::is.map fun j=>(σ[j]?).getD none) H' s' /\
   tn i s'.heap/\(∀ b ∈ fp,H' b=none)/\qR ys its/\W i n ys H') ?_ m0 ⟨0,none,[],[],0,H₂,I0,T.keep _ _ _ st fun b _ o e=>old b o e,fun b hb=>(hf b hb).1,.nil,w0⟩
  rintro n s' ⟨i,o,ys,its,k,H',I',st',fr',vs,w'⟩
  obtain ⟨hlen,⟨stop,fin⟩ | ⟨go,hlt,step⟩⟩:=turn i n ys H' w'
  ·refine wpAny_mono (T.done (jz X scope cl (x::fr) C s₂ H₂ fp) rfl rfl rfl hYc i _ s' _ H' (fun _ _=>False) I' (hfY fr') st' stop) (fun r s1 zq=>?_) fun _ _ z=>z.elim
   obtain ⟨hr,I1⟩:=zq
   subst hr
   obtain ⟨pD,nD,_,_,_⟩:=I1.pin _ (mem_append_right _ (List.mem_singleton.mpr rfl))
   have IX:Inv X pins σ H' s1:=I.call' I1.os I1.base I1.hok I1.bare fun b hb=>⟨(hf b hb).2.2.2.1,(hf b hb).2.1,(hf b hb).2.2.2.2.1,(hf b hb).2.2.2.2.2⟩
   have fD:zBV X pins H' D:=I.fpOk (by rw [hDe];exact Nat.le_refl _) nD
   obtain ⟨m,hn,_⟩:=id I1.loc
   have hC':H' C=none:=I1.free
   refine ⟨D,upd H' D (.lst ys),m,rfl,IX.track fD ⟨hlen,its,k,vs,pD⟩,hn,I.fpOk (by rw [hDe];exact hCle) (by rw [qB (Ne.symm hDC)];exact hC'),fin D nD⟩
  ·refine wpAny_mono (T.item (jz X scope cl (x::fr) C s₂ H₂ fp) rfl rfl rfl hYc i _ s' _ H' (fun _ _=>False) I' (hfY fr') st' go) (fun r s1 zq=>?_) fun _ _ z=>z.elim
   obtain ⟨u,hr,h4⟩:=zq
   subst hr
   refine wpAny_mono (zKZ (Q2:=fun _ s6=>_) h4 fun s2 zq=>?_) (fun _ _ q=>q) fun _ _ z=>z.elim
   obtain ⟨v,H5,I5,r5,y5,st5,fr5⟩:=zq
   have I5':=I5.pinned (hfY fr5) (T.obj _ _ st5)
   refine thn (zj (X:=jz X scope cl (x::fr) C s₂ H₂ fp) (i:=0) hnd rfl (.inl (lookup_relabel_local hx)) (.inr (lookup_relabel_local hx)) _ s2 _ H5 v u (fun σ' H'=>σ'=(some v::is.map fun j=>(σ[j]?).getD none)/\H'=H5) I5' r5 ⟨rfl,rfl⟩) fun _ s6 zq=>?_
   obtain ⟨σ6,H6,I6,e6,e7⟩:=zq
   subst e6 e7
   refine wpAny_mono (ht C s₂ H₂ fp _ s6 _ H6 _ I6 (step v H6 y5)) (fun ok7 s7 zq=>?_) fun _ _ z=>z.elim
   obtain ⟨H7,I7,q7⟩:=zq
   have keep : ∀ {σ8:St} {H8:Hp} {s8:Shared},Inv (jz X scope cl (x::fr) C s₂ H₂ fp) ([(D,{ cls:=.type "list", data:=.seq its.toArray k })]++Ks fp s2.heap) σ8 H8 s8->tn (i+1) s8.heap /\ ∀ b ∈ fp,H8 b=none:=fun {σ8 H8 s8} I8 =>
    ⟨T.keep _ _ _ st5 fun b hb o e=>(I8.pin (b,o) (mem_append_right _ (mem_append_right _ (ZT hb e)))).1,fun b hb=>by
     obtain ⟨o,e,d⟩:=T.obj _ _ st5 b hb
     exact (I8.pin (b,o) (mem_append_right _ (mem_append_right _ (ZT hb e)))).2.1⟩
   cases ok7 with
   | false =>
    obtain ⟨m',hm',w7⟩:=q7
    exact ⟨m',hm',i+1,_,ys,its,k,H7,I7.unpinned,(keep I7).1,(keep I7).2,vs,w7⟩
   | true =>
    refine wpAny_mono (he C s₂ H₂ fp _ s7 _ H7 _ I7 q7) (fun yv s8 zq=>?_) fun _ _ z=>z.elim
    obtain ⟨y,H8,I8,r8,m',hm',w8⟩:=zq
    obtain ⟨pD,nD,neD,nfD,ncD⟩:=I8.pin (D,{ cls:=.type "list", data:=.seq its.toArray k }) (mem_append_right _ (mem_append_left _ (List.mem_singleton.mpr rfl)))
    have hl:=vs.length
    refine append_at (hsz:=by rw [List.size_toArray,<- hl];exact hlen) pD fun h9 sb9 hD9=>?_
    obtain ⟨st8,fr8⟩:=keep I8
    have I8':Inv (jz X scope cl (x::fr) C s₂ H₂ fp) [] (some v::is.map fun j=>(σ[j]?).getD none) H8 s8:=I8.pins_of fun p hp=>nomatch hp
    have I9:Inv (jz X scope cl (x::fr) C s₂ H₂ fp) [] (some v::is.map fun j=>(σ[j]?).getD none) H8 { s8 with heap:=h9 }:=
     I8'.turned (t':=s8.toks) (fun b o hb e=>(sb9.2 b hb).trans e) nD neD (.inr (by rw [<- hDe];exact Nat.le_refl _)) (fun y' c e z=>by
      obtain ⟨v',o',ho',hd'⟩:=I8'.cell y' c e
      rw [z,pD] at ho';cases ho';cases hd') (fun p hp=>nomatch hp)
    refine ⟨m',hm',i+1,_,ys++[y],its++[yv],k+1,H8,I9.pins_of fun p hp=>?_,T.keep _ _ _ st8 fun b hb o e=>(sb9.2 b (hDfp b hb)).trans e,fr8,vs.append (.cons r8 .nil),w8⟩
    rw [List.mem_singleton.mp hp]
    refine ⟨?_,nD,neD,nfD,fun v z=>by cases z⟩
    rw [<- List.push_toArray]
    exact hD9
 exact codeAny_compStart_list (loop _ rfl) (T.self _ 0 _ _ _ (T.keep _ _ _ st fun b _ o e=>old b o e) (loop _ rfl))
theorem jV (hc:X.calm=true) (hclos:closureFor scope X.env=pure cl) (hcl:zE0 X.env.cells cl) (hfree:(scope.names.all fun p=>p.2 != .free || (cl.lookup p.1).isSome)=true) (hfr:zDQ X scope fr is) (hnd:(x::fr).Nodup)
  (hcell : ∀ y ∈ scope.names,y.2 ≠ .cell) (hkind:scope.kind = .function) (hnames : ∀ y ∈ scope.names,y.2 = .local->scope.names.lookup y.1=some .local) (hx:scope.names.lookup x=some .local)
  (hi:PI X (.Name x px) iter wi) (ht : ∀ C s₂ H₂ fp,zJZ (jz X scope cl (x::fr) C s₂ H₂ fp) ifs tt) (he : ∀ C s₂ H₂ fp,PE (jz X scope cl (x::fr) C s₂ H₂ fp) elt te) (hs : ∀ x,foldedSetIterable iter X.env x=pure x:=by intro _;rfl) :
  PE X (.ListComp elt [⟨.Name x px,iter,ifs,0⟩] scope pos) (zBF is wi tt te):=by
 intro pins s σ H Q I h
 rw [eval_ListComp]
 refine wpAny_comprehension_free (use:=none) rfl hs hclos hkind hnames (thn (hi pins s σ H _ I h) fun v s1 h1=>thn h1 fun itv s2 h2=>?_)
 obtain ⟨it,fp,tn,J,H2,e,I2,T,st2,f2,R⟩:=h2
 subst e
 refine thn (VZ hc hcell hkind hx hcl hfree hfr hnd ht he I2 T st2 f2 R) fun acc s3 h3=>thn h3 fun cenv s4 h4=>codeAny_mono h4 fun r s' q=>?_
 cases r with
 | error e=>exact q.elim
 | ok f =>
  obtain ⟨D,H',m,rfl,I',hn,fC,q⟩:=q
  obtain ⟨f0,f1,_,f3,f4,f5⟩:=fC
  exact ⟨m,hn,fun h' sb=>⟨.ref D,H',I'.turned (t':=s'.toks) (fun b o hb e=>(sb.2 b hb).trans e) f0 f1 f3 f4 f5,rfl,q⟩⟩
theorem yY {i:Nat} {y:Str} {py spos:Pos} (hN:X.N.Nodup) (hiy:X.N[i]? = some y) (hy:Loc X.env.scope y) (hsw:swapsWith (.ListComp elt [⟨.Name x px,iter,ifs,0⟩] scope pos) (some (.Name y py)) spos.line X.env=pure true)
  (hc:X.calm=true) (hclos:closureFor scope X.env=pure cl) (hcl:zE0 X.env.cells cl) (hfree:(scope.names.all fun p=>p.2 != .free || (cl.lookup p.1).isSome)=true) (hfr:zDQ X scope fr is) (hnd:(x::fr).Nodup)
  (hcell : ∀ y ∈ scope.names,y.2 ≠ .cell) (hkind:scope.kind = .function) (hnames : ∀ y ∈ scope.names,y.2 = .local->scope.names.lookup y.1=some .local) (hx:scope.names.lookup x=some .local)
  (hi:PI X (.Name x px) iter wi) (ht : ∀ C s₂ H₂ fp,zJZ (jz X scope cl (x::fr) C s₂ H₂ fp) ifs tt) (he : ∀ C s₂ H₂ fp,PE (jz X scope cl (x::fr) C s₂ H₂ fp) elt te) (hs : ∀ x,foldedSetIterable iter X.env x=pure x:=by intro _;rfl)
  (hf:X.fn y=true\/X.env.scope.names.lookup y=some .local:=by first | exact .inl rfl | exact .inr rfl | assumption) :
  PS X (.Assign [.Name y py] (.ListComp elt [⟨.Name x px,iter,ifs,0⟩] scope pos) spos) (zJw (zBF is wi tt te) (zEJ i)):=by
 intro pins s σ H D0 I h
 rw [exec_Assign_Name_used _ _ _ _ hsw]
 refine wpAny_bind (wpAny_standAt (wpAny_bind ?_))
 show wpAny _ X.A (do let _ <- comprehension (.ListComp elt [⟨.Name x px,iter,ifs,0⟩] scope pos) scope X.env _ (newList []) false (eval iter X.env) (some (assign (.Name y py) X.env))) _ _ s
 refine wpAny_bind (wpAny_mono (wpAny_comprehension_free (use:=some (assign (.Name y py) X.env)) (Q:=fun _ s'=>SP X pins D0 .next s') rfl hs hclos hkind hnames
  (thn (hi pins s σ H _ I h) fun v s1 h1=>thn h1 fun itv s2 h2=>?_)) (fun _ s' hq=>wpAny_pure (wpAny_pure hq)) fun _ _ e=>e)
 obtain ⟨it,fp,tn,J,H2,e,I2,T,st2,f2,R⟩:=h2
 subst e
 refine thn (VZ hc hcell hkind hx hcl hfree hfr hnd ht he I2 T st2 f2 R) fun acc s3 h3=>thn h3 fun cenv s4 h4=>codeAny_mono h4 fun r s' q=>?_
 cases r with
 | error e=>exact q.elim
 | ok f =>
  obtain ⟨D,H',m,rfl,I',hn,fC,q⟩:=q
  obtain ⟨f0,f1,_,f3,f4,f5⟩:=fC
  show wpAny _ _ (assign (.Name y py) X.env (.ref D)) _ _ _
  refine wpAny_assign_Name (J7 I' hN hiy hy (v:=.ref D) rfl (fun s'' I'' zq=>?_) hf)
  obtain ⟨a,sb,ha⟩:=zq
  have hCa:cenv.locals≠a:=by
   rcases ha with rfl | ha
   ·exact f1
   ·exact Ne.symm (f4 y a ha)
  refine ⟨m,hn.sameBut sb hCa,fun h' sb'=>⟨_,H',I''.turned (t':=s''.toks) (fun b o hb e=>(sb'.2 b hb).trans e) f0 f1 f3 f4 f5,q⟩⟩
end
section
variable {K : W.Frag} {σ : St} {H : Hp} {Q : VK} {is : List Nat} {tt : TT} {te : TE}
def zFL (K:W.Frag) (is:List Nat) (tt:TT) (te:TE) (σ:St) (Q:VK) (x:V) (H:Hp):Prop:=∃ a,x = .ref a/\(∃ xs,SqL K H a xs)/\zBQ is tt te σ Q (Itl K a) H
theorem zFt {tl:TE} (h:tl σ H (zFL K is tt te σ Q)):zBF is (zGq K tl) tt te σ H Q:=h
def NxC (n:Nat) (Pv:Nat->List V->Hp->Prop) (i:Nat) (ys:List V) (H:Hp):Prop:=∃ m',m' < n - i/\m'=n - (i+1)/\i+1<=n/\Pv (i+1) ys H
theorem nxC {Pv:Nat->List V->Hp->Prop} {i:Nat} {ys:List V} (h:i < n) (p:Pv (i+1) ys H):NxC n Pv i ys H:=⟨_,by omega,rfl,h,p⟩
theorem zJi {s:St} {R:Bool->Hp->Prop} (h:R true H):zJm s H R:=h
def zFQ (is:List Nat) (tt:TT) (te:TE) (σ:St) (Q:VK) (vs:List V) (H:Hp):Prop:=∃ j:Int,vs=[.int j] /\ -(2 ^ 62)<=j/\j < 2 ^ 62/\zBQ is tt te σ Q (Itr 0 j.toNat) H
theorem zHC {ta:TA} (h:ta σ H (zFQ is tt te σ Q)):zBF is (zF3 ta) tt te σ H Q:=h
end
section
variable {K : W.Frag} {σ : St} {H : Hp} {Q : VK}
theorem zGY {r:V->Option Int->Option Int->Hp->VK->Prop} {te:TE} {tl th:TO} (h:te σ H fun x H1=>tl σ H1 fun l H2=>th σ H2 fun u H3=>r x l u H3 Q):tSl r te tl th σ H Q:=h
theorem zDr {R:Option Int->Hp->Prop} (h:R none H):zBv σ H R:=h
theorem zIW {t:TE} {R:Option Int->Hp->Prop} (h:t σ H fun x H1=>∃ i,x = .int i/\R (some i) H1):zI1 t σ H R:=h
theorem zHA {R:Int->Prop} (h:R i) : ∃ k,V.int i = .int k/\R k:=⟨i,rfl,h⟩
theorem zIw {b:Addr} {zs:List V} (h1:H l=some (.lst xs)) (h2:H b=some (.lst zs)) (hz:xs.length+zs.length<=sizeLine) (q : ∀ p H',zT H H'->H' p=some (.lst (xs++zs))->Q (.ref p) H'):zKT (.ref l) (.ref b) H Q:=
 ⟨l,b,xs,zs,rfl,rfl,h1,h2,hz,fun p hp=>q p _ (jP hp _) zR⟩
end
section
variable {X : Cx}
theorem Q4 : ∀ {us:List Value} {ns:List Int},IntsAre us ns->qR (ns.map V.int) us
 | _,_,.nil=>.nil
 | _,_,.cons n t h=>.cons ⟨t,rfl⟩ (Q4 h)
def zCG (K:W.Frag):List V->Hp->VK->Prop:=fun xs H Q=>∃ (p:Addr) (ns:List Int),xs=[.ref p]/\SqL K H p (ns.map V.int)/\ns.length < 64 /\
 ∀ (ms:List Int) (q:Addr) (H':Hp),ms.Perm ns->ms.Pairwise (· <= ·)->zT H H'->H' q=some (.lst (ms.map V.int))->Q (.ref q) H'
theorem Wa:yQ X (.builtin "sorted") (zCG X.K):=by
 intro pins s σ H xs us Q I r h
 obtain ⟨p,ns,rfl,hq,h64,q⟩:=h
 obtain ⟨u,rfl,rx⟩:=Wf r
 cases rx
 obtain ⟨its,r',pl,hz⟩:=I.list hq
 have hl:=r'.length
 rw [length_map] at hl hz
 refine sorted_ints pl.isList (zBH r') (by omega) fun out ms hi hp hs=>?_
 obtain ⟨e,he⟩:=sortedAll_at s.heap its out
 have hms:ms.length=ns.length:=hp.length_eq
 have hf:H (s.heap.objs.size+1)=none:=I.hok.fresh (Nat.le_succ _)
 refine ⟨.ref (s.heap.objs.size+1),upd H (s.heap.objs.size+1) (.lst (ms.map V.int)),I.laid (t':=s.toks) (fun _ _=>sortedAll_old) (Nat.le_succ _) ⟨by rw [length_map,hms];exact hz,out.toList,e,Q4 hi,?_⟩,rfl,q _ _ _ hp hs (jP hf _) zR⟩
 rw [he,Array.toArray_toList]
theorem zDu {Q:VK} {p:Addr} {ns:List Int} (h:SqL K H p (ns.map V.int)) (h64:ns.length < 64) (q : ∀ (ms:List Int) (q:Addr) (H':Hp),ms.Perm ns->ms.Pairwise (· <= ·)->zT H H'->H' q=some (.lst (ms.map V.int))->Q (.ref q) H'):zCG K [.ref p] H Q:=⟨p,ns,rfl,h,h64,q⟩
theorem Vr:bootBuiltins "sorted" = some (.builtin "sorted"):=by decide +kernel
end
set_option maxHeartbeats 400000
abbrev VEB:List Value:=[.type "ValueError", .type "Exception", .type "BaseException", .type "object"]
structure Exc (K:W.Frag) (C:Addr):Prop where
 ex:W.excIn K C VEB "ValueError.__new__" = true
 h1:W.findIn K (.ref C) "__getattribute__" = some (some (.builtin "BaseException.__getattribute__"))
 h2:W.findIn K (.ref C) "__getattr__" = some none
 hb:W.mroIn K C (.type "BaseException")=some true
 hd:W.hasDictIn K C=true
 ha:W.findIn K (.ref C) "__class__" = some (some (.builtin "object.__class__"))
 hn:W.specialIn K (.builtin "object.__class__") "__get__" = some (some (.builtin "getset_descriptor.__get__"))
 ht:W.takesIn K (.builtin "object.__class__")=some true
 hm:W.mroIn K C (.type "object")=some true
def zBT (x C:Addr) (h:Heap):Prop:=∃ o,h.get? x=some o/\o.cls = .ref C /\ ∃ vs,o.data = .fields vs
variable {C:Addr} {h h':Heap}
theorem zBT.keep {x:Addr} (e:zBT x C h) (k : ∀ o,h.get? x=some o->h'.get? x=some o):zBT x C h':=let ⟨o,a,b⟩:=e;⟨o,k o a,b⟩
section
open PySem.W PySem.Calls Builtin Builtin.ObjectAttr Builtin.Getset_descriptor
variable {K : Frag} {x C : Addr} {M : Model} {h : Heap}
theorem zBT.ty (e:zBT x C h):Looks M h (typeOf (.ref x)) (.ref C):=by
 obtain ⟨o,h1,h2,_⟩:=e
 rw [<- h2]
 exact (Looks.ld h1).andThen .now
theorem zG3 {a g:Value} {name:Str} (X:K.In h) (h1:findIn K (.ref C) name=some (some a)) (h2:specialIn K a "__get__" = some (some g)) (h3:takesIn K a=some true):Looks M h (Builtin.ObjectAttr.find (.ref x) (.ref C) name) (.bind g a):=
 (looks_findIn X h1).andThen ((looks_specialIn X h2).andThen ((show Looks M h (Builtin.ObjectAttr.dataDescriptor? (some a) (some g)) (some (g,a)) from (looks_takesIn X h3).andThen .now).andThen (Looks.tag .now)))
variable {prog : Program} {w : World} {A : Around} {E : Value -> Shared -> Prop} {s : Shared}
theorem zHr {tp:Value} {R:Result->Shared->Prop} (X:K.In s.heap) (e:zBT x C s.heap) (c:Exc K C) (q:R (.ok (.ret (.ref C))) s) :
  codeAny (model prog w) A (.call (.builtin "getset_descriptor.__get__") ⟨[.builtin "object.__class__", .ref x,tp],[]⟩) R s:=by
 obtain ⟨hp,gn,dw,tk,os⟩:=s
 have T0:=e.ty (M:=model prog w)
 have T1:=looks_mroIn (M:=model prog w) X c.hm
 refine codeAny_call_builtin KF.slot_gs.plain KF.entry_gs
  (KF.slot_gs.check _ _ _ _ _ _ _ _ KF.type_class (KF.args_gs _ _ _) ?_)
 unfold Builtin.«getset_descriptor.__get__»
 unfold descrGet
 rw [dga_obj]
 refine wpAny_bind (wpAny_pure ?_)
 unfold descrGetter descrCheckInstance
 unfold descrNameAndClass isInstance
 simp only [KF.owner_class]
 repeat lk
 refine ⟨Code.quiet_builtin _ (by decide +kernel),
  codeAny_builtin KF.entry_class ?_⟩
 unfold Builtin.«object.__class__»
 unfold shownTypeOf
 repeat lk
 exact q
theorem zDh {tk:Tok} {P:Value->Shared->Prop} (X:K.In s.heap) (e:zBT x C s.heap) (c:Exc K C) (q:P (.ref C) s) :
  wpAny (model prog w) A (Builtin.«object.__getattribute__» ⟨[.ref x,.str "__class__" tk],[]⟩) (fun fin s'=>match fin with | .done (.ret v)=>P v s' | _=>False) E s:=by
 obtain ⟨hp,gn,dw,t',os⟩:=s
 have T0:=e.ty (M:=model prog w)
 have T2:=zG3 (M:=model prog w) (x:=x) X c.ha c.hn c.ht
 unfold Builtin.«object.__getattribute__»
 refine wpAny_bind (wpAny_pure (wpAny_bind (wpAny_pure (wpAny_bind (T0.at (wpAny_bind (T2.at ?_)))))))
 show wpAny _ _ (holding [Value.builtin "object.__class__"] (call (.builtin "getset_descriptor.__get__") [.builtin "object.__class__", .ref x,.ref C]) >>= ret) _ _ _
 refine wpAny_bind (wpAny_holding (wpAny_call (zHr X e c ?_)))
 exact wpAny_pure q
theorem zHD {tk:Tok} {R:Result->Shared->Prop} (X:K.In s.heap) (e:zBT x C s.heap) (c:Exc K C) (q:R (.ok (.ret (.ref C))) s) :
  codeAny (model prog w) A (.call (.builtin "BaseException.__getattribute__") ⟨[.ref x,.str "__class__" tk],[]⟩) R s:=by
 refine codeAny_call_builtin PySem.F.attrBase_ValueError.ga.plain PySem.F.entry_bexc_ga ?_
 have k0:builtinKind "BaseException.__getattribute__" = some .slot:=by decide +kernel
 have k1:splitId "BaseException.__getattribute__" = some ("BaseException", "__getattribute__"):=by decide +kernel
 have k2:=PySem.F.args_bexc_ga (.ref x) (.str "__class__" tk)
 have T0:=e.ty (M:=model prog w)
 have T1:=looks_mroIn (M:=model prog w) X c.hb
 have T4:Looks (model prog w) s.heap (isInstance (.ref x) (.type "BaseException")) true:=T0.andThen T1
 simp only [checkBuiltinCall,k0,k1]
 refine wpAny_bind (T4.here ?_)
 rw [if_neg (by decide)]
 unfold argsOk at k2
 generalize Manifest.signature? "BaseException.__getattribute__" = sg at k2 ⊢
 have go:=wpAny_mono (E':=fun e s'=>R (.error e) s') (zDh (prog:=prog) (w:=w) (A:=A.in1) (tk:=tk) (E:=fun _ _=>False) (P:=fun v s'=>R (.ok (.ret v)) s') X e c q) (Q':=fun fin s'=>match fin with | .done f=>R (.ok f) s' | .again c'=>c'.quiet=true/\codeAny (model prog w) A c' R s') (fun fin s' z=>by
  rcases fin with (_ | _ | _ | _) | _ <;> first | exact z | exact z.elim) fun _ _ z=>z.elim
 cases sg with
 | none=>exact wpAny_pure go
 | some sig =>
  dsimp only at k2 ⊢
  rw [k2]
  exact wpAny_pure go
theorem zDe {Q:Option Value->Shared->Prop} (X:K.In s.heap) (e:zBT x C s.heap) (c:Exc K C) (q:Q (some (.ref C)) { s with toks:=s.toks+1 }):wpAny (model prog w) A (getAttr? (.ref x) "__class__") Q E s:=by
 obtain ⟨hp,gn,dw,tk,os⟩:=s
 have T0:=e.ty (M:=model prog w)
 have T1:=looks_findIn (M:=model prog w) X c.h1
 have T3:=looks_findIn (M:=model prog w) X c.h2
 have B0:=PySem.F.attrBase_ValueError.ga.bind (.ref x)
 unfold getAttr? getAttrBy?
 unfold getAttrBy
 refine wpAny_bind (wpAny_mkText (wpAny_bind (wpAny_attempt
  (wpAny_holding (wpAny_bind (T0.at (wpAny_bind (T1.at ?_))))))))
 show wpAny _ _ (getAttrByItsOwn (.ref x) (.str "__class__" tk) (.ref C) (.builtin "BaseException.__getattribute__") false false) _ _ _
 unfold getAttrByItsOwn
 refine wpAny_bind ((show Looks (model prog w) hp (hookBefore (.ref C)) none from T3).at ?_)
 unfold callGetattribute
 show wpAny _ _ (do match <- (holding [] (boundAndCalled (.builtin "BaseException.__getattribute__") (.ref x) (.str "__class__" tk))).attempt with | .ok v=>handedOut v | .error e'=>getattributeRaised _ _ _ e' _ _ _) _ _ _
 unfold boundAndCalled
 rw [B0]
 refine wpAny_bind (wpAny_attempt (wpAny_holding (wpAny_bind (wpAny_pure (wpAny_call (zHD X e c ?_))))))
 exact wpAny_mono (handed_on rfl q) (fun v s'' hv=>wpAny_pure hv) fun _ _ z=>z
theorem zIz (c:Exc K C):KitX K (.ref x) (.ref C) (zBT x C) where
 ty:=fun _ _ _ e=>e.ty
 it:=fun _ _ X _=>by
  obtain ⟨cd,hc,_⟩:=any_some c.hd
  unfold clsIn at hc
  split at hc
  ·rename_i ho
   intro A' Q' E' s' k q
   unfold isType loadHead
   refine wpAny_bind (wpAny_loadPart (k _ _ (X _ _ ho)) ?_)
   exact wpAny_pure q
  ·cases hc
 ne:=fun h tp dd its n sl X htp=>by
  obtain ⟨cd,hc,_⟩:=any_some c.hd
  refine Bool.eq_false_iff.mpr fun q=>?_
  have z:C=tp:=Value.ref.inj (beq_iff_eq.mp q)
  subst z
  unfold clsIn at hc
  split at hc
  ·rename_i ho
   cases (X _ _ ho).symm.trans htp
  ·cases hc
 ca:=fun X e k=>zDe X e c k
end
def CXE (P:Program) (w:World):CXT:=fun outer H s E e s'=>∃ (x C:Addr) (a0:Value) (H':Hp) (B:Heap),e = .ref x/\s'.os=s.os/\AllBare s'.gens/\Heap.FlyingW B outer x (.ref C) a0 s'.heap /\
 (∀ h',B.StaysIn h'->s'.heap.UpToSlots h'->Un (frs outer) [] H H' s.heap h'/\HOk P w H' h')/\s.heap.get? x=none/\H' x=none/\E (.ref C) none H'
theorem xO.is (x:xO P w H h a o) : ∃ ob,h.get? a=some ob:=by
 cases o with
 | lst xs=>obtain ⟨_,_,_,_,e⟩:=x;exact ⟨_,e⟩
 | tup xs=>obtain ⟨_,_,_,ob,e,_⟩:=x;exact ⟨_,e⟩
 | dK kvs=>obtain ⟨_,_,_,_,ob,_,_,e,_⟩:=x;exact ⟨_,e⟩
 | dT kvs=>obtain ⟨_,_,_,_,ob,_,_,e,_⟩:=x;exact ⟨_,e⟩
 | set S n=>first | (obtain ⟨ob,e,_⟩:=x;exact ⟨_,e⟩) | (obtain ⟨ob,es,e,_⟩:=x;exact ⟨_,e⟩) | (obtain ⟨ob,es,ep,e,_⟩:=x;exact ⟨_,e⟩) | (obtain ⟨ob,es,ep,z,e,_⟩:=x;exact ⟨_,e⟩)
 | ins C dx fs=>obtain ⟨_,_,_,e,_⟩:=x;exact ⟨_,e⟩
 | own y=>exact x
 | xd fs=>obtain ⟨_,⟨ob,_,_,e,_⟩,_⟩:=x;exact ⟨_,e⟩
 | met f y=>exact ⟨_,x⟩
 | rng lo hi=>obtain ⟨_,_,_,e⟩:=x;exact ⟨_,e⟩
 | frz o u=>exact ⟨_,x.1⟩
 | tbl ps=>exact ⟨_,x⟩
 | ext φ=>exact x.2.1
section
variable {P : Program} {w : World} {K : W.Frag} {mg : Str -> Option Value} {base : Heap} {N : List Str} {qual : Str} {scope : Scope} {f : Addr} {cd : Value} {A : Around} {outer : List Env} {s : Shared} {H : Hp} {E : XK}
theorem Xs {pins:List (Addr × Obj)} {σ:St} {H1:Hp} {s1:Shared} {x:Addr} {args:List Value}
  (I:Inv (Zy (CXE P w) P w K mg base N qual scope f cd A outer s H E) pins σ H1 s1) (hm:Heap.MadeExcOf s1.heap h' x (.ref C) args) (q:E (.ref C) none H1) :
  (Zy (CXE P w) P w K mg base N qual scope f cd A outer s H E).xe (.ref x) { s1 with heap:=h' }:=by
 have hst : ∀ b ∈ frs (envOfC qual scope s.heap.objs.size f cd::outer),H1 b=none:=I.stkFree
 have hin : ∀ env ∈ (envOfC qual scope s.heap.objs.size f cd::outer),∀ b,env.frame=some b->b ∈ frs (envOfC qual scope s.heap.objs.size f cd::outer):=fun env he b hb=>List.mem_filterMap.mpr ⟨env,he,hb⟩
 have FF:s1.heap.FunFrames base (envOfC qual scope s.heap.objs.size f cd::outer):=I.stack
 have old : ∀ b o,s.heap.get? b=some o->b≠s.heap.objs.size:=fun b o e=>ne_of_lt (Heap.lt_size e)
 have sub : ∀ b,b ∈ frs (envOfC qual scope s.heap.objs.size f cd::outer)->b=s.heap.objs.size\/b ∈ frs outer:=fun b hb=>List.mem_cons.mp (I.stkSub b hb)
 refine wpAny_leaves_madeW (base:=W.hideAll s1.heap (frs (envOfC qual scope s.heap.objs.size f cd::outer))) I.ok.frames rfl (fun b o e=>W.of_hideAll _ e) (W.funFrames_hide FF hin) hm fun h2 t f1 f2 f3 f4=>?_
 refine ⟨x,C,.ref t,H1,_,rfl,I.os,I.bare,f1,fun h3 st sm=>?_,?_,?_,q⟩
 ·have here : ∀ b o,s1.heap.get? b=some o->b ∉ frs (envOfC qual scope s.heap.objs.size f cd::outer)->h3.get? b=some o:=fun b o e n=>st b o (W.hideAll_get _ e n)
  have fram : ∀ b o,s1.heap.get? b=some o->b ∈ frs (envOfC qual scope s.heap.objs.size f cd::outer) -> ∃ sl,h3.get? b=some { o with slots:=sl }:=fun b o e m=>by
   obtain ⟨_,o',e',nf⟩:=FF.mem m
   have z:o'=o:=Option.some.inj (e'.symm.trans e)
   subst z
   obtain ⟨sl,e2⟩:=f4 b o' (hm.keeps b o' e) nf
   obtain ⟨sl',e3⟩:=sm b _ e2 nf
   exact ⟨sl',e3⟩
  refine ⟨⟨fun b o e n hb hx=>?_,fun b o e n hb hx=>?_,fun b o e n hx=>I.base.free b o e n hx,fun b o e hx=>?_,I.base.tups,I.base.frzs,I.base.tbls⟩,fun a u e=>?_⟩
  ·exact here b o (I.base.keep b o e n hb hx) fun z=>(sub b z).elim (old b o e) hb
  ·obtain ⟨sl,e1⟩:=I.base.slot b o e n hb hx
   have mem:b ∈ frs (envOfC qual scope s.heap.objs.size f cd::outer):=by
    show b ∈ List.filterMap _ _
    rw [List.filterMap_cons]
    exact List.mem_cons_of_mem _ hb
   obtain ⟨sl',e2⟩:=fram b _ e1 mem
   exact ⟨sl',e2⟩
  ·obtain ⟨o',e1⟩:=I.base.there b o e hx
   by_cases mem:b ∈ frs (envOfC qual scope s.heap.objs.size f cd::outer)
   ·obtain ⟨sl,e2⟩:=fram b o' e1 mem
    exact ⟨_,e2⟩
   ·exact ⟨o',here b o' e1 mem⟩
  ·refine (I.hok a u e).stay (fun b ob hb eb=>here b ob eb fun z=>?_) (fun _ z=>z) (fun _ _ z=>z)
   have:=hst b z
   rcases hb with rfl | hb
   ·rw [e] at this;cases this
   ·rw [hb] at this;cases this
 ·cases z:s.heap.get? x with
  | none=>rfl
  | some o =>
   obtain ⟨o',e1⟩:=I.base.there x o z (fun h=>nomatch h)
   have:=hm.new
   rw [e1] at this;cases this
 ·cases z:H1 x with
  | none=>rfl
  | some o =>
   obtain ⟨ob,e1⟩:=(I.hok x o z).is
   have:=hm.new
   rw [e1] at this;cases this
end
theorem zBm (X:K.In h) (c:Exc K C) : ∃ tl N nm q bs hdct sn sub ab col dd k0 k1 k2 k3 k5 mN,
  h.get? C=some (excClassObj nm q C N bs tl hdct sn sub ab col dd k0 k1 k2 k3 k5 "ValueError.__new__")/\h.Ns N mN/\mN "__init__" = none/\OwnTail h VEB tl:=by
 refine Classical.byContradiction fun ng=>?_
 have q:=c.ex
 clear c
 unfold W.excIn at q
 generalize ho:K.lookup C=o at q
 rcases o with _ | ⟨ty,dd,da,sl⟩
 ·cases q
 cases ty <;> first | (exact absurd q Bool.false_ne_true) | skip
 rename_i tn
 by_cases ht:tn = "type"
 ·subst ht
  cases da <;> first | (exact absurd q Bool.false_ne_true) | skip
  rename_i cd
  obtain ⟨nm,bs,mro,ns,qn,hdc,sn,sub,ab,col,del⟩:=cd
  cases sl with | mk l =>
  rcases mro with _ | ⟨m,bm⟩
  ·exact absurd q Bool.false_ne_true
  cases m <;> first | (exact absurd q Bool.false_ne_true) | skip
  rcases l with _ | ⟨k0,_ | ⟨k1,_ | ⟨k2,_ | ⟨k3,_ | ⟨_ | k4,l⟩⟩⟩⟩⟩ <;> first | (exact absurd q Bool.false_ne_true) | skip
  cases k4 <;> first | (exact absurd q Bool.false_ne_true) | skip
  rcases l with _ | ⟨k5,_ | ⟨k6,l⟩⟩ <;> first | (exact absurd q Bool.false_ne_true) | skip
  have q:(_ && _)=true:=q
  simp only [Bool.and_eq_true,beq_iff_eq,Bool.not_eq_true'] at q
  obtain ⟨⟨⟨⟨⟨z1,z2⟩,hdel⟩,ht⟩,hok⟩,hni⟩:=q
  subst z1 z2 hdel
  exact ng ⟨bm,ns,nm,qn,bs,hdc,sn,sub,ab,col,dd,k0,k1,k2,k3,k5,h.nsMap ns,X _ _ ho,.of_isNs (W.isNs_of_in X hok),W.nsMap_none_of_in X hok hni,W.tail_of_in X ht⟩
 ·unfold W.excIn.match_6 W.nsOkIn._sparseCasesOn_4 W.excIn._sparseCasesOn_6 at q
  dsimp only at q
  rw [dif_neg ht] at q
  cases q
def zCL (X:Cx) (E:XK):Prop:=∀ (pins:List (Addr × Obj)) (σ:St) (H:Hp) (s:Shared) (h':Heap) (x C:Addr) (args:List Value),Inv X pins σ H s->Heap.MadeExcOf s.heap h' x (.ref C) args->E (.ref C) none H->X.xe (.ref x) { s with heap:=h' }
def zFX (C:Addr) (E:XK) (t:TA):TS:=fun _ σ H=>t σ H fun vs H1=>vs.length<=sizeLine/\E (.ref C) none H1
variable {E:XK}
theorem jQ {np cpos:Pos} (tk:zCL X E) (hc:X.calm=true) (c:Exc X.K C) (hg:Gl X x) (hm:X.mg x=some (.ref C)) (ha:PA X (e::es) t)
  (hdb:(x == ("__debug__" : Str))=false:=by decide) (he:starEach (e::es) X.env=(false,eval e X.env)::starEach es X.env:=by rfl) (hpl:(backTo cpos (starEach es X.env)).any (·.1)=false:=by rfl) :
  PS X (.Raise (some (.Call (.Name x np) (e::es) [] cpos)) none pos) (zFX C E t):=by
 intro pins s σ H D I h
 obtain ⟨tl,N,nm,q,bs,hdct,sn,sub,ab,col,dd,k0,k1,k2,k3,k5,mN,hC,hN,hni,T⟩:=zBm I.ok.mod.kin c
 refine wpAny_Raise_call_subT (C:=C) (bm:=tl) (mN:=mN) (N:=N) (nm:=nm) (q:=q) (bs:=bs) (hdct:=hdct) (sn:=sn) (sub:=sub) (ab:=ab) (col:=col) (dd:=dd) (k0:=k0) (k1:=k1) (k2:=k2) (k3:=k3) (k5:=k5) PySem.F.excBase_ValueError (T.hasType PySem.F.excBase_ValueError.hasBase) (I.ok.hd hc) (by rw [he];show (false || (backTo cpos (starEach es X.env)).any (·.1))=false;rw [hpl];rfl) hni (jE I hg hm ⟨rfl,?_⟩ hdb)
 have z:=ha cpos pins s σ H _ I h
 rw [he] at z ⊢
 refine Calls.evalArgs_plain (thn z fun us s1 zq=>?_)
 obtain ⟨vs,H1,I1,r,hl,qe⟩:=zq
 have hv:us.length<=sizeLine:=by rw [<- r.length];exact hl
 exact ⟨rfl,hv,I1.bk _ _ hC,hN.keeps I1.bk,T.keeps I1.bk,fun h' y hm'=>tk pins σ H1 s1 h' y C us I1 hm' qe⟩
def zHj (P:Program) (w:World) (K:W.Frag) (mg:Str->Option Value) (base:Heap) (x:Str) (k:Nat) (ps:List Str) (sp:Sp):Prop:=
 ∃ (f:Addr) (fd:FuncData),x5 P w K mg base (CXE P w) k f fd ps sp/\mg x=some (.ref f)/\W.keepIn K (.ref f)=true/\x8 K fd ps []
def XP (X:Cx) (pins:List (Addr × Obj)) (σ:St) (E:XK) (e:Value) (s':Shared):Prop:=∃ H1 s1,Inv X pins σ H1 s1/\CXE X.prog X.w X.stack H1 s1 E e s'
def Cx.inExc (X:Cx) (x:Addr):Cx:={ X with A:=X.A.mark (some (.ref x)),calm:=false,xe:=fun _ _=>False }
section
variable {X : Cx} {pins : List (Addr × Obj)} {σ : St} {H : Hp} {s : Shared}
theorem Cx.Ok.inExc (ok:X.Ok) (x:Addr):(X.inExc x).Ok:=
 ⟨ok.mod,ok.kind,ok.glob,ok.blt,ok.above,ok.inj,ok.has,ok.cab,(fun z=>nomatch z),ok.frames,ok.stk,ok.exf,ok.bs,ok.bsz,ok.noex,ok.exfs,ok.funs,ok.frf⟩
theorem Inv.inExc (I:Inv X pins σ H s) (x:Addr):Inv (X.inExc x) pins σ H s:=⟨I.ok.inExc x,I.os,I.bare,I.base,I.loc,I.cell,I.free,I.freeC,I.pin,I.hok,I.len⟩
theorem Inv.outExc {x:Addr} (ok:X.Ok) (I:Inv (X.inExc x) pins σ H s):Inv X pins σ H s:=⟨ok,I.os,I.bare,I.base,I.loc,I.cell,I.free,I.freeC,I.pin,I.hok,I.len⟩
theorem Inv.track2 (I:Inv X pins σ H s) (f0:H a=none) (f1:a≠X.env.locals) (f3 : ∀ ob,X.s₀.heap.get? a≠some ob) (f4 : ∀ x c,X.env.cells.lookup x=some c->c≠a) (f5 : ∀ p ∈ X.pn++pins,p.1≠a)
  (new:xO X.prog X.w (upd H a o) s.heap a o):Inv X pins σ (upd H a o) s:=by
 have up : ∀ b,H b=none->b≠a->upd H a o b=none:=fun b e n=>by rw [qB n];exact e
 have st : ∀ {b u},H b=some u->upd H a o b=some u:=fun {b u} e=>by rw [qB (qT e f0)];exact e
 refine ⟨I.ok,I.os,I.bare,⟨I.base.keep,I.base.slot,fun b ob e n hx=>up b (I.base.free b ob e n hx) (fun z=>f3 ob (z ▸ e)),I.base.there,fun b xs e=>st (I.base.tups b xs e),fun b ob u e=>st (I.base.frzs b ob u e),fun b ps e=>?_⟩,I.loc,I.cell,up _ I.free (Ne.symm f1),fun x c e=>up c (I.freeC x c e) (f4 x c e),fun p hp=>?_,I.hok.track f0 new,I.len⟩
 ·obtain ⟨m,q⟩:=I.base.tbls b ps e
  exact ⟨m,st q⟩
 ·obtain ⟨e,n,r⟩:=I.pin p hp
  exact ⟨e,up _ n (f5 p hp),r⟩
theorem Inv.renamed {m':Str->Option Value} {t':Nat} (I:Inv X pins σ H s) (hs:Heap.SameBut X.env.locals s.heap h') (hn:h'.Ns X.env.locals m'):Inv X pins (List.replicate σ.length none) H { s with heap:=h',toks:=t' }:=by
 have ne0 : ∀ b o,X.s₀.heap.get? b=some o->b≠X.env.locals:=fun b o e=>ne_of_lt (lt_of_lt_of_le (Heap.lt_size e) I.ok.above)
 have at' : ∀ b o,b≠X.env.locals->s.heap.get? b=some o->h'.get? b=some o:=fun b o n e=>(hs.2 b n).trans e
 refine ⟨I.ok,I.os,I.bare,⟨fun b o e n hb hx=>at' b o (ne0 b o e) (I.base.keep b o e n hb hx),fun b o e n hb hx=>?_,I.base.free,fun b o e hx=>?_,I.base.tups,I.base.frzs,I.base.tbls⟩,⟨m',hn,fun i x v _ e _=>?_⟩,fun x c e=>?_,I.free,I.freeC,fun p hp=>?_,fun a u e=>?_,?_⟩
 ·obtain ⟨sl,e1⟩:=I.base.slot b o e n hb hx
  exact ⟨sl,at' b _ (ne0 b o e) e1⟩
 ·obtain ⟨o',e1⟩:=I.base.there b o e hx
  exact ⟨o',at' b o' (ne0 b o e) e1⟩
 ·rw [List.getElem?_replicate] at e
  split at e <;> simp at e
 ·obtain ⟨v,o,ho,hd⟩:=I.cell x c e
  exact ⟨v,o,at' c o (I.cne x c e) ho,hd⟩
 ·obtain ⟨e,n,ne,r⟩:=I.pin p hp
  exact ⟨at' _ _ ne e,n,ne,r⟩
 ·refine (I.hok a u e).stay (fun b ob hb eb=>at' b ob (fun z=>?_) eb) (fun _ z=>z) (fun _ _ z=>z)
  have:=I.free
  rw [<- z] at this
  rcases hb with rfl | hb
  ·rw [e] at this;cases this
  ·rw [hb] at this;cases this
 ·rw [length_replicate];exact I.len
end
section
variable {X : Cx} {H : Hp} {Q : VK} {K : W.Frag}
theorem Fun.okX {base:Heap} {qual:Str} {st:Stmt} {f:Addr} {N:List Str} (F:Fun K x qual st f fd) (S:zO N ps (zH st)) (len : ∀ vs H Q E,sp vs H Q E->vs.length=ps.length)
  (hbody : ∀ (cdv:Value) (A:Around) (outer:List Env) (s:Shared) (H:Hp) (vs:List V) (Q:VK) (E:XK),xn k (A.deeper (envOfC qual (zH st) s.heap.objs.size f cdv))->sp vs H Q E ->
   zCL (Zy (CXE P w) P w K mg base N qual (zH st) f cdv A outer s H E) E -> ∃ t,PSs (Zy (CXE P w) P w K mg base N qual (zH st) f cdv A outer s H E) (z7 st) t/\t { nx:=fun _ H'=>Q .non H',rt:=Q } (start N vs) H):x5 P w K mg base (CXE P w) (k+1) f fd ps sp:=by
 obtain ⟨oc,od,kV,doc,pm,an,cdv,ct,osl,rfl,lk,hcd⟩:=F.ex
 exact zBG lk hcd S len fun A outer s H vs Q E hr hsp=>hbody cdv A outer s H vs Q E hr hsp fun pins σ H s h' x C args I hm q=>Xs I hm q
theorem x5.calm {base:Heap} {f:Addr} (F:x5 P w K mg base (CXE P w) k f fd ps sp):x5 P w K mg base CX0 k f fd ps (fun vs H Q _=>sp vs H Q E0):=
 ⟨fun vs H Q _ h=>F.len vs H Q E0 h,fun A outer s H args us vs Q _ hr he hb hv hs=>codeAny_mono (F.run A outer s H args us vs Q E0 hr he hb hv hs) fun r s' hq=>by
  cases r with
  | ok fl=>cases fl <;> exact hq
  | error e =>
   obtain ⟨_,_,_,_,_,_,_,_,_,_,_,_,z⟩:=hq
   exact z.elim⟩
end
section
variable {X : Cx} {H : Hp} {Q : VK} {K : W.Frag} {σ : St} {pos p1 p2 : Pos} {n1 n2 : Nat} {a b : Int}
def zJ1 (p:Addr):HO:=.ext (W.KitAt p "dict")
inductive Odd (H:Hp):V->Prop where
 | non:Odd H .non
 | bl (b:Bool):Odd H (.bl b)
 | str (x:Str):Odd H (.str x)
 | lst {p:Addr} {xs:List V} (e:H p=some (.lst xs)):Odd H (.ref p)
 | tup {p:Addr} {xs:List V} (e:H p=some (.tup xs)):Odd H (.ref p)
 | dct {p:Addr} (e:H p=some (zJ1 p)):Odd H (.ref p)
theorem Odd.same {v:V} (h:Odd H v) (g:zT H H'):Odd H' v:=by
 cases h with
 | non=>exact .non
 | bl b=>exact .bl b
 | str x=>exact .str x
 | lst e=>exact .lst (g _ _ e)
 | tup e=>exact .tup (g _ _ e)
 | dct e=>exact .dct (g _ _ e)
def K9 (K:W.Frag):List V->Hp->VK->Prop:=fun xs H Q=>zDR K xs H Q \/ ∃ p T b,xs=[.ref p,.ty T]/\H p=some (zJ1 p)/\W.kitOne K (.type "dict") (.type T)=some b/\Q (.bl b) H
theorem zBg {i:Bool} {T:String} {b:Bool} (e:W.kitOne K (.type "bool") (.type T)=some b) (q:Q (.bl b) H):K9 K [.bl i,.ty T] H Q:=.inl (kZ (.bl i) ⟨_,.inl rfl⟩ e q)
theorem zAx {T:String} {b:Bool} (e:W.kitOne K (.type "str") (.type T)=some b) (q:Q (.bl b) H):K9 K [.str x,.ty T] H Q:=.inl (kZ (.str x) ⟨_,.inl rfl⟩ e q)
theorem zBM {T:String} {b:Bool} (e:W.kitOne K (.type "NoneType") (.type T)=some b) (q:Q (.bl b) H):K9 K [.non,.ty T] H Q:=.inl (kZ .non ⟨_,.inl rfl⟩ e q)
theorem zBE {p:Addr} {T:String} {b:Bool} (h:H p=some (.lst xs)) (e:W.kitOne K (.type "list") (.type T)=some b) (q:Q (.bl b) H):K9 K [.ref p,.ty T] H Q:=.inl (kZ (.lst h) ⟨_,.inl rfl⟩ e q)
theorem zBA {p:Addr} {T:String} {b:Bool} (h:H p=some (.tup xs)) (e:W.kitOne K (.type "tuple") (.type T)=some b) (q:Q (.bl b) H):K9 K [.ref p,.ty T] H Q:=.inl (kZ (.tup h) ⟨_,.inl rfl⟩ e q)
theorem zAa {p:Addr} {T:String} {b:Bool} (h:H p=some (zJ1 p)) (e:W.kitOne K (.type "dict") (.type T)=some b) (q:Q (.bl b) H):K9 K [.ref p,.ty T] H Q:=.inr ⟨p,T,b,rfl,h,e,q⟩
theorem Odd.int {v:V} (h:Odd H v) (q1:Q (.bl true) H) (q0:Q (.bl false) H):K9 K [v,.ty "int"] H Q:=by
 cases h with
 | non=>exact zBM (JT K) q0
 | bl b=>exact zBg (Qw K) q1
 | str x=>exact zAx (Wi K) q0
 | lst e=>exact zBE e (Vv K) q0
 | tup e=>exact zBA e (Yo K) q0
 | dct e=>exact zAa e (KR K) q0
theorem zC5 {D:QQ} (h:t σ H fun vs H1=>vs.length<=sizeLine/\E (.ref C) none H1):zFX C E t D σ H:=h
theorem Yn:bootBuiltins "ValueError" = some (.type "ValueError"):=by decide +kernel
def spc (sp:Sp):Sp:=fun vs H Q _=>sp vs H Q E0
def Nm (K:W.Frag) (x:Str) (C:Addr):Prop:=W.nsIn K mainGlobals x=some (some (.ref C))
theorem Nm.eq {C':Addr} (h:Nm K x C) (h':Nm K x C'):C=C':=by
 have:=h.symm.trans h'
 cases this;rfl
variable {env:Env}
theorem xA {c:Const}:starEach (.Constant c n p::es) env=(false,eval (.Constant c n p) env)::starEach es env:=rfl
theorem zt:starEach (.Name x p::es) env=(false,eval (.Name x p) env)::starEach es env:=rfl
theorem Y7 {es':List Expr}:starEach (.Tuple es' k p::es) env=(false,eval (.Tuple es' k p) env)::starEach es env:=rfl
theorem zFn {es':List Expr}:starEach (.List es' p::es) env=(false,eval (.List es' p) env)::starEach es env:=rfl
theorem ko {a b:Expr}:starEach (.Subscript a b p::es) env=(false,eval (.Subscript a b p) env)::starEach es env:=rfl
theorem zAp {a:Expr} {os:List CmpOp} {bs:List Expr}:starEach (.Compare a os bs p::es) env=(false,eval (.Compare a os bs p) env)::starEach es env:=rfl
theorem zJf {T:String} {r:V->List V->Hp->VK->Prop} {to:TE} (h:to σ H fun x H1=>tyV K T x H1/\t σ H1 fun xs H2=>r x xs H2 Q):tBM K T r to t σ H Q:=h
theorem zFN {p:Addr} {R:Prop} (h:SqL K H p xs) (q:R):tyV K "list" (.ref p) H/\R:=⟨.inl ⟨rfl,_,h⟩,q⟩
theorem Je {y:V} (h:H l=some (.lst xs)) (h2:xs.length < sizeLine) (q:Q .non (upd H l (.lst (xs++[y])))):Ym (.ref l) [y] H Q:=⟨l,xs,y,rfl,rfl,h,h2,q⟩
def SB (r:Addr) (H F:Hp):Prop:=∀ b o,b≠r->H b=some o->F b=some o
variable {r:Addr} {F:Hp}
theorem SB.put (h:SB r H F):SB r H (upd F r o):=fun b u n e=>by rw [qB n];exact h b u n e
theorem SB.then {G:Hp} (h:SB r H F) (g:zT F G):SB r H G:=fun b u n e=>g _ _ (h b u n e)
theorem SB.refl:SB r H H:=fun _ _ _ e=>e
theorem SB.same (h:SB r H F) (n:H r=none):zT H F:=fun b o e=>h b o (qT e n) e
end
section
variable {X : Cx} {H : Hp} {Q : VK} {K : W.Frag}
def zDc:R2:=fun x y H Q=>∃ i j:Str,x = .str i/\y = .str j/\i.length+j.length<=sizeLine/\Q (.str (i++j)) H
theorem jH:OpR X (binaryOp .Add) zDc:=zA5
theorem zHm {i j:Str} (hz:i.length+j.length<=sizeLine) (q:Q (.str (i++j)) H):zDc (.str i) (.str j) H Q:=⟨i,j,rfl,rfl,hz,q⟩
variable {z:Str}
theorem zIR {c:Nat} (hz:z.length<=sizeLine) (e:atI z.cps.toList i=some c) (q:Q (.str ⟨#[c]⟩) H):zFV (.str z) (.int i) H Q:=⟨z,i,c,rfl,rfl,hz,e,q⟩
def zEO:List V->Hp->VK->Prop:=fun xs H Q=>∃ z:Str,xs=[.str z]/\z.length<=sizeLine/\Q (.int z.length) H
theorem zr:yQ X (.builtin "len") zEO:=Kq
theorem zIV (hz:z.length<=sizeLine) (q:Q (.int z.length) H):zEO [.str z] H Q:=⟨z,rfl,hz,q⟩
def zJu:R2:=fun x y H Q=>∃ i j:Str,x = .str i/\y = .str j/\Q (.bl (!(Builtin.Str.occurrences j i 0 j.length 1).isEmpty)) H
theorem W5:OpR X (compareOp .In) zJu:=zCT
theorem zJG {i j:Str} (q:Q (.bl (!(Builtin.Str.occurrences j i 0 j.length 1).isEmpty)) H):zJu (.str i) (.str j) H Q:=⟨i,j,rfl,rfl,q⟩
theorem zEu {i j:Str} (q:Q (.bl (decide (i=j))) H):rEq (.str i) (.str j) H Q:=zBK rfl q
theorem zDp (q:Q (.bl true) H):zDR K [.str x,.ty "str"] H Q:=kZ (.str x) ⟨_,.inl rfl⟩ (We K) q
def zDW:V->Option Int->Option Int->Hp->VK->Prop:=fun x lo hi H Q=>∃ z:Str,x = .str z/\z.length<=sizeLine/\Q (.str (Txt.slice z lo hi)) H
theorem jL:SlR X zDW:=by
 intro pins s σ H x v vl vu lo hi sl Q I rx hs pl pu h
 obtain ⟨z,rfl,hz,q⟩:=h
 obtain ⟨t,rfl⟩:=rx
 refine ⟨"str", _,PySem.F.slot_str_getitem.lookup,typeIs_str _ _ _,?_⟩
 have fin : ∀ (t':Tok) (k:Nat),EP X pins σ Q (.str (Txt.slice z lo hi) t') { s with toks:=k }:=fun t' k=>⟨.str _,H,I.tok _,⟨t',rfl⟩,q⟩
 have le:=le_trans (Txt.slice_le z lo hi) hz
 cases pl <;> cases pu
 ·exact wpAny_getItem_str_slice (l:=none) (u:=none) (st:=none) hs rfl (post_val_or_str ⟨le,fin⟩)
 ·exact wpAny_getItem_str_slice (l:=none) (u:=some (_,_)) (st:=none) hs rfl (post_val_or_str ⟨le,fin⟩)
 ·exact wpAny_getItem_str_slice (l:=some (_,_)) (u:=none) (st:=none) hs rfl (post_val_or_str ⟨le,fin⟩)
 ·exact wpAny_getItem_str_slice (l:=some (_,_)) (u:=some (_,_)) (st:=none) hs rfl (post_val_or_str ⟨le,fin⟩)
theorem zEk {lo hi:Option Int} (hz:z.length<=sizeLine) (q:Q (.str (Txt.slice z lo hi)) H):zDW (.str z) lo hi H Q:=⟨z,rfl,hz,q⟩
end
abbrev Lt (x:Str):List Nat:=x.cps.toList
def T (l:List Nat):Str:=⟨l.toArray⟩
theorem VP (l:List Nat):Lt (T l)=l:=rfl
theorem zHG (x:Str):T (Lt x)=x:=by cases x;simp [T,Lt]
variable {y:Str}
theorem X4 (h:Lt x=Lt y):x=y:=by rw [<- zHG x,<- zHG y,h]
theorem zKU {a b:List Nat}:T a=T b↔a=b:=⟨fun h=>by have:=congrArg Lt h;rwa [VP,VP] at this,fun h=>by rw [h]⟩
theorem zIx (x:Str):x.length=(Lt x).length:=rfl
theorem zKW (x y:Str):x++y=T (Lt x++Lt y):=X4 (by rw [VP];show (x.cps++y.cps).toList=_;simp)
theorem yc {a b:List Nat} {i:Nat} (h:i < a.length):(a++b).getD i 0=a.getD i 0:=by
 rw [getD_eq_getElem?_getD,getD_eq_getElem?_getD,List.getElem?_append_left h]
theorem Kl {a b:List Nat} {i:Nat} (h:a.length<=i):(a++b).getD i 0=b.getD (i - a.length) 0:=by
 rw [getD_eq_getElem?_getD,getD_eq_getElem?_getD,List.getElem?_append_right h]
theorem zCM (l:List Nat) (a:Nat) : ∀ m:Nat,(List.range m).filterMap (fun k=>l[a+k]?)=(l.drop a).take m
 | 0=>by simp
 | m+1=>by
  rw [List.range_succ,List.filterMap_append,zCM l a m,List.take_succ]
  congr 1
  rw [List.getElem?_drop]
  rw [List.filterMap_cons]
  cases l[a+m]? <;> rfl
def cl (n d:Nat):Option Int->Nat
 | none=>d
 | some i=>(max 0 (min (if i < 0 then i+n else i) (n:Int))).toNat
theorem VD (z:Str) (lo hi:Option Int):Txt.slice z lo hi=T (((Lt z).take (cl (Lt z).length (Lt z).length hi)).drop (cl (Lt z).length 0 lo)):=by
 have e:Builtin.Str.strSliceIndices lo hi 1 z.length=(List.range (cl (Lt z).length (Lt z).length hi - cl (Lt z).length 0 lo)).map (fun x=>cl (Lt z).length 0 lo+x):=by
  rw [<- sliceRange_one]
  unfold Builtin.Str.strSliceIndices
  cases lo <;> cases hi <;> simp [cl,zIx,Int.toNat_of_nonneg,Int.le_max_left]
 have k:(List.filterMap (fun x=>z.cps[x]?) (Builtin.Str.strSliceIndices lo hi 1 z.length))=((Lt z).take (cl (Lt z).length (Lt z).length hi)).drop (cl (Lt z).length 0 lo):=by
  rw [e,List.filterMap_map]
  have f:((fun x=>z.cps[x]?) ∘ fun x=>cl (Lt z).length 0 lo+x)=fun k=>(Lt z)[cl (Lt z).length 0 lo+k]?:=by funext k;simp [Lt]
  rw [f,zCM,List.drop_take]
 unfold Txt.slice
 split
 ·rename_i h
  have hl:(Builtin.Str.strSliceIndices lo hi 1 z.length).length=(Lt z).length:=(by simpa using h:_=z.length)
  rw [e,length_map,List.length_range] at hl
  have b1:cl (Lt z).length (Lt z).length hi<=(Lt z).length:=by
   unfold cl;split <;> omega
  rcases eq_zero_or_pos (Lt z).length with p | p
  ·rw [eq_nil_of_length_eq_zero p];simp
   exact X4 (eq_nil_of_length_eq_zero p)
  ·rw [show cl (Lt z).length 0 lo=0 by omega,show cl (Lt z).length (Lt z).length hi=(Lt z).length by omega,take_length,drop_zero,zHG]
 ·rw [k];rfl
section
variable {X : Cx} {H : Hp} {Q : VK} {K : W.Frag}
theorem zFZ (hz:(Lt x).length+(Lt y).length<=16777216) (q:Q (.str (T (Lt x++Lt y))) H):zDc (.str x) (.str y) H Q:=zHm hz (by rw [zKW];exact q)
variable {z:Str}
theorem zFH (hz:(Lt z).length<=16777216) (q:Q (.int (Lt z).length) H):zEO [.str z] H Q:=zIV hz q
theorem zEC (hz:(Lt z).length<=16777216) (h0:0<=i) (h1:i < (Lt z).length) (q:Q (.str (T [(Lt z).getD i.toNat 0])) H):zFV (.str z) (.int i) H Q:=by
 refine zIR (c:=(Lt z).getD i.toNat 0) hz ?_ q
 unfold atI ixN
 rw [if_pos h0,if_pos h1]
 show (Lt z)[i.toNat]? = _
 rw [getD_eq_getElem?_getD,getElem?_eq_getElem (by omega)];rfl
theorem zCK (n:Nat) (hn:(Lt z).length=n) (hz:n<=16777216) (h0:0<=i) (h1:i < n) (q : ∀ c,c ∈ Lt z->Q (.str (T [c])) H):zFV (.str z) (.int i) H Q:=by
 refine zEC (by omega) h0 (by omega) (q _ ?_)
 rw [getD_eq_getElem?_getD,getElem?_eq_getElem (by omega)]
 exact getElem_mem _
theorem zJl (hz:(Lt z).length<=16777216) (h1:0 < (Lt z).length) (q:Q (.str (T [(Lt z).getD ((Lt z).length - 1) 0])) H):zFV (.str z) (.int (-1)) H Q:=by
 refine zIR (c:=(Lt z).getD ((Lt z).length - 1) 0) hz ?_ q
 unfold atI ixN
 rw [if_neg (show ¬ (0:Int) <= -1 by decide),if_pos (show -((Lt z).length:Int) <= -1 by omega)]
 show (Lt z)[((-1:Int)+(Lt z).length).toNat]? = _
 rw [show ((-1:Int)+(Lt z).length).toNat=(Lt z).length - 1 by omega,getD_eq_getElem?_getD,getElem?_eq_getElem (by omega)];rfl
theorem zJB (hz:(Lt z).length<=16777216) (h:0<=j) (q:Q (.str (T ((Lt z).take j.toNat))) H):zDW (.str z) none (some j) H Q:=by
 refine zEk hz ?_
 rw [VD]
 have e:(Lt z).take (cl (Lt z).length (Lt z).length (some j))=(Lt z).take j.toNat:=by
  unfold cl;dsimp only;rw [if_neg (by omega)]
  rcases Int.le_total j (Lt z).length with p | p
  ·rw [Int.min_eq_left p,max_eq_right h]
  ·rw [Int.min_eq_right p,max_eq_right (by omega),take_of_length_le (by omega),take_of_length_le (by omega)]
 rw [e];exact q
theorem zDC (l:List Nat) (h:0<=i) (n d:Nat) (hn:l.length<=n):l.drop (cl n d (some i))=l.drop i.toNat:=by
 unfold cl;dsimp only;rw [if_neg (by omega)]
 rcases Int.le_total i n with p | p
 ·rw [Int.min_eq_left p,max_eq_right h]
 ·rw [Int.min_eq_right p,max_eq_right (by omega),drop_of_length_le (by omega),drop_of_length_le (by omega)]
theorem zHT (l:List Nat) (h:0<=i) (d:Nat):l.take (cl l.length d (some i))=l.take i.toNat:=by
 unfold cl;dsimp only;rw [if_neg (by omega)]
 rcases Int.le_total i l.length with p | p
 ·rw [Int.min_eq_left p,max_eq_right h]
 ·rw [Int.min_eq_right p,max_eq_right (by omega),take_of_length_le (by omega),take_of_length_le (by omega)]
theorem zHt (hz:(Lt z).length<=16777216) (h:0<=i) (q:Q (.str (T ((Lt z).drop i.toNat))) H):zDW (.str z) (some i) none H Q:=by
 refine zEk hz ?_
 rw [VD,zDC _ h _ _ (by rw [length_take];omega)]
 show Q (.str (T (((Lt z).take (Lt z).length).drop i.toNat))) H
 rw [take_length];exact q
theorem zGN (hz:(Lt z).length<=16777216) (h:0<=i) (h':0<=j) (q:Q (.str (T (((Lt z).take j.toNat).drop i.toNat))) H):zDW (.str z) (some i) (some j) H Q:=by
 refine zEk hz ?_
 rw [VD,zDC _ h _ _ (by rw [length_take];omega),zHT _ h']
 exact q
def zGu:R2:=fun x y H Q=>∃ (z:Str) (n:Int),x = .str z/\y = .int n/\n < 16777216 /\ -16777216 < n/\(Lt z).length*n.toNat<=16777216/\Q (.str (T (List.replicate n.toNat (Lt z)).flatten)) H
theorem Kk : ∀ (xs:List (Array Nat)) (a:Array Nat),(xs.foldl (fun x1 x2=>x1++x2) a).toList=a.toList++(xs.map Array.toList).flatten
 | [],a=>by simp
 | x::xs,a=>by rw [foldl_cons,Kk xs];simp
theorem zKl (z:Str) (n:Int):Txt.mul z n=T (List.replicate n.toNat (Lt z)).flatten:=by
 unfold Txt.mul
 split
 ·rw [show n.toNat=0 by omega];rfl
 ·split
  ·rename_i h1 h2
   rw [Bool.or_eq_true] at h2
   rcases h2 with h | h
   ·have:n=1:=by simpa using h
    subst this
    show z=T ([Lt z].flatten)
    simp [zHG]
   ·have e:(Lt z).length=0:=(by simpa using h:z.length=0)
    have e':Lt z=[]:=eq_nil_of_length_eq_zero e
    refine X4 ?_
    rw [VP,e']
    simp
  ·refine X4 ?_
   show (List.foldl (fun x1 x2=>x1++x2) #[] (List.replicate n.toNat z.cps)).toList=_
   rw [Kk,List.map_replicate,VP]
   simp
theorem zDD:OpR X (binaryOp .Mult) zGu:=by
 intro pins s σ H x y v u Q I rx ry h
 obtain ⟨z,n,rfl,rfl,h1,h2,h3,q⟩:=h
 obtain ⟨t,rfl⟩:=rx
 obtain ⟨t',rfl⟩:=ry
 refine SB.mul ⟨?_,fun h4 _=>?_,fun _ _=>?_⟩ fun t' k=>⟨.str _,H,I.tok _,⟨t',rfl⟩,by rw [zKl];exact q⟩
 ·rw [decide_eq_false (by omega),decide_eq_false (by omega)];rfl
 ·have e:((Lt z).length:Int)*n<=16777216:=by
   have:=Int.ofNat_le.mpr h3
   rw [Int.natCast_mul,Int.toNat_of_nonneg (by omega)] at this;exact this
  intro h5
  have h6:=Int.mul_le_of_le_ediv (c:=n) (by omega) (Int.le_refl ((2 ^ 63 - 1) / n))
  have h7:((2:Int) ^ 63 - 1) / n+1<=(Lt z).length:=h5
  have h8:=Int.mul_le_mul_of_nonneg_right h7 (show 0<=n by omega)
  have h9:=Int.lt_ediv_add_one_mul_self ((2:Int) ^ 63 - 1) (show 0 < n by omega)
  omega
 ·unfold Builtin.Str.tooLong
  exact decide_eq_false (by show ¬ (Lt z).length*n.toNat > 16777216;omega)
theorem zCl {c:Nat} {n:Int} (h1:n < 16777216) (h2 : -16777216 < n) (q:Q (.str (T (List.replicate n.toNat c))) H):zGu (.str (T [c])) (.int n) H Q:=
 ⟨T [c],n,rfl,rfl,h1,h2,by rw [VP,length_singleton,Nat.one_mul];omega,by rw [VP,List.flatten_replicate_singleton];exact q⟩
theorem zCF {i j:Str} (q:Q (.bl (!decide (i=j))) H):rNe (.str i) (.str j) H Q:=⟨rfl,by
 have e:decide (V.str i=V.str j)=decide (i=j):=by
  by_cases h:i=j
  ·rw [decide_eq_true h,decide_eq_true (congrArg V.str h)]
  ·rw [decide_eq_false h,decide_eq_false (fun z=>h (V.str.inj z))]
 rw [e];exact q⟩
theorem zF5 {a b:List Nat} (hz:a.length+b.length<=16777216) (q:Q (.str (T (a++b))) H):zDc (.str (T a)) (.str (T b)) H Q:=zFZ hz q
theorem zFe {a:List Nat} (hz:a.length<=16777216) (q:Q (.int a.length) H):zEO [.str (T a)] H Q:=zFH hz q
theorem zJk {a:List Nat} (hz:a.length<=16777216) (h0:0<=i) (h1:i < a.length) (q:Q (.str (T [a.getD i.toNat 0])) H):zFV (.str (T a)) (.int i) H Q:=zEC hz h0 h1 q
theorem zG6 {a:List Nat} (hz:a.length<=16777216) (h1:0 < a.length) (q:Q (.str (T [a.getD (a.length - 1) 0])) H):zFV (.str (T a)) (.int (-1)) H Q:=zJl hz h1 q
theorem zFp {a:List Nat} (hz:a.length<=16777216) (h:0<=j) (q:Q (.str (T (a.take j.toNat))) H):zDW (.str (T a)) none (some j) H Q:=zJB hz h q
theorem zHU {a:List Nat} (hz:a.length<=16777216) (h:0<=i) (q:Q (.str (T (a.drop i.toNat))) H):zDW (.str (T a)) (some i) none H Q:=zHt hz h q
theorem zDz {a:List Nat} (hz:a.length<=16777216) (h:0<=i) (h':0<=j) (q:Q (.str (T ((a.take j.toNat).drop i.toNat))) H):zDW (.str (T a)) (some i) (some j) H Q:=zGN hz h h' q
theorem zEv {a b:List Nat} (q:Q (.bl (decide (a=b))) H):rEq (.str (T a)) (.str (T b)) H Q:=zEu (by
 have e:decide (T a=T b)=decide (a=b):=decide_eq_decide.mpr zKU
 rw [e];exact q)
theorem zFS {a b:List Nat} (q:Q (.bl (!decide (a=b))) H):rNe (.str (T a)) (.str (T b)) H Q:=zCF (by
 have e:decide (T a=T b)=decide (a=b):=decide_eq_decide.mpr zKU
 rw [e];exact q)
theorem zGU (h:decide (x=y)=b) (q:Q (.bl (!b)) H):rNe (.str x) (.str y) H Q:=zCF (by rw [h];exact q)
theorem xR {p:Addr} (h:SqL K H p xs) (h0:0<=i) (h1:i < xs.length) (q : ∀ x,xs[i.toNat]? = some x->Q x H):zD0 K (.ref p) (.int i) H Q:=by
 have h2:i.toNat < xs.length:=by omega
 have e:atI xs ((i.toNat:Nat):Int)=some xs[i.toNat]:=zGQ (getElem?_eq_getElem h2)
 rw [show ((i.toNat:Nat):Int)=i by omega] at e
 exact zF7 h e (q _ (getElem?_eq_getElem h2))
def zCX:V->List V->Hp->VK->Prop:=fun x xs H Q=>∃ z y:Str,x = .str z/\xs=[.str y]/\Q (.int (Txt.find z y)) H
theorem zDq:MtR X "str.find" zCX:=by
 intro pins s σ H x xs v us Q I rx rv h
 obtain ⟨z,y,rfl,rfl,q⟩:=h
 obtain ⟨t,rfl⟩:=rx
 obtain ⟨u,rfl,ru⟩:=rv.one
 obtain ⟨t',rfl⟩:=ru
 exact SC.find ⟨.int _,H,I.tok _,⟨_,rfl⟩,q⟩
theorem zCt (q:Q (.int (Txt.find z y)) H):zCX (.str z) [.str y] H Q:=⟨z,y,rfl,rfl,q⟩
theorem zKv {R:Prop} (q:R):tyV K "str" (.str z) H/\R:=⟨rfl,q⟩
end
def Its (x:Str):It:=⟨fun i _=>i < (Lt x).length,fun i H v H'=>H'=H /\ ∃ c,(Lt x)[i]? = some c/\v = .str (T [c]),fun i _=>i=(Lt x).length⟩
theorem zEA {K:PySem.W.Frag} {tg:Expr} (x:Str) (t:Tok) (it:Addr) (ty:String) (hty:ty = "str_ascii_iterator" \/ ty = "str_iterator"):zGe P w K tg (Its x) [it] it (fun i h=>h.IsStrIter it ty x t i) where
 mem:=by simp
 obj:=fun i h st b hb=>by
  have e:b=it:=by simpa using hb
  subst e
  obtain ⟨o,e,c,d⟩:=st
  exact ⟨o,e,fun v z=>by rw [d] at z;cases z⟩
 keep:=fun i h h' st k=>by
  obtain ⟨o,e,c,d⟩:=st
  exact ⟨o,k it (by simp) o e,c,d⟩
 item:=by
  intro X hP hw hK hc i pins s σ H E I hf st hg
  subst hP hw hK
  obtain ⟨f0,f1,f2,f3,f4,f5⟩:=hf it (by simp)
  have W:Walks X.prog X.w X.A it [it] [it] x.cps.size (SignAt x) (fun i h=>h.IsStrIter it ty x t i):=by
   rcases hty with rfl | rfl
   ·exact Walks.strAscii (I.ok.hd hc) it x t
   ·exact Walks.strWide (I.ok.hd hc) it x t
  refine W.item i s _ _ hg st fun v h' tk hv st' kk=>?_
  obtain ⟨c,u,hcu,rfl⟩:=hv
  have I1:Inv X pins σ H { s with heap:=h',toks:=tk }:=I.turned (fun b o hb e=>kk b o (by simpa using hb) e) f0 f1 f3 f4 f5
  obtain ⟨o,e,c1,d⟩:=id st'
  have hn:["enumerate", "zip", "dict_itemiterator", "dict_reverseitemiterator", "odict_iterator", "itertools.zip_longest", "itertools.pairwise"].contains ty=false:=by rcases hty with rfl | rfl <;> decide
  exact ⟨_,rfl,zBo (s:={ s with heap:=h',toks:=tk }) e c1 d hn ⟨.str (T [c]),H,I1,⟨u,rfl⟩,⟨rfl,c,by simpa [Lt] using hcu,rfl⟩,st',fun b hb=>(hf b hb).1⟩⟩
 done:=by
  intro X hP hw hK hc i pins s σ H E I hf st hg
  subst hP hw hK
  obtain ⟨f0,f1,f2,f3,f4,f5⟩:=hf it (by simp)
  have W:Walks X.prog X.w X.A it [it] [it] x.cps.size (SignAt x) (fun i h=>h.IsStrIter it ty x t i):=by
   rcases hty with rfl | rfl
   ·exact Walks.strAscii (I.ok.hd hc) it x t
   ·exact Walks.strWide (I.ok.hd hc) it x t
  have hi:i=x.cps.size:=hg
  subst hi
  exact W.done s _ _ st fun h' tk kk=>⟨rfl,I.turned (fun b o hb e=>kk b o (by simpa using hb) e) f0 f1 f3 f4 f5⟩
 self:=fun _ _ _ _ _ st h=>by
  rcases hty with rfl | rfl
  ·exact wpAny_pyIter_striter_ascii st h
  ·exact wpAny_pyIter_striter_wide st h
section
variable {X : Cx} {tg : Expr}
def zKB (tl:TE):TI:=fun σ H R=>tl σ H fun x H1=>∃ z:Str,x = .str z/\R (Its z) H1
theorem zCA {l:Expr} {tl:TE} (hl:PE X l tl):PI X tg l (zKB tl):=by
 intro pins s σ H R I h
 refine thn (hl pins s σ H _ I h) fun v s1 zq=>?_
 obtain ⟨x,H1,I1,r1,q1⟩:=zq
 obtain ⟨z,e,q⟩:=q1
 subst e
 obtain ⟨t,rfl⟩:=r1
 have hty:strIterType z = "str_ascii_iterator" \/ strIterType z = "str_iterator" := by unfold strIterType;split <;> simp
 refine wpAny_pyIter_strU ?_
 refine ⟨s1.heap.objs.size,[s1.heap.objs.size],_,_,H1,rfl,I1.kept (t':=s1.toks) fun b o e=>Heap.get?_push_of_some _ e,zEA z t _ _ hty,⟨_,Heap.get?_push_size _ rfl,rfl,rfl⟩,fun b hb=>?_,q⟩
 have e:b=s1.heap.objs.size:=by simpa using hb
 subst e
 exact I1.fpOk (Nat.le_refl _) (I1.hok.fresh (Nat.le_refl _))
end
section
variable {σ : St} {H : Hp} {Q : VK} {D : QQ} {K : W.Frag}
def zHy (g:TG) (tb:TS) (D:QQ) (σ:St) (x:V) (H:Hp):Prop:=∃ z:Str,x = .str z /\ ∃ W:Nat->Nat->St->Hp->Prop,(∃ m,W 0 m σ H) /\ ∀ i m σ H,W i m σ H ->
 ((Its z).stop i H/\D.nx σ H)\/((Its z).go i H /\ ∃ N:St->Hp->Prop,(∀ σ' H',N σ' H' -> ∃ m',m' < m/\W (i+1) m' σ' H') /\ ∀ x H',(Its z).yld i H x H'->g x σ H' fun σ2 H2=>tb { D with nx:=N,ct:=N,bk:=D.nx } σ2 H2)
theorem zIv {tl:TE} {g:TG} {tb:TS} (h:tl σ H (zHy g tb D σ)):zGO (zKB tl) g tb D σ H:=h
theorem zGh {g:TG} {tb:TS} {a:List Nat} (Pv:Nat->St->Hp->Prop) (h0:Pv 0 σ H)
  (hs : ∀ i c σ H,a[i]? = some c->Pv i σ H->g (.str (T [c])) σ H fun σ2 H2=>tb { D with nx:=Pv (i+1),ct:=Pv (i+1),bk:=D.nx } σ2 H2) (hd : ∀ σ H,Pv a.length σ H->D.nx σ H):zHy g tb D σ (.str (T a)) H:=by
 refine ⟨T a,rfl,fun i m σ H=>i+m=a.length/\Pv i σ H,⟨a.length,by omega,h0⟩,?_⟩
 rintro i m σ H ⟨hm,hp⟩
 rcases lt_or_ge i a.length with h | h
 ·refine .inr ⟨h,Pv (i+1),fun σ' H' hp'=>⟨m - 1,by omega,by omega,hp'⟩,?_⟩
  rintro x H' ⟨rfl,c,hc,rfl⟩
  exact hs i c σ H' hc hp
 ·have e:i=a.length:=by omega
  subst e
  exact .inl ⟨rfl,hd σ H hp⟩
end
def fv (c:Nat):Int:=if 48<=c/\c<=57 then (c:Int) - 48 else if 97<=c/\c<=102 then (c:Int) - 87 else -1
theorem zDU : ∀ c ∈ List.range 127,Txt.find "0123456789abcdef" (T [c])=fv c:=by decide +kernel
theorem zFv {c:Nat} (h:c < 127):Txt.find "0123456789abcdef" (T [c])=fv c:=zDU c (List.mem_range.mpr h)
def fc (d:Nat):Nat:=(Lt "0123456789abcdef").getD d 0
theorem zJH : ∀ d ∈ List.range 16,fc d < 127/\fv (fc d)=d/\(fc d=48->d=0):=by decide +kernel
theorem zDj {d:Nat} (h:d < 16):fc d < 127/\fv (fc d)=d/\(fc d=48->d=0):=zJH d (List.mem_range.mpr h)
def val (b:Int) (l:List Nat):Int:=l.foldl (fun n c=>n*b+fv c) 0
theorem QX (b:Int) (l:List Nat) (c:Nat):val b (l++[c])=val b l*b+fv c:=by unfold val;rw [List.foldl_append];rfl
theorem XN (b:Int) (l:List Nat) : ∀ m:Nat,val b (List.replicate m 48++l)=val b l
 | 0=>by simp
 | m+1=>by
  have ih:=XN b l m
  unfold val at ih ⊢
  rw [List.replicate_succ,List.cons_append,foldl_cons]
  have:(0:Int)*b+fv 48=0:=by rw [Int.zero_mul];decide
  rw [this];exact ih
def j8 (b:Int) (l:List Nat):Prop:=∀ c ∈ l,c < 127/\0<=fv c/\fv c < b
theorem j8.mono {b b':Int} {l:List Nat} (h:j8 b l) (hb:b<=b'):j8 b' l:=fun c hc=>⟨(h c hc).1,(h c hc).2.1,by have:=(h c hc).2.2;omega⟩
theorem j8.app {b:Int} {l m:List Nat} (h:j8 b l) (h':j8 b m):j8 b (l++m):=fun c hc=>(List.mem_append.mp hc).elim (h c) (h' c)
theorem j8.noughts {b:Int} (hb:2<=b) (m:Nat):j8 b (List.replicate m 48):=fun c hc=>by
 rw [List.eq_of_mem_replicate hc];exact ⟨by decide,by decide,by show (0:Int) < b;omega⟩
theorem j8.one {b d:Nat} (hb:b<=16) (h:d < b):j8 b [fc d]:=fun c hc=>by
 rw [List.mem_singleton.mp hc]
 have:=zDj (d:=d) (by omega)
 exact ⟨this.1,by omega,by omega⟩
def ZL (b n:Nat):List Nat:=if h:n < b\/b < 2 then [fc n] else ZL b (n / b)++[fc (n % b)]
termination_by n
decreasing_by exact Nat.div_lt_self (by omega) (by omega)
theorem Zq {b:Nat} (h:n < b):ZL b n=[fc n]:=by rw [ZL];simp [h]
theorem K2 {b:Nat} (h2:2<=b) (h:b<=n):ZL b n=ZL b (n / b)++[fc (n % b)]:=by rw [ZL];simp [show ¬ n < b by omega,show ¬ b < 2 by omega]
theorem ZD {b:Nat} (h2:2<=b) (h16:b<=16) : ∀ (m n:Nat),n<=m->j8 b (ZL b n)/\val b (ZL b n)=n/\ZL b n≠[]/\((ZL b n).getD 0 0=48->n=0):=by
 intro m
 induction m with
 | zero =>
  intro n hn
  rw [Zq (by omega)]
  have e:=zDj (d:=n) (by omega)
  exact ⟨j8.one h16 (by omega),by unfold val;simp [e.2.1],by simp,fun _=>by omega⟩
 | succ m ih =>
  intro n hn
  rcases lt_or_ge n b with h | h
  ·rw [Zq h]
   have e:=zDj (d:=n) (by omega)
   exact ⟨j8.one h16 (by omega),by unfold val;simp [e.2.1],by simp,fun q=>e.2.2 (by simpa using q)⟩
  ·have hd:n / b < n:=Nat.div_lt_self (by omega) (by omega)
   obtain ⟨i1,i2,i3,i4⟩:=ih (n / b) (by omega)
   have hm:=Nat.mod_lt n (show b > 0 by omega)
   rw [K2 h2 h]
   refine ⟨i1.app (j8.one h16 hm),?_,by simp,fun q=>?_⟩
   ·rw [QX,i2,(zDj (d:=n % b) (by omega)).2.1]
    have:=Nat.div_add_mod n b
    rw [Nat.mul_comm] at this
    omega
   ·rw [yc (List.length_pos_iff.mpr i3)] at q
    have:=i4 q
    have p:0 < n / b:=Nat.div_pos h (by omega)
    omega
theorem JZ {b:Nat} (h2:2<=b) : ∀ (k n:Nat),n < b ^ (k+1)->(ZL b n).length<=k+1
 | 0,n,h=>by rw [Nat.pow_one] at h;rw [Zq h];simp
 | k+1,n,h=>by
  rcases lt_or_ge n b with h' | h'
  ·rw [Zq h'];simp
  ·rw [K2 h2 h',length_append]
   have:=JZ h2 k (n / b) (Nat.div_lt_of_lt_mul (by rw [Nat.pow_succ,Nat.mul_comm] at h;exact h))
   simp;omega
theorem zDa {b:Nat} (h2:2<=b) (h:n < 1766847064778384329583297500742918515827483896875618958121606201292619776):(ZL b n).length<=240:=by
 refine JZ h2 239 n (lt_of_lt_of_le h ?_)
 have e:(1766847064778384329583297500742918515827483896875618958121606201292619776:Nat)=2 ^ 240:=by decide +kernel
 rw [e];exact Nat.pow_le_pow_left h2 240
variable {m:Nat}
theorem Kv {b:Nat} (h2:2<=b) (l:List Nat):ZL b m++l=if m / b=0 then fc (m % b)::l else ZL b (m / b)++fc (m % b)::l:=by
 rcases lt_or_ge m b with h' | h'
 ·rw [if_pos (Nat.div_eq_of_lt h'),Zq h',mod_eq_of_lt h'];rfl
 ·have p:0 < m / b:=Nat.div_pos h' (by omega)
  rw [if_neg (by omega),K2 h2 h',append_assoc];rfl
variable {Q:VK}
theorem zGS (hz:xs.length<=sizeLine) (h : ∀ p,H p=none->Q (.ref p) (upd H p (.lst xs))):zJr Q xs H:=⟨hz,h⟩
theorem qM (g:zT H H') (n:H l=none):zT H (upd H' l o):=fun b u q=>by rw [qB (qT q n)];exact g b u q
variable {σ:St}
theorem zIU {T:String} {r:V->List V->Hp->VK->Prop} {to:TE} (h:to σ H fun x H1=>tyV K T x H1/\r x [] H1 Q):zLB K T r to σ H Q:=h
theorem Kr (h:H l=some (.lst xs)) (q:Q .non (upd H l (.lst xs.reverse))):Wx (.ref l) [] H Q:=⟨l,xs,rfl,rfl,h,q⟩
def jn (m:List Nat):List (List Nat)->List Nat
 | []=>[]
 | x::xs=>x++(xs.map (m ++ ·)).flatten
theorem Ky (m:Str) : ∀ (xs:List (List Nat)) (a:Array Nat),((xs.map T).foldl (fun acc p=>acc++m.cps++p.cps) a).toList=a.toList++(xs.map (Lt m ++ ·)).flatten
 | [],a=>by simp
 | x::xs,a=>by
  rw [map_cons,foldl_cons,Ky m xs,map_cons,List.flatten_cons]
  simp [T]
theorem zIP (m:Str) (xs:List (List Nat)):Txt.join m (xs.map T)=T (jn (Lt m) xs):=by
 refine X4 ?_
 rw [VP]
 unfold Txt.join Builtin.Str.glued
 cases xs with
 | nil=>rfl
 | cons x xs =>
  show (List.foldl (fun acc p=>acc++m.cps++p.cps) (T x).cps (xs.map T)).toList=_
  rw [Ky];rfl
theorem zFm (m:List Nat) {xs:List (List Nat)} (h:xs≠[]) (y:List Nat):jn m (xs++[y])=jn m xs++(m++y):=by
 cases xs with
 | nil=>exact absurd rfl h
 | cons x xs=>unfold jn;simp
theorem zDH (xs:List (List Nat)):jn [] xs=xs.flatten:=by
 cases xs with
 | nil=>rfl
 | cons x xs=>unfold jn;simp
theorem zJc {m:Str} {xs:List (List Nat)} (h:xs.flatten.length+xs.length*(Lt m).length<=16777216):JoinOk m (xs.map T)=true:=by
 have e : ∀ (xs:List (List Nat)) (n:Nat),(xs.map T).foldl (fun x1 x2=>x1+x2.length+m.length) n=n+xs.flatten.length+xs.length*(Lt m).length:=by
  intro xs
  induction xs with
  | nil=>intro n;simp
  | cons x xs ih =>
   intro n
   rw [map_cons,foldl_cons,ih,List.flatten_cons,length_append,length_cons,Nat.add_mul]
   have e1:(T x).length=x.length:=rfl
   have e2:m.length=(Lt m).length:=rfl
   rw [e1,e2];omega
 unfold JoinOk Builtin.Str.tooLong
 rw [List.foldl_toArray,e,decide_eq_false (by show ¬ 0+xs.flatten.length+xs.length*(Lt m).length > 16777216;omega)]
 rfl
def zEt (K:W.Frag):V->List V->Hp->VK->Prop:=fun x vs H Q=>∃ (m:Str) (p:Addr) (xs:List (List Nat)),x = .str m/\vs=[.ref p]/\H p=some (.lst (xs.map fun l=>V.str (T l)))/\xs.flatten.length+xs.length*(Lt m).length<=16777216/\Q (.str (T (jn (Lt m) xs))) H
theorem KT : ∀ {xs:List (List Nat)} {us:List Value},qR (xs.map fun l=>V.str (T l)) us -> ∃ ts:List (Str × Tok),us=strValues ts/\ts.map (fun x=>x.1)=xs.map T
 | [],_,.nil=>⟨[],rfl,rfl⟩
 | x::xs,_,.cons r t=>by
  obtain ⟨ts,rfl,e⟩:=KT t
  obtain ⟨u,rfl⟩:=r
  exact ⟨(T x,u)::ts,rfl,by rw [map_cons,map_cons,e]⟩
theorem JX:MtR X "str.join" (zEt X.K):=by
 intro pins s σ H x vs v us Q I rx rv h
 obtain ⟨m,p,xs,rfl,rfl,hH,hz,q⟩:=h
 obtain ⟨t,rfl⟩:=rx
 obtain ⟨u,rfl,ru⟩:=rv.one
 cases ru
 obtain ⟨its,r,pl,_⟩:=I.list (SqL.of hH)
 obtain ⟨ts,rfl,e⟩:=KT r
 exact SC.join pl.isList e (zJc hz) fun t' k=>⟨.str _,H,I.tok _,⟨t',rfl⟩,by rw [zIP];exact q⟩
theorem VL {m:Str} {p:Addr} {xs:List (List Nat)} (h:H p=some (.lst (xs.map fun l=>V.str (T l)))) (hz:xs.flatten.length+xs.length*(Lt m).length<=16777216) (q:Q (.str (T (jn (Lt m) xs))) H):zEt K (.str m) [.ref p] H Q:=⟨m,p,xs,rfl,rfl,h,hz,q⟩
def pcs (a:List Nat) (z g e:Nat):List (List Nat):=if h:e=0\/z=0 then [] else pcs a z g (e - z - g)++[(a.take e).drop (e - z)]
termination_by e
decreasing_by omega
theorem qU (a:List Nat) (z g:Nat):pcs a z g 0=[]:=by rw [pcs];simp
variable {z:Nat}
theorem yS {a:List Nat} {g e:Nat} (hz:0 < z) (h:0 < e):pcs a z g e=pcs a z g (e - z - g)++[(a.take e).drop (e - z)]:=by
 rw [pcs];rw [dif_neg (by omega)]
theorem Wp {a:List Nat} {z g:Nat} (hz:0 < z) : ∀ (m e:Nat),e<=m->(pcs a z g e).flatten.length<=e/\(pcs a z g e).length<=e
 | 0,e,h=>by rw [show e=0 by omega,qU];simp
 | m+1,e,h=>by
  rcases eq_zero_or_pos e with p | p
  ·rw [p,qU];simp
  ·obtain ⟨i1,i2⟩:=Wp (a:=a) (g:=g) hz m (e - z - g) (by omega)
   rw [yS hz p]
   simp only [List.flatten_append,length_append,List.flatten_cons,List.flatten_nil,List.append_nil,length_drop,length_take,length_cons,List.length_nil]
   have mn:=Nat.min_le_left e a.length
   have d1:e - z - g<=e - z:=Nat.sub_le _ _
   have d2:e - z+z=e\/e - z=0:=by omega
   generalize min e a.length=M at *
   generalize (pcs a z g (e - z - g)).flatten.length=X at *
   generalize (pcs a z g (e - z - g)).length=Y at *
   generalize e - z - g=D at *
   generalize e - z=F at *
   clear h
   exact ⟨by omega,by omega⟩
def RJ (z m:Nat) (b:List Nat):List Nat:=if h:b.length<=z\/z=0 then b else b.take z++m::RJ z m (b.drop z)
termination_by b.length
decreasing_by rw [length_drop];omega
theorem yq {b:List Nat} (h:b.length<=z):RJ z m b=b:=by rw [RJ];simp [h]
theorem XB {b:List Nat}:RJ 0 m b=b:=by rw [RJ];simp
theorem X3 {b:List Nat} (hz:0 < z) (h:z < b.length):RJ z m b=b.take z++m::RJ z m (b.drop z):=by
 rw [RJ];rw [dif_neg (by omega)]
theorem zE2 {z m:Nat} : ∀ (k:Nat) (b:List Nat),b.length<=k->b.length<=(RJ z m b).length/\(RJ z m b).length<=2*b.length
 | 0,b,h=>by rw [yq (by omega)];omega
 | k+1,b,h=>by
  rcases eq_zero_or_pos z with p | p
  ·subst p;rw [XB];omega
  ·rcases lt_or_ge z b.length with q | q
   ·have ih:=zE2 (z:=z) (m:=m) k (b.drop z) (by rw [length_drop];omega)
    rw [length_drop] at ih
    rw [X3 p q,length_append,length_take,length_cons]
    omega
   ·rw [yq q];omega
theorem zCC {z m x:Nat} (hz:0 < z) : ∀ (k:Nat) (c:List Nat),c.length<=k->RJ z m (c++[x])=RJ z m c++((if 0 < c.length/\c.length % z=0 then [m] else [])++[x])
 | 0,c,h=>by
  have e:c=[]:=eq_nil_of_length_eq_zero (by omega)
  subst e
  rw [yq (by simp;omega),yq (by simp)];simp
 | k+1,c,h=>by
  rcases Nat.lt_trichotomy c.length z with p | p | p
  ·rw [yq (by simp;omega),yq (by omega),if_neg (by
    intro q;rw [mod_eq_of_lt p] at q;omega)];simp
  ·rw [X3 hz (by simp;omega),yq (b:=c) (by omega),if_pos ⟨by omega,by rw [p];exact Nat.mod_self z⟩]
   rw [take_append_of_le_length (by omega),take_of_length_le (by omega),List.drop_append_of_le_length (by omega),drop_of_length_le (by omega),yq (by simp;omega)]
   simp
  ·rw [X3 hz (by simp;omega),X3 (b:=c) hz p]
   rw [take_append_of_le_length (by omega),List.drop_append_of_le_length (by omega),zCC hz k (c.drop z) (by rw [length_drop];omega),length_drop]
   have e:(c.length - z) % z=c.length % z:=(Nat.mod_eq_sub_mod (by omega)).symm
   rw [e,append_assoc,List.cons_append]
   have e2:(0 < c.length - z/\c.length % z=0)=(0 < c.length/\c.length % z=0):=propext ⟨fun q=>⟨by omega,q.2⟩,fun q=>⟨by omega,q.2⟩⟩
   simp only [e2]
theorem zE7 {a:List Nat} {z m:Nat} (hz:0 < z) : ∀ (k e:Nat),e<=k->e<=a.length->(jn [m] (pcs a z 0 e)).reverse=RJ z m (a.take e).reverse
 | 0,e,h,_=>by rw [show e=0 by omega,qU,yq (by simp)];simp [jn]
 | k+1,e,h,ha=>by
  rcases eq_zero_or_pos e with p | p
  ·rw [p,qU,yq (by simp)];simp [jn]
  ·rw [yS hz p,Nat.sub_zero]
   have le:(a.take e).length=e:=by rw [length_take];omega
   rcases lt_or_ge z e with q | q
   ·have ih:=zE7 (a:=a) (m:=m) hz k (e - z) (by omega) (by omega)
    have ne:pcs a z 0 (e - z)≠[]:=by rw [yS hz (by omega)];simp
    rw [zFm _ ne,List.reverse_append,List.reverse_append,ih,X3 (b:=(a.take e).reverse) hz (by rw [length_reverse];omega),List.take_reverse,List.drop_reverse,le]
    rw [List.take_take,Nat.min_eq_left (show e - z<=e by omega)]
    simp
   ·rw [show e - z=0 by omega,qU,yq (by rw [length_reverse];omega)]
    simp [jn]
def gr (z m:Nat) (a:List Nat):List Nat:=(RJ z m a.reverse).reverse
theorem zGK {a:List Nat} (hz:0 < z):jn [m] (pcs a z 0 a.length)=gr z m a:=by
 have:=zE7 (m:=m) hz a.length a.length (Nat.le_refl _) (Nat.le_refl _)
 rw [take_length] at this
 unfold gr
 rw [<- this,reverse_reverse]
theorem zCB {a:List Nat}:a.length<=(gr z m a).length/\(gr z m a).length<=2*a.length:=by
 have:=zE2 (z:=z) (m:=m) a.reverse.length a.reverse (Nat.le_refl _)
 unfold gr;rw [length_reverse] at this ⊢;exact this
def UJ (z:Nat) (c:List Nat):List Nat:=if h:c.length=0\/z=0 then [] else c.take z++UJ z (c.drop (z+1))
termination_by c.length
decreasing_by rw [length_drop];omega
theorem ya:UJ z []=[]:=by rw [UJ];simp
theorem Ze {c:List Nat} (hz:0 < z) (h:0 < c.length):UJ z c=c.take z++UJ z (c.drop (z+1)):=by rw [UJ];rw [dif_neg (by omega)]
theorem zJs {z m:Nat} (hz:0 < z) : ∀ (k:Nat) (b:List Nat),b.length<=k->UJ z (RJ z m b)=b
 | 0,b,h=>by rw [eq_nil_of_length_eq_zero (show b.length=0 by omega),yq (by simp),ya]
 | k+1,b,h=>by
  rcases eq_zero_or_pos b.length with p | p
  ·rw [eq_nil_of_length_eq_zero p,yq (by simp),ya]
  ·rcases lt_or_ge z b.length with q | q
   ·rw [X3 hz q,Ze hz (by rw [length_append,length_cons];omega)]
    have l1:(b.take z).length=z:=by rw [length_take];omega
    rw [take_append_of_le_length (by omega),take_of_length_le (by omega),List.drop_append,l1,drop_of_length_le (by omega)]
    rw [show z+1 - z=1 by omega]
    show b.take z++UJ z (RJ z m (b.drop z))=b
    rw [zJs hz k (b.drop z) (by rw [length_drop];omega),List.take_append_drop]
   ·rw [yq q,Ze hz p,take_of_length_le q,drop_of_length_le (by omega),ya,List.append_nil]
theorem zEy {a:List Nat} {z:Nat} (hz:0 < z) : ∀ (k e:Nat),e<=k->e<=a.length->(pcs a z 1 e).flatten.reverse=UJ z (a.take e).reverse
 | 0,e,h,_=>by rw [show e=0 by omega,qU];simp [ya]
 | k+1,e,h,ha=>by
  rcases eq_zero_or_pos e with p | p
  ·rw [p,qU];simp [ya]
  ·have le:(a.take e).length=e:=by rw [length_take];omega
   have ih:=zEy (a:=a) hz k (e - z - 1) (by omega) (by omega)
   rw [yS hz p,List.flatten_append,List.reverse_append,ih,Ze (c:=(a.take e).reverse) hz (by rw [length_reverse];omega),List.take_reverse,List.drop_reverse,le,List.take_take,Nat.min_eq_left (show e - (z+1)<=e by omega)]
   simp
   rw [show e - (z+1)=e - z - 1 by omega]
def ug (z:Nat) (a:List Nat):List Nat:=if z=0 then a else (UJ z a.reverse).reverse
theorem zIy {a:List Nat} (hz:0 < z):(pcs a z 1 a.length).flatten=ug z a:=by
 have:=zEy hz a.length a.length (Nat.le_refl _) (Nat.le_refl _)
 rw [take_length] at this
 unfold ug
 rw [if_neg (by omega),<- this,reverse_reverse]
theorem KZ (z m:Nat) (a:List Nat):ug z (gr z m a)=a:=by
 unfold ug gr
 split
 ·rename_i h;subst h;rw [XB,reverse_reverse]
 ·rename_i h
  rw [reverse_reverse,zJs (by omega) a.reverse.length a.reverse (Nat.le_refl _),reverse_reverse]
theorem ZI {a:List Nat}:gr 0 m a=a:=by unfold gr;rw [XB,reverse_reverse]
theorem zFr {a:List Nat} (hk:k < a.length):gr z m (a.drop (a.length - (k+1)))=a.getD (a.length - 1 - k) 0::((if 0 < z/\0 < k/\k % z=0 then [m] else [])++gr z m (a.drop (a.length - k))):=by
 have e:a.drop (a.length - (k+1))=a.getD (a.length - 1 - k) 0::a.drop (a.length - k):=by
  rw [List.drop_eq_getElem_cons (by omega),getD_eq_getElem?_getD,getElem?_eq_getElem (by omega)]
  congr 2 <;> omega
 have lk:(a.drop (a.length - k)).length=k:=by rw [length_drop];omega
 rcases eq_zero_or_pos z with p | p
 ·subst p;rw [ZI,ZI,e,if_neg (by omega)];rfl
 ·rw [e]
  unfold gr
  rw [List.reverse_cons,zCC p _ _ (Nat.le_refl _),length_reverse,lk]
  by_cases q:0 < k/\k % z=0
  ·rw [if_pos q,if_pos ⟨p,q⟩];simp
  ·rw [if_neg q,if_neg (fun h=>q h.2)];simp
variable {ts:List (List Nat)}
theorem zIc {p:Addr} (h:SqL K H p (ts.map fun l=>V.str (T l))) (h0:0<=i) (h1:i < ts.length) (q:Q (.str (T (ts.getD i.toNat []))) H):zD0 K (.ref p) (.int i) H Q:=by
 refine xR h h0 (by rw [length_map];exact h1) fun x hx=>?_
 have h2:i.toNat < ts.length:=by omega
 rw [getElem?_map,getElem?_eq_getElem h2] at hx
 cases hx
 rw [getD_eq_getElem?_getD,getElem?_eq_getElem h2] at q
 exact q
section
variable {X : Cx} {H : Hp} {Q : VK} {K : W.Frag}
inductive NT (H:Hp):V->Prop where
 | int (i:Int):NT H (.int i)
 | non:NT H .non
 | bl (b:Bool):NT H (.bl b)
 | lst {p:Addr} {xs:List V} (e:H p=some (.lst xs)):NT H (.ref p)
 | tup {p:Addr} {xs:List V} (e:H p=some (.tup xs)):NT H (.ref p)
 | dct {p:Addr} (e:H p=some (zJ1 p)):NT H (.ref p)
theorem NT.same {v:V} (h:NT H v) (g:zT H H'):NT H' v:=by
 cases h with
 | int i=>exact .int i
 | non=>exact .non
 | bl b=>exact .bl b
 | lst e=>exact .lst (g _ _ e)
 | tup e=>exact .tup (g _ _ e)
 | dct e=>exact .dct (g _ _ e)
def Asc (l:List Nat):Prop:=∀ c ∈ l,c < 127
theorem Asc.nil:Asc []:=fun _ h=>nomatch h
theorem Asc.app {l m:List Nat} (h:Asc l) (h':Asc m):Asc (l++m):=fun c hc=>(List.mem_append.mp hc).elim (h c) (h' c)
theorem Asc.one {c:Nat} (h:c < 127):Asc [c]:=fun d hd=>by rw [List.mem_singleton.mp hd];exact h
theorem Asc.take {l:List Nat} (h:Asc l) (n:Nat):Asc (l.take n):=fun c hc=>h c (List.mem_of_mem_take hc)
theorem Asc.drop {l:List Nat} (h:Asc l) (n:Nat):Asc (l.drop n):=fun c hc=>h c (List.mem_of_mem_drop hc)
theorem Asc.rep {l:List Nat} (h:Asc l) (n:Nat):Asc (List.replicate n l).flatten:=fun c hc=>by
 obtain ⟨m,hm,hc⟩:=List.mem_flatten.mp hc
 rw [List.eq_of_mem_replicate hm] at hc
 exact h c hc
theorem j8.asc {b:Int} {l:List Nat} (h:j8 b l):Asc l:=fun c hc=>(h c hc).1
theorem j8.snoc {b:Int} {l:List Nat} {i c:Nat} (h:j8 b (l.take i)) (hi:l[i]? = some c) (h1:c < 127) (h2:0<=fv c) (h3:fv c < b):j8 b (l.take (i+1)):=by
 rw [List.take_succ,hi]
 refine h.app fun d hd=>?_
 rw [List.mem_singleton.mp hd];exact ⟨h1,h2,h3⟩
end
theorem xU {l:List Nat} {j:Nat} (e:x=T l):PE X (.Constant (.str x) j pos) (tC (.str (T l))):=by
 rw [<- e];exact zd
theorem zCs {z x:Nat} (hz:0 < z) : ∀ (k:Nat) (c:List Nat),c.length<=k->UJ z (c++[x])=UJ z c++(if c.length % (z+1)=z then [] else [x])
 | 0,c,h=>by
  have e:c=[]:=eq_nil_of_length_eq_zero (by omega)
  subst e
  rw [Ze hz (by simp),ya,if_neg (by simp;omega),List.nil_append,take_of_length_le (by simp;omega),drop_of_length_le (by simp),ya];simp
 | k+1,c,h=>by
  rcases eq_zero_or_pos c.length with p0 | p0
  ·have e:c=[]:=eq_nil_of_length_eq_zero p0
   subst e
   rw [Ze hz (by simp),ya,if_neg (by simp;omega),List.nil_append,take_of_length_le (by simp;omega),drop_of_length_le (by simp),ya];simp
  rw [Ze hz (by simp),Ze hz p0]
  rcases Nat.lt_trichotomy c.length z with p | p | p
  ·rw [take_of_length_le (by simp;omega),take_of_length_le (by omega),drop_of_length_le (by simp;omega),drop_of_length_le (by omega),ya,if_neg (by rw [mod_eq_of_lt (by omega)];omega)];simp
  ·rw [take_append_of_le_length (by omega),drop_of_length_le (by simp;omega),drop_of_length_le (by omega),ya,if_pos (by rw [mod_eq_of_lt (by omega)];exact p)];simp
  ·rw [take_append_of_le_length (by omega),List.drop_append_of_le_length (by omega),zCs hz k (c.drop (z+1)) (by rw [length_drop];omega),length_drop,<- Nat.mod_eq_sub_mod (by omega),append_assoc]
theorem Xn {z m:Nat} (hz:0 < z) : ∀ (k:Nat) (b:List Nat),b.length<=k->1<=b.length->(RJ z m b).length=b.length+(b.length - 1) / z
 | 0,b,h,h1=>by omega
 | k+1,b,h,h1=>by
  rcases lt_or_ge z b.length with q | q
  ·have ih:=Xn (m:=m) hz k (b.drop z) (by rw [length_drop];omega) (by rw [length_drop];omega)
   rw [length_drop] at ih
   rw [X3 hz q,length_append,length_take,length_cons,ih]
   have e:(b.length - 1) / z=(b.length - z - 1) / z+1:=by
    rw [Nat.div_eq_sub_div hz (by omega),show b.length - 1 - z=b.length - z - 1 by omega]
   omega
  ·rw [yq q,Nat.div_eq_of_lt (by omega)];omega
theorem Yd {c:List Nat} (hz:0 < z) (h:0 < c.length):0 < (UJ z c).length:=by
 rw [Ze hz h,length_append,length_take];omega
theorem zIl {z m:Nat} (hz:0 < z) : ∀ (k:Nat) (c:List Nat),c.length<=k->c.length % (z+1)≠0->(∀ j,j < c.length->j % (z+1)=z->c.getD j 0=m)->RJ z m (UJ z c)=c
 | 0,c,h,h0,_=>by rw [show c.length=0 by omega] at h0;simp at h0
 | k+1,c,h,h0,hm=>by
  have p0:0 < c.length:=by
   rcases eq_zero_or_pos c.length with p | p
   ·rw [p] at h0;simp at h0
   ·exact p
  rcases Nat.lt_trichotomy c.length (z+1) with q | q | q
  ·rw [Ze hz p0,take_of_length_le (by omega),drop_of_length_le (by omega),ya,List.append_nil,yq (by omega)]
  ·rw [q,Nat.mod_self] at h0;exact absurd rfl h0
  ·have l1:(c.take z).length=z:=by rw [length_take];omega
   have l2:(c.drop (z+1)).length=c.length - (z+1):=length_drop ..
   have ih:=zIl (m:=m) hz k (c.drop (z+1)) (by omega) (by rw [l2,<- Nat.mod_eq_sub_mod (by omega)];exact h0) (fun j hj he=>by
    have z1:=hm (z+1+j) (by omega) (by rw [Nat.add_mod_left];exact he)
    rw [getD_eq_getElem?_getD] at z1 ⊢
    rw [List.getElem?_drop];exact z1)
   have up:=Yd (c:=c.drop (z+1)) hz (by omega)
   rw [Ze hz p0,X3 hz (by rw [length_append,l1];omega),take_append_of_le_length (by omega),take_of_length_le (by omega),List.drop_append_of_le_length (by omega),drop_of_length_le (by omega),List.nil_append,ih]
   have cz:=hm z (by omega) (mod_eq_of_lt (by omega))
   rw [getD_eq_getElem?_getD,getElem?_eq_getElem (by omega)] at cz
   have cz':c[z]=m:=cz
   rw [<- cz',<- List.drop_eq_getElem_cons,List.take_append_drop]
def GG (z m:Nat) (t:List Nat):Prop:=1<=(ug z t).length/\(ug z t).length<=40/\gr z m (ug z t)=t
theorem GG.len {t:List Nat} (h:GG z m t):(ug z t).length+(if 0 < z then ((ug z t).length - 1) / z else 0)=t.length:=by
 have e:=congrArg List.length h.2.2
 rcases eq_zero_or_pos z with p | p
 ·subst p;rw [ZI] at e;simp;exact e
 ·unfold gr at e
  rw [length_reverse,Xn p _ _ (Nat.le_refl _) (by rw [length_reverse];exact h.1),length_reverse] at e
  rw [if_pos p];exact e
theorem VN {l:List Nat} {j:Nat} (h:j < l.length):l.reverse.getD j 0=l.getD (l.length - 1 - j) 0:=by
 rw [getD_eq_getElem?_getD,getD_eq_getElem?_getD,List.getElem?_reverse h]
theorem zDT {a b:Nat} (h1:1<=a) (h2:1<=b) (h:a+(a - 1) / z=b+(b - 1) / z):a=b:=by
 rcases Nat.lt_trichotomy a b with p | p | p
 ·have:=Nat.div_le_div_right (c:=z) (show a - 1<=b - 1 by omega);omega
 ·exact p
 ·have:=Nat.div_le_div_right (c:=z) (show b - 1<=a - 1 by omega);omega
theorem GG.of {many:Nat} {t:List Nat} (h1:1<=many) (h2:many<=40) (hl:many+(if 0 < z then (many - 1) / z else 0)=t.length) (hm:0 < z -> ∀ k,k < t.length->(t.length - 1 - k) % (z+1)=z->t.getD k 0=m):GG z m t:=by
 rcases eq_zero_or_pos z with p | p
 ·subst p
  have e:ug 0 t=t:=rfl
  unfold GG;rw [e,ZI];simp at hl;exact ⟨by omega,by omega,rfl⟩
 ·rw [if_pos p] at hl
  have hn:t.length % (z+1)≠0:=by
   have d:=Nat.div_add_mod (many - 1) z
   have r:=Nat.mod_lt (many - 1) p
   generalize (many - 1) / z=q at *
   generalize (many - 1) % z=r' at *
   have e:t.length=r'+1+(z+1)*q:=by rw [Nat.add_mul,Nat.one_mul];omega
   rw [e,Nat.add_mul_mod_self_left,mod_eq_of_lt (by omega)];omega
  have rj:=zIl (m:=m) p _ t.reverse (Nat.le_refl _) (by rw [length_reverse];exact hn) (fun j hj he=>by
   rw [length_reverse] at hj
   rw [VN hj]
   exact hm p _ (by omega) (by rw [show t.length - 1 - (t.length - 1 - j)=j by omega];exact he))
  have e:ug z t=(UJ z t.reverse).reverse:=by unfold ug;rw [if_neg (by omega)]
  have tp:0 < t.length:=lt_of_lt_of_le (show 0 < many by omega) (by rw [<- hl];exact Nat.le_add_right _ _)
  have up:=Yd (c:=t.reverse) p (by rw [length_reverse];exact tp)
  have ln:=Xn (m:=m) p _ (UJ z t.reverse) (Nat.le_refl _) up
  rw [rj,length_reverse] at ln
  have em:=zDT (z:=z) (a:=(UJ z t.reverse).length) (b:=many) up h1 (by omega)
  refine ⟨by rw [e,length_reverse];omega,by rw [e,length_reverse];omega,?_⟩
  rw [e];unfold gr;rw [reverse_reverse,rj,reverse_reverse]
theorem zJg {t:List Nat}:(ug z t).length<=t.length:=by
 rcases eq_zero_or_pos z with p | p
 ·subst p;exact Nat.le_refl _
 ·rw [<- zIy p];exact (Wp p _ _ (Nat.le_refl _)).1
section
variable {σ : St} {H : Hp} {Q : VK} {D : QQ} {K : W.Frag}
def zFB (g:TG) (tb:TS) (D:QQ) (σ:St) (vs:List V) (H:Hp):Prop:=∃ i j:Int,vs=[.int i,.int j]/\(-(2 ^ 62)<=i/\i < 2 ^ 62 /\ -(2 ^ 62)<=j/\j < 2 ^ 62) /\ ∃ W:Nat->Nat->St->Hp->Prop,(∃ m,W 0 m σ H) /\ ∀ k m σ H,W k m σ H ->
 ((Itr i (j - i).toNat).stop k H/\D.nx σ H)\/((Itr i (j - i).toNat).go k H /\ ∃ N:St->Hp->Prop,(∀ σ' H',N σ' H' -> ∃ m',m' < m/\W (k+1) m' σ' H') /\ ∀ x H',(Itr i (j - i).toNat).yld k H x H'->g x σ H' fun σ2 H2=>tb { D with nx:=N,ct:=N,bk:=D.nx } σ2 H2)
theorem zHF {ta:TA} {g:TG} {tb:TS} (h:ta σ H (zFB g tb D σ)):zGO (zGs ta) g tb D σ H:=h
theorem zAG {g:TG} {tb:TS} (hb : -(2 ^ 62)<=i/\i < 2 ^ 62 /\ -(2 ^ 62)<=j/\j < 2 ^ 62) (Pv:Nat->St->Hp->Prop) (h0:Pv 0 σ H)
  (hs : ∀ k σ H,k < (j - i).toNat->Pv k σ H->g (.int (i+k)) σ H fun σ2 H2=>tb { D with nx:=Pv (k+1),ct:=Pv (k+1),bk:=D.nx } σ2 H2) (hd : ∀ σ H,Pv (j - i).toNat σ H->D.nx σ H):zFB g tb D σ [.int i,.int j] H:=⟨i,j,rfl,hb,V1 Pv h0 hs hd⟩
end
def KD (w:World) (K:W.Frag) (d:Addr) (z:Str) (v:Addr):Prop:=∃ (es:Array DictEntry) (n:Nat),K.lookup d=some { cls:=.type "dict", data:=.dict es n }/\(∀ e,e ∈ es -> ∃ k,Value.isStrOf k e.key=true/\e.hash=hashStr w k)/\findBy Value.isStrOf es z=some (.ref v)
def zK6 (w:World) (K:W.Frag):R2:=fun x y H Q=>∃ d z v,x = .ref d/\y = .str z/\KD w K d z v/\Q (.ref v) H
section
variable {X : Cx} {H : Hp} {Q : VK} {K : W.Frag} {w : World}
theorem zJe:IxR X (zK6 X.w X.K):=by
 intro value slice pins s σ H x y v u Q I rx ry h hs
 obtain ⟨d,z,p,rfl,rfl,⟨es,n,lk,ks,f⟩,q⟩:=h
 cases rx
 obtain ⟨t,rfl⟩:=ry
 have ho:=I.kIn d _ lk
 have fin : ∀ k,EP X pins σ Q (.ref p) { s with toks:=k }:=fun k=>⟨.ref p,H,I.tok _,rfl,q⟩
 exact subscriptTail_builtinR (x:=.ref p) ⟨_,ho,rfl⟩ slot_dict_getitem.lookup
  (wpAny_getItem_of (knd:=PySem.strKind X.prog X.w) (k:=z) (f:=fun k=>findBy Value.isStrOf es k) (Q:=fun r s'=>r = .ref p/\EP X pins σ Q r s') (by simp [PySem.strKind,Value.isStrOf]) ⟨_,es,n,ho,⟨rfl,rfl,rfl⟩,rfl,ks,fun k=>rfl⟩ f ⟨rfl,fin _⟩) hs
theorem zJY {d v:Addr} {z:Str} (h:KD w K d z v) (q:Q (.ref v) H):zK6 w K (.ref d) (.str z) H Q:=⟨d,z,v,rfl,rfl,h,q⟩
theorem zGa {p:Addr} {v:V} (h:SqT K H p xs) (e:atI xs i=some v) (q:Q v H):zJz K (.ref p) (.int i) H Q:=⟨p,xs,i,v,rfl,rfl,h,e,q⟩
theorem SqT.same {p:Addr} (h:SqT K H p xs) (e:zT H H'):SqT K H' p xs:=by
 rcases h with h | h
 ·rcases h with h | ⟨o,h⟩
  ·exact .inl (.inl (e _ _ h))
  ·exact .inl (.inr ⟨o,e _ _ h⟩)
 ·exact .inr h
theorem SqT.mod {p:Addr} {its:List Value} (lk:K.lookup p=some { cls:=.type "tuple", data:=.seq its.toArray n }) (hz:its.length<=1000) (r:qR xs its):SqT K H p xs:=.inr ⟨_,its.toArray,n,lk,rfl,rfl,small (by simpa using hz),by simpa using r⟩
end
def stL (x:Str) (b:Bool):List Nat:=if x = "minus" then (if b then [45] else []) else if x = "plus" then (if b then [45] else [43]) else if x = "blank" then (if b then [45] else [32]) else if x = "brackets" then (if b then [40] else []) else []
def stT (x:Str) (b:Bool):List Nat:=if x = "minus" then [] else if x = "plus" then [] else if x = "blank" then [] else if x = "brackets" then (if b then [41] else []) else (if b then [45] else [])
def xw (x:Str):Prop:=x = "minus" \/ x = "plus" \/ x = "blank" \/ x = "brackets" \/ x = "behind"
theorem jT (b:Bool):stL "minus" b=(if b then [45] else [])/\stT "minus" b=[]:=by unfold stL stT;cases b <;> decide +kernel
theorem xQ (b:Bool):stL "plus" b=(if b then [45] else [43])/\stT "plus" b=[]:=by unfold stL stT;cases b <;> decide +kernel
theorem jR (b:Bool):stL "blank" b=(if b then [45] else [32])/\stT "blank" b=[]:=by unfold stL stT;cases b <;> decide +kernel
theorem qI (b:Bool):stL "brackets" b=(if b then [40] else [])/\stT "brackets" b=(if b then [41] else []):=by unfold stL stT;cases b <;> decide +kernel
theorem qp (b:Bool):stL "behind" b=[]/\stT "behind" b=(if b then [45] else []):=by unfold stL stT;cases b <;> decide +kernel
theorem JE (h:xw x) (b:Bool):(stL x b).length<=1/\(stT x b).length<=1:=by
 rcases h with rfl | rfl | rfl | rfl | rfl
 ·rw [(jT b).1,(jT b).2];cases b <;> decide
 ·rw [(xQ b).1,(xQ b).2];cases b <;> decide
 ·rw [(jR b).1,(jR b).2];cases b <;> decide
 ·rw [(qI b).1,(qI b).2];cases b <;> decide
 ·rw [(qp b).1,(qp b).2];cases b <;> decide
def Sty (w:World) (K:W.Frag) (d:Addr):Prop:=∀ (x:Str),xw x -> ∃ p a b:Addr,KD w K d x p /\ ∀ H:Hp,SqT K H p [.ref a,.ref b]/\SqT K H a [.str (T (stL x false)),.str (T (stT x false))]/\SqT K H b [.str (T (stL x true)),.str (T (stT x true))]
theorem sty_mk {d:Addr} {n0:Nat} {t0:Tok} {p0 a0 b0:Addr} {n01 n02 n03:Nat} {u01 u02 u03 u04:Tok} {t1:Tok} {p1 a1 b1:Addr} {n11 n12 n13:Nat} {u11 u12 u13 u14:Tok} {t2:Tok} {p2 a2 b2:Addr} {n21 n22 n23:Nat} {u21 u22 u23 u24:Tok} {t3:Tok} {p3 a3 b3:Addr} {n31 n32 n33:Nat} {u31 u32 u33 u34:Tok} {t4:Tok} {p4 a4 b4:Addr} {n41 n42 n43:Nat} {u41 u42 u43 u44:Tok}
  (hd:K.lookup d=some { cls:=.type "dict", data:=.dict #[⟨PyData.keyHash w.params "minus", .str "minus" t0,.ref p0⟩,⟨PyData.keyHash w.params "plus", .str "plus" t1,.ref p1⟩,⟨PyData.keyHash w.params "blank", .str "blank" t2,.ref p2⟩,⟨PyData.keyHash w.params "brackets", .str "brackets" t3,.ref p3⟩,⟨PyData.keyHash w.params "behind", .str "behind" t4,.ref p4⟩] n0 })
  (hp0:K.lookup p0=some { cls:=.type "tuple", data:=.seq #[.ref a0,.ref b0] n01 })
  (ha0:K.lookup a0=some { cls:=.type "tuple", data:=.seq #[.str "" u01,.str "" u02] n02 })
  (hb0:K.lookup b0=some { cls:=.type "tuple", data:=.seq #[.str "-" u03,.str "" u04] n03 })
  (hp1:K.lookup p1=some { cls:=.type "tuple", data:=.seq #[.ref a1,.ref b1] n11 })
  (ha1:K.lookup a1=some { cls:=.type "tuple", data:=.seq #[.str "+" u11,.str "" u12] n12 })
  (hb1:K.lookup b1=some { cls:=.type "tuple", data:=.seq #[.str "-" u13,.str "" u14] n13 })
  (hp2:K.lookup p2=some { cls:=.type "tuple", data:=.seq #[.ref a2,.ref b2] n21 })
  (ha2:K.lookup a2=some { cls:=.type "tuple", data:=.seq #[.str " " u21,.str "" u22] n22 })
  (hb2:K.lookup b2=some { cls:=.type "tuple", data:=.seq #[.str "-" u23,.str "" u24] n23 })
  (hp3:K.lookup p3=some { cls:=.type "tuple", data:=.seq #[.ref a3,.ref b3] n31 })
  (ha3:K.lookup a3=some { cls:=.type "tuple", data:=.seq #[.str "" u31,.str "" u32] n32 })
  (hb3:K.lookup b3=some { cls:=.type "tuple", data:=.seq #[.str "(" u33,.str ")" u34] n33 })
  (hp4:K.lookup p4=some { cls:=.type "tuple", data:=.seq #[.ref a4,.ref b4] n41 })
  (ha4:K.lookup a4=some { cls:=.type "tuple", data:=.seq #[.str "" u41,.str "" u42] n42 })
  (hb4:K.lookup b4=some { cls:=.type "tuple", data:=.seq #[.str "" u43,.str "-" u44] n43 }):Sty w K d:=by
 have ks : ∀ e,e ∈ (#[⟨PyData.keyHash w.params "minus", .str "minus" t0,.ref p0⟩,⟨PyData.keyHash w.params "plus", .str "plus" t1,.ref p1⟩,⟨PyData.keyHash w.params "blank", .str "blank" t2,.ref p2⟩,⟨PyData.keyHash w.params "brackets", .str "brackets" t3,.ref p3⟩,⟨PyData.keyHash w.params "behind", .str "behind" t4,.ref p4⟩]:Array DictEntry) -> ∃ k,Value.isStrOf k e.key=true/\e.hash=hashStr w k:=by
  intro e he
  simp only [List.mem_toArray,mem_cons,List.not_mem_nil,or_false] at he
  rcases he with rfl | rfl | rfl | rfl | rfl
  ·exact ⟨"minus", by simp [Value.isStrOf],rfl⟩
  ·exact ⟨"plus", by simp [Value.isStrOf],rfl⟩
  ·exact ⟨"blank", by simp [Value.isStrOf],rfl⟩
  ·exact ⟨"brackets", by simp [Value.isStrOf],rfl⟩
  ·exact ⟨"behind", by simp [Value.isStrOf],rfl⟩
 intro x hx
 rcases hx with rfl | rfl | rfl | rfl | rfl
 ·refine ⟨p0,a0,b0,⟨_,_,hd,ks,?_⟩,fun H=>⟨.mod hp0 (by simp) (.cons rfl (.cons rfl .nil)),.mod ha0 (by simp) (.cons ⟨u01,?_⟩ (.cons ⟨u02,?_⟩ .nil)),.mod hb0 (by simp) (.cons ⟨u03,?_⟩ (.cons ⟨u04,?_⟩ .nil))⟩⟩
  ·unfold findBy
   simp only [find?_toArray,find?_cons]
   rfl
  ·exact congrArg (fun z=>Value.str z _) (by rw [(jT _).1];decide +kernel)
  ·exact congrArg (fun z=>Value.str z _) (by rw [(jT _).2];decide +kernel)
  ·exact congrArg (fun z=>Value.str z _) (by rw [(jT _).1];decide +kernel)
  ·exact congrArg (fun z=>Value.str z _) (by rw [(jT _).2];decide +kernel)
 ·refine ⟨p1,a1,b1,⟨_,_,hd,ks,?_⟩,fun H=>⟨.mod hp1 (by simp) (.cons rfl (.cons rfl .nil)),.mod ha1 (by simp) (.cons ⟨u11,?_⟩ (.cons ⟨u12,?_⟩ .nil)),.mod hb1 (by simp) (.cons ⟨u13,?_⟩ (.cons ⟨u14,?_⟩ .nil))⟩⟩
  ·unfold findBy
   simp only [find?_toArray,find?_cons]
   rfl
  ·exact congrArg (fun z=>Value.str z _) (by rw [(xQ _).1];decide +kernel)
  ·exact congrArg (fun z=>Value.str z _) (by rw [(xQ _).2];decide +kernel)
  ·exact congrArg (fun z=>Value.str z _) (by rw [(xQ _).1];decide +kernel)
  ·exact congrArg (fun z=>Value.str z _) (by rw [(xQ _).2];decide +kernel)
 ·refine ⟨p2,a2,b2,⟨_,_,hd,ks,?_⟩,fun H=>⟨.mod hp2 (by simp) (.cons rfl (.cons rfl .nil)),.mod ha2 (by simp) (.cons ⟨u21,?_⟩ (.cons ⟨u22,?_⟩ .nil)),.mod hb2 (by simp) (.cons ⟨u23,?_⟩ (.cons ⟨u24,?_⟩ .nil))⟩⟩
  ·unfold findBy
   simp only [find?_toArray,find?_cons]
   rfl
  ·exact congrArg (fun z=>Value.str z _) (by rw [(jR _).1];decide +kernel)
  ·exact congrArg (fun z=>Value.str z _) (by rw [(jR _).2];decide +kernel)
  ·exact congrArg (fun z=>Value.str z _) (by rw [(jR _).1];decide +kernel)
  ·exact congrArg (fun z=>Value.str z _) (by rw [(jR _).2];decide +kernel)
 ·refine ⟨p3,a3,b3,⟨_,_,hd,ks,?_⟩,fun H=>⟨.mod hp3 (by simp) (.cons rfl (.cons rfl .nil)),.mod ha3 (by simp) (.cons ⟨u31,?_⟩ (.cons ⟨u32,?_⟩ .nil)),.mod hb3 (by simp) (.cons ⟨u33,?_⟩ (.cons ⟨u34,?_⟩ .nil))⟩⟩
  ·unfold findBy
   simp only [find?_toArray,find?_cons]
   rfl
  ·exact congrArg (fun z=>Value.str z _) (by rw [(qI _).1];decide +kernel)
  ·exact congrArg (fun z=>Value.str z _) (by rw [(qI _).2];decide +kernel)
  ·exact congrArg (fun z=>Value.str z _) (by rw [(qI _).1];decide +kernel)
  ·exact congrArg (fun z=>Value.str z _) (by rw [(qI _).2];decide +kernel)
 ·refine ⟨p4,a4,b4,⟨_,_,hd,ks,?_⟩,fun H=>⟨.mod hp4 (by simp) (.cons rfl (.cons rfl .nil)),.mod ha4 (by simp) (.cons ⟨u41,?_⟩ (.cons ⟨u42,?_⟩ .nil)),.mod hb4 (by simp) (.cons ⟨u43,?_⟩ (.cons ⟨u44,?_⟩ .nil))⟩⟩
  ·unfold findBy
   simp only [find?_toArray,find?_cons]
   rfl
  ·exact congrArg (fun z=>Value.str z _) (by rw [(qp _).1];decide +kernel)
  ·exact congrArg (fun z=>Value.str z _) (by rw [(qp _).2];decide +kernel)
  ·exact congrArg (fun z=>Value.str z _) (by rw [(qp _).1];decide +kernel)
  ·exact congrArg (fun z=>Value.str z _) (by rw [(qp _).2];decide +kernel)
section
variable {X : Cx} {σ : St} {H : Hp} {Q : VK} {D : QQ} {K : W.Frag}
def zHw (K:PySem.W.Frag) (g:TG) (tb:TS) (D:QQ) (σ:St) (x:V) (H:Hp):Prop:=∃ a,x = .ref a/\(∃ xs,SqT K H a xs) /\ ∃ W:Nat->Nat->St->Hp->Prop,(∃ m,W 0 m σ H) /\ ∀ i m σ H,W i m σ H ->
 ((Itt K a).stop i H/\D.nx σ H)\/((Itt K a).go i H /\ ∃ N:St->Hp->Prop,(∀ σ' H',N σ' H' -> ∃ m',m' < m/\W (i+1) m' σ' H') /\ ∀ x H',(Itt K a).yld i H x H'->g x σ H' fun σ2 H2=>tb { D with nx:=N,ct:=N,bk:=D.nx } σ2 H2)
theorem zIG {tl:TE} {g:TG} {tb:TS} (h:tl σ H (zHw K g tb D σ)):zGO (zLL K tl) g tb D σ H:=h
theorem zFz {g:TG} {tb:TS} (hx:SqT K H a xs) (Pv:Nat->St->Hp->Prop) (h0:Pv 0 σ H) (hl : ∀ i σ H,i<=xs.length->Pv i σ H->SqT K H a xs)
  (hs : ∀ i x σ H,xs[i]? = some x->Pv i σ H->g x σ H fun σ2 H2=>tb { D with nx:=Pv (i+1),ct:=Pv (i+1),bk:=D.nx } σ2 H2) (hd : ∀ σ H,Pv xs.length σ H->D.nx σ H):zHw K g tb D σ (.ref a) H:=⟨a,rfl,⟨xs,hx⟩,zGt Pv h0 hl hs hd⟩
theorem zHk : ∀ c ∈ List.range 127,(!(Builtin.Str.occurrences "0123456789abcdef" (T [c]) 0 (Str.ofString "0123456789abcdef").length 1).isEmpty)=decide (0<=fv c):=by decide +kernel
theorem zKK {c:Nat} (h:c < 127) (q:Q (.bl (decide (0<=fv c))) H):zJu (.str (T [c])) (.str "0123456789abcdef") H Q:=zJG (by rw [zHk c (List.mem_range.mpr h)];exact q)
theorem zHZ {lo hi:Option Int} (q:Q (.str (T [])) H):zDW (.str (T [])) lo hi H Q:=by
 refine zEk (by decide) ?_
 rw [VD,VP];simpa using q
end
def bod (x:Str) (b:Bool) (t:List Nat):List Nat:=(t.take (t.length - (stT x b).length)).drop (stL x b).length
def Fg (l:List Nat):Prop:=l≠[]/\0<=fv (l.getD 0 0)/\0<=fv (l.getD (l.length - 1) 0)
def Sgd (x:Str) (b:Bool) (t:List Nat):Prop:=Fg (bod x b t)/\stL x b++bod x b t++stT x b=t
theorem zG4 {t:List Nat}:(bod x b t).length=t.length - (stT x b).length - (stL x b).length:=by
 unfold bod;rw [length_drop,length_take,Nat.min_eq_left (Nat.sub_le _ _)]
theorem zGG {t:List Nat} (h:Asc t):Asc (bod x b t):=(h.take _).drop _
theorem zAC {t:List Nat} {i:Nat} (h:Asc t) (hi:i < t.length):t.getD i 0 < 127:=by
 rw [getD_eq_getElem?_getD,getElem?_eq_getElem hi];exact h _ (getElem_mem hi)
theorem XQ {c d:Nat} (h:0<=fv c) (e:c=d) (hd:fv d = -1):False:=by rw [e,hd] at h;omega
theorem yr (hx:xw x) {t:List Nat} (h0:Sgd x false t) (h1:Sgd x true t):False:=by
 have b0:=List.length_pos_iff.mpr h0.1.1
 have b1:=List.length_pos_iff.mpr h1.1.1
 have e0:=h0.2
 have e1:=h1.2
 have f0:=h0.1.2
 generalize hB:bod x false t=B at *
 generalize hC:bod x true t=C at *
 have e:=e0.trans e1.symm
 rcases hx with rfl | rfl | rfl | rfl | rfl
 ·rw [(jT _).1,(jT _).2,(jT _).1,(jT _).2] at e
  have z1:=congrArg (fun l=>l.getD 0 0) e
  exact XQ f0.1 (by simpa using z1) (by decide)
 ·rw [(xQ _).1,(xQ _).2,(xQ _).1,(xQ _).2] at e
  have z1:=congrArg (fun l=>l.getD 0 0) e
  simp at z1
 ·rw [(jR _).1,(jR _).2,(jR _).1,(jR _).2] at e
  have z1:=congrArg (fun l=>l.getD 0 0) e
  simp at z1
 ·rw [(qI _).1,(qI _).2,(qI _).1,(qI _).2] at e
  have z1:=congrArg (fun l=>l.getD 0 0) e
  exact XQ f0.1 (by simpa using z1) (by decide)
 ·rw [(qp _).1,(qp _).2,(qp _).1,(qp _).2] at e
  have e':B=C++[45]:=by simpa using e
  have z1:B.getD (B.length - 1) 0=45:=by
   rw [e',length_append,length_singleton,Nat.add_sub_cancel,Kl (Nat.le_refl _),Nat.sub_self];rfl
  exact XQ f0.2 z1 (by decide)
theorem Kt (h:xw x) (b:Bool):Asc (stL x b)/\Asc (stT x b):=by
 unfold Asc
 rcases h with rfl | rfl | rfl | rfl | rfl
 ·rw [(jT b).1,(jT b).2];cases b <;> decide
 ·rw [(xQ b).1,(xQ b).2];cases b <;> decide
 ·rw [(jR b).1,(jR b).2];cases b <;> decide
 ·rw [(qI b).1,(qI b).2];cases b <;> decide
 ·rw [(qp b).1,(qp b).2];cases b <;> decide
section
variable {X : Cx} {H : Hp} {Q : VK} {K : W.Frag} {σ : St}
def zK2:V->List V->Hp->VK->Prop:=fun x vs H Q=>∃ (a:List Nat) (i:Int) (c:Nat),x = .str (T a)/\vs=[.int i,.str (T [c])]/\0<=i/\i<=1000/\Q (.str (T (List.replicate (i.toNat - a.length) c++a))) H
theorem zBl:MtR X "str.rjust" zK2:=by
 intro pins s σ H x vs v us Q I rx rv h
 obtain ⟨a,i,c,rfl,rfl,h0,h1,q⟩:=h
 obtain ⟨t,rfl⟩:=rx
 obtain ⟨u1,u2,rfl,r1,r2⟩:=zB4 rv
 obtain ⟨t1,rfl⟩:=r1
 obtain ⟨t2,rfl⟩:=r2
 have pk:PadOk i=true:=by
  unfold PadOk Builtin.Str.tooLong fitsSsize
  have : ¬ i.toNat > sizeLine:=by show ¬ i.toNat > 16777216;omega
  rw [decide_eq_false this]
  simp
  omega
 refine rjust_fill pk rfl fun t' k=>⟨.str _,H,I.tok _,⟨t',rfl⟩,?_⟩
 have e:Txt.rjustF (T a) i ((T [c]).cps.getD 0 0)=T (List.replicate (i.toNat - a.length) c++a):=X4 (rjustF_list (T a) i c)
 rw [e];exact q
theorem zKG {a:List Nat} {c:Nat} (h0:0<=i) (h1:i<=1000) (q:Q (.str (T (List.replicate (i.toNat - a.length) c++a))) H):zK2 (.str (T a)) [.int i,.str (T [c])] H Q:=⟨a,i,c,rfl,rfl,h0,h1,q⟩
end
def dgs (b p n:Nat):List Nat:=List.replicate (p+1 - (ZL b n).length) 48++ZL b n
theorem yD {b p:Nat} (h2:2<=b) (h16:b<=16) (hp:p<=6) (h:n < b ^ (40+p)):j8 b (dgs b p n)/\val b (dgs b p n)=n/\p+1<=(dgs b p n).length/\(dgs b p n).length<=40+p/\((dgs b p n).getD 0 0=48->(dgs b p n).length=p+1):=by
 have s:=ZD h2 h16 n n (Nat.le_refl _)
 have ln:=JZ h2 (39+p) n (by rw [show 39+p+1=40+p by omega];exact h)
 have ps:=List.length_pos_iff.mpr s.2.2.1
 have ld:(dgs b p n).length=p+1 - (ZL b n).length+(ZL b n).length:=by unfold dgs;rw [length_append,length_replicate]
 refine ⟨(j8.noughts (by omega) _).app s.1,?_,by omega,by omega,fun z=>?_⟩
 ·unfold dgs;rw [XN];exact s.2.1
 ·rcases lt_or_ge (p+1) (ZL b n).length with q | q
  ·have e:dgs b p n=ZL b n:=by unfold dgs;rw [show p+1 - (ZL b n).length=0 by omega];rfl
   rw [e] at z
   have:=s.2.2.2 z
   subst this
   rw [Zq (by omega)] at q
   simp at q
  ·omega
def whl (b p n:Nat):List Nat:=(dgs b p n).take ((dgs b p n).length - p)
def rst (b p n:Nat):List Nat:=(dgs b p n).drop ((dgs b p n).length - p)
def bdy (b p pt z m n:Nat):List Nat:=if p=0 then gr z m (whl b p n) else gr z m (whl b p n)++[pt]++rst b p n
theorem Yr (b p n:Nat):whl b p n++rst b p n=dgs b p n:=List.take_append_drop _ _
theorem Jd {b p:Nat} (h2:2<=b) (h16:b<=16) (hp:p<=6) (h:n < b ^ (40+p)):1<=(whl b p n).length/\(whl b p n).length<=40/\(rst b p n).length=p/\((whl b p n).getD 0 0=48->(whl b p n).length=1):=by
 have s:=yD h2 h16 hp h
 have lw:(whl b p n).length=(dgs b p n).length - p:=by unfold whl;rw [length_take];omega
 refine ⟨by omega,by omega,by unfold rst;rw [length_drop];omega,fun z=>?_⟩
 have e:(whl b p n).getD 0 0=(dgs b p n).getD 0 0:=by
  rw [<- Yr b p n,yc (by omega)]
 rw [e] at z
 have:=s.2.2.2.2 z
 omega
theorem Wo {b:Nat}:rst b 0 n=[]:=by unfold rst;rw [Nat.sub_zero,List.drop_length]
theorem zD3 {a:List Nat} (hk:k < a.length):gr z m (a.drop k)=a.getD k 0::((if 0 < z/\0 < a.length - (k+1)/\(a.length - (k+1)) % z=0 then [m] else [])++gr z m (a.drop (k+1))):=by
 have t:=zFr (z:=z) (m:=m) (a:=a) (k:=a.length - (k+1)) (by omega)
 rw [show a.length - (a.length - (k+1)+1)=k by omega,show a.length - 1 - (a.length - (k+1))=k by omega,show a.length - (a.length - (k+1))=k+1 by omega] at t
 exact t
section
variable {X : Cx} {H : Hp} {Q : VK} {K : W.Frag} {σ : St}
theorem zJL {a:Bool} (q:Q (.bl (!decide (a=b))) H):rNe (.bl a) (.bl b) H Q:=⟨rfl,by
 have e:decide (V.bl a=V.bl b)=decide (a=b):=by
  by_cases h:a=b
  ·rw [decide_eq_true h,decide_eq_true (congrArg V.bl h)]
  ·rw [decide_eq_false h,decide_eq_false (fun z=>h (V.bl.inj z))]
 rw [e];exact q⟩
end
theorem zE3 {z m:Nat} : ∀ (k:Nat) (b:List Nat),b.length<=k -> ∀ c ∈ RJ z m b,c ∈ b\/c=m
 | 0,b,h,c,hc=>by rw [yq (by omega)] at hc;exact .inl hc
 | k+1,b,h,c,hc=>by
  rcases eq_zero_or_pos z with p | p
  ·subst p;rw [XB] at hc;exact .inl hc
  ·rcases lt_or_ge z b.length with q | q
   ·rw [X3 p q] at hc
    rcases List.mem_append.mp hc with hc | hc
    ·exact .inl (List.mem_of_mem_take hc)
    ·rcases List.mem_cons.mp hc with hc | hc
     ·exact .inr hc
     ·rcases zE3 k (b.drop z) (by rw [length_drop];omega) c hc with hc | hc
      ·exact .inl (List.mem_of_mem_drop hc)
      ·exact .inr hc
   ·rw [yq q] at hc;exact .inl hc
theorem zI6 {a:List Nat} (h:Asc a) (hm:m < 127):Asc (gr z m a):=fun c hc=>by
 unfold gr at hc
 rcases zE3 _ a.reverse (Nat.le_refl _) c (List.mem_reverse.mp hc) with z | z
 ·exact h c (List.mem_reverse.mp z)
 ·rw [z];exact hm
theorem zGF {b:List Nat} (h:0 < b.length):(RJ z m b).getD 0 0=b.getD 0 0:=by
 rcases eq_zero_or_pos z with p | p
 ·subst p;rw [XB]
 ·rcases lt_or_ge z b.length with q | q
  ·rw [X3 p q,yc (by rw [length_take];omega),getD_eq_getElem?_getD,List.getElem?_take,if_pos p,<- getD_eq_getElem?_getD]
  ·rw [yq q]
theorem zFi {a:List Nat} (h:0 < a.length):(gr z m a).getD ((gr z m a).length - 1) 0=a.getD (a.length - 1) 0:=by
 have l:=zCB (z:=z) (m:=m) (a:=a)
 have e1:(RJ z m a.reverse).getD 0 0=a.reverse.getD 0 0:=zGF (by rw [length_reverse];exact h)
 rw [VN h] at e1
 have e2:(gr z m a).reverse=RJ z m a.reverse:=by unfold gr;rw [reverse_reverse]
 rw [<- e2,VN (by omega)] at e1
 rw [show (gr z m a).length - 1=(gr z m a).length - 1 - 0 by omega,e1];rfl
theorem zBu {a:List Nat} (h:0 < a.length):(gr z m a).getD 0 0=a.getD 0 0:=by
 have f:=zD3 (z:=z) (m:=m) (a:=a) (k:=0) h
 rw [drop_zero] at f
 rw [f];rfl
theorem j8.get {b:Int} {l:List Nat} (h:j8 b l) {i:Nat} (hi:i < l.length):0<=fv (l.getD i 0):=by
 rw [getD_eq_getElem?_getD,getElem?_eq_getElem hi];exact (h _ (getElem_mem hi)).2.1
theorem JV {b p pt:Nat} (h2:2<=b) (h16:b<=16) (hp:p<=6) (h:n < b ^ (40+p)) (hpt:pt < 127) (hm:m < 127):Fg (bdy b p pt z m n)/\Asc (bdy b p pt z m n)/\(bdy b p pt z m n).length<=100:=by
 have ds:=yD h2 h16 hp h
 have ws:=Jd h2 h16 hp h
 have wr:=Yr b p n
 have fw:j8 b (whl b p n):=fun c hc=>ds.1 c (by rw [<- wr];exact mem_append_left _ hc)
 have fr:j8 b (rst b p n):=fun c hc=>ds.1 c (by rw [<- wr];exact mem_append_right _ hc)
 have gl:=zCB (z:=z) (m:=m) (a:=whl b p n)
 have ag:=zI6 (z:=z) (m:=m) fw.asc hm
 unfold bdy Fg
 rcases eq_zero_or_pos p with q | q
 ·rw [if_pos q]
  refine ⟨⟨List.length_pos_iff.mp (by omega),?_,?_⟩,ag,by omega⟩
  ·rw [zBu (by omega)];exact fw.get (by omega)
  ·rw [zFi (by omega)];exact fw.get (by omega)
 ·rw [if_neg (by omega)]
  refine ⟨⟨by simp,?_,?_⟩,(ag.app (Asc.one hpt)).app fr.asc,by simp only [length_append,length_singleton];omega⟩
  ·rw [append_assoc,yc (by omega),zBu (by omega)];exact fw.get (by omega)
  ·rw [Kl (by simp only [length_append,length_singleton];omega)]
   exact fr.get (by simp only [length_append,length_singleton];omega)
theorem zHg {b p pt n':Nat} (h2:2<=b) (h16:b<=16) (hp:p<=6) (h:n < b ^ (40+p)) (h':n' < b ^ (40+p)) (e:bdy b p pt z m n=bdy b p pt z m n'):n=n':=by
 have ds:=yD h2 h16 hp h
 have ds':=yD h2 h16 hp h'
 have ws:=Jd h2 h16 hp h
 have ws':=Jd h2 h16 hp h'
 have fin:whl b p n=whl b p n'->rst b p n=rst b p n'->n=n':=fun e1 e2=>by
  have v1:=ds.2.1
  have v2:=ds'.2.1
  rw [<- Yr,e1,e2,Yr] at v1
  omega
 unfold bdy at e
 rcases eq_zero_or_pos p with q | q
 ·rw [if_pos q,if_pos q] at e
  have:=congrArg (ug z) e
  rw [KZ,KZ] at this
  refine fin this ?_
  subst q;rw [Wo,Wo]
 ·rw [if_neg (by omega),if_neg (by omega)] at e
  have e3:=List.append_inj_right' e (by omega)
  have e4:=List.append_inj_left' e (by omega)
  have e5:=List.append_inj_left' e4 rfl
  have:=congrArg (ug z) e5
  rw [KZ,KZ] at this
  exact fin this e3
theorem zDJ {B:List Nat}:bod x b (stL x b++B++stT x b)=B:=by
 unfold bod
 rw [show (stL x b++B++stT x b).length - (stT x b).length=(stL x b++B).length by simp only [length_append];omega,take_append_of_le_length (Nat.le_refl _),take_length,List.drop_append,drop_of_length_le (Nat.le_refl _),Nat.sub_self];rfl
def zFP (X:Cx) (E:XK):Prop:=∀ (pins:List (Addr × Obj)) (σ:St) (e:Value) (s':Shared),XP X pins σ E e s'->X.xe e s'
section
variable {P : Program} {w : World} {K : W.Frag} {mg : Str -> Option Value} {base : Heap} {N : List Str} {qual : Str} {scope : Scope} {f : Addr} {cd : Value} {A : Around} {outer : List Env} {s : Shared} {H : Hp} {E : XK}
theorem KP:zFP (Zy (CXE P w) P w K mg base N qual scope f cd A outer s H E) E:=by
 intro pins σ e s' h
 obtain ⟨H1,s1,I1,fl⟩:=h
 obtain ⟨x,C,a0,H',B,rfl,hos,hbare,fly,clo,hx1,hx2,q⟩:=fl
 refine wpAny_leaves_onW I1.ok.frames rfl fly fun h2 fly2 sm=>?_
 refine ⟨x,C,a0,H',B,rfl,hos.trans I1.os,hbare,fly2,fun h3 st sm3=>?_,?_,hx2,q⟩
 ·have cl:=clo h3 st (sm.trans sm3)
  have I3:=I1.call' (s':={ s' with heap:=h3 }) hos cl.1 cl.2 hbare (fun b z=>nomatch z)
  exact ⟨I3.base,I3.hok⟩
 ·cases z:s.heap.get? x with
  | none=>rfl
  | some o =>
   obtain ⟨o',e1⟩:=I1.base.there x o z (fun h=>nomatch h)
   rw [hx1] at e1;cases e1
end
theorem zEm (F:zHj X.prog X.w X.K X.mg X.base x k ps sp) (pp:zFP X E) (hr:xn n X.A) (hg:Gl X x) (ha:PA X (e::es) t)
  (hk:k<=n:=by decide)
  (hdb:(x == ("__debug__" : Str))=false:=by decide) (he:starEach (e::es) X.env=(false,eval e X.env)::starEach es X.env:=by rfl) (hpl:(backTo pos (starEach es X.env)).any (·.1)=false:=by rfl) :
  PE X (.Call (.Name x p) (e::es) [] pos) (K6 sp [] E t):=by
 intro pins s σ H Q I h
 obtain ⟨f,fd,G,hm,kp,hb⟩:=F
 refine wpAny_Call_Name_kw (jE I hg hm ?_ hdb)
 refine W.callWith_K (h₀:=X.base) I.ok.mod.kin kp (thn (ha pos pins s σ H _ I h) fun us s1 ⟨vs,H1,I1,r,q⟩=>⟨I1.kIn,?_⟩) he hpl
 have r2:qR (vs++[]) (us++[]):=r.append .nil
 have hl:(us++[]).length=ps.length:=by rw [<- r2.length];exact G.len _ _ _ _ q
 refine wpAny_call (codeAny_mono (G.run X.A X.stack s1 H1 ⟨us,[]⟩ (us++[]) (vs++[]) Q E (hr.mono hk) I1.env0 (hb s1 us I1.kIn hl) r2 q) fun r s' hq=>?_)
 cases r with
 | error e=>exact pp pins σ e s' ⟨H1,s1,I1,hq⟩
 | ok fl =>
  cases fl with
  | ret u=>exact I1.after hq
  | next=>exact hq.elim
  | brk=>exact hq.elim
  | cont=>exact hq.elim
variable {N:List Str} {qual:Str} {f:Addr}
theorem zCa {base:Heap} {scope:Scope} {cd:Value} {A:Around} {outer:List Env} {s:Shared}:x9 (CXE P w) (Zy (CXE P w) P w K mg base N qual scope f cd A outer s H E) E:=fun pins σ H1 s1 e s' I h=>KP pins σ e s' ⟨H1,s1,I,h⟩
abbrev tsV (ts:List (List Nat)):List V:=ts.map fun l=>V.str (T l)
theorem zBz (ts:List (List Nat)):(tsV ts).all Xz=true:=by
 rw [List.all_eq_true];intro x hx
 obtain ⟨l,_,rfl⟩:=List.mem_map.mp hx
 rfl
theorem zH6 (a b:List Nat):eqV (.str (T a)) (.str (T b))=decide (a=b):=by
 show (T a == T b)=_
 rw [Bool.eq_iff_iff,beq_iff_eq,decide_eq_true_iff,zKU]
section
variable {X : Cx} {H : Hp} {Q : VK} {K : W.Frag}
theorem zFM (t:List Nat) (ts:List (List Nat)):inV (.str (T t)) (tsV ts)=decide (t ∈ ts):=by
 unfold inV
 rw [Bool.eq_iff_iff,List.any_eq_true,decide_eq_true_iff]
 constructor
 ·rintro ⟨y,hy,e⟩
  obtain ⟨l,hl,rfl⟩:=List.mem_map.mp hy
  rw [zH6,decide_eq_true_iff] at e
  exact e ▸ hl
 ·intro h
  exact ⟨_,List.mem_map.mpr ⟨t,h,rfl⟩,by rw [zH6,decide_eq_true_iff]⟩
theorem zJI {p:Addr} {t:List Nat} (h:SqL K H p (tsV ts)) (q:Q (.bl (decide (t ∈ ts))) H):rIn K false (.str (T t)) (.ref p) H Q:=⟨p,_,rfl,.inl h,rfl,zBz ts,by rw [zFM];exact q⟩
theorem zHM {p:Addr} {t:List Nat} (h:SqL K H p (tsV ts)) (q:Q (.bl (!decide (t ∈ ts))) H):rIn K true (.str (T t)) (.ref p) H Q:=⟨p,_,rfl,.inl h,rfl,zBz ts,by rw [zFM];exact q⟩
theorem zF6 {p:Addr} (h:SqL K H p (tsV ts)) (h0:0 < ts.length) (q:Q (.str (T (ts.getD (ts.length - 1) []))) H):zD0 K (.ref p) (.int (-1)) H Q:=by
 refine zF7 h (v:=.str (T (ts.getD (ts.length - 1) []))) ?_ q
 unfold atI ixN
 rw [length_map,if_neg (show ¬ (0:Int) <= -1 by decide),if_pos (show -(ts.length:Int) <= -1 by omega)]
 show (tsV ts)[((-1:Int)+ts.length).toNat]? = _
 rw [show ((-1:Int)+ts.length).toNat=ts.length - 1 by omega,getElem?_map,getD_eq_getElem?_getD,getElem?_eq_getElem (by omega)]
 rfl
def zCi (K:W.Frag):List V->Hp->VK->Prop:=fun xs H Q=>∃ p ys,xs=[.ref p]/\(SqL K H p ys\/SqT K H p ys) /\ ∀ l,H l=none->Q (.ref l) (upd H l (.lst ys))
theorem Jm:yQ X (.type "list") (zCi X.K):=Km
theorem Wu {p:Addr} {ys:List V} (h:SqL K H p ys) (q : ∀ l H',zT H H'->H l=none->H' l=some (.lst ys)->Q (.ref l) H'):zCi K [.ref p] H Q:=⟨p,ys,rfl,.inl h,fun l hl=>q l _ (qM (zT.refl _) hl) hl zR⟩
theorem Qe (hz:xs.length<=sizeLine) (q : ∀ l H',zT H H'->H l=none->H' l=some (.lst xs)->Q (.ref l) H'):zJr Q xs H:=⟨hz,fun l hl=>q l _ (qM (zT.refl _) hl) hl zR⟩
def zCn:V->List V->Hp->VK->Prop:=fun x xs H Q=>∃ a b:List Nat,x = .str (T a)/\xs=[.str (T b)]/\Q (.bl (decide (a.take b.length=b))) H
theorem zHR (a b:List Nat):Txt.startswith (T a) (T b)=decide (a.take b.length=b):=by
 have la:(T a).length=a.length:=rfl
 have lb:(T b).length=b.length:=rfl
 unfold Txt.startswith
 rw [StrLaws.subAt_eq,drop_zero,la,lb]
 show (decide (0+b.length<=a.length) && (a.take b.length == b))=_
 rw [Bool.eq_iff_iff,Bool.and_eq_true,decide_eq_true_iff,decide_eq_true_iff,beq_iff_eq]
 constructor
 ·exact fun h=>h.2
 ·intro h
  have:=congrArg List.length h
  rw [length_take] at this
  exact ⟨by omega,h⟩
theorem X1:MtR X "str.startswith" zCn:=by
 intro pins s σ H x xs v us Q I rx rv h
 obtain ⟨a,b,rfl,rfl,q⟩:=h
 obtain ⟨t,rfl⟩:=rx
 obtain ⟨u,rfl,ru⟩:=rv.one
 obtain ⟨t',rfl⟩:=ru
 exact SC.startswith ⟨.bl _,H,I,rfl,by rw [zHR];exact q⟩
theorem zD9 {a b:List Nat} (q:Q (.bl (decide (a.take b.length=b))) H):zCn (.str (T a)) [.str (T b)] H Q:=⟨a,b,rfl,rfl,q⟩
end
def lk (n w:Int):Int:=if n < w then w - n else 0
def y4 (x:Str):Prop:=x = "left" \/ x = "right" \/ x = "middle"
def pA (x:Str) (n w:Int):Int:=if x = "left" then 0 else if x = "right" then lk n w else lk n w / 2
def pB (x:Str) (n w:Int):Int:=lk n w - pA x n w
theorem QY (n w:Int) (h0:0<=n) (hw:w<=40):0<=lk n w/\lk n w<=40/\(w<=n->lk n w=0)/\(n<=w->lk n w=w - n):=by unfold lk;split <;> omega
theorem pAl (n w:Int):pA "left" n w=0:=by unfold pA;rw [if_pos rfl]
theorem pAr (n w:Int):pA "right" n w=lk n w:=by unfold pA;rw [if_neg (by decide +kernel),if_pos rfl]
theorem pAm (n w:Int):pA "middle" n w=lk n w / 2:=by unfold pA;rw [if_neg (by decide +kernel),if_neg (by decide +kernel)]
def zEG (x:Str) (n w:Int):Prop:=0<=pA x n w/\0<=pB x n w/\pA x n w+pB x n w=lk n w/\(x = "left" -> pA x n w=0)/\(x = "right" -> pB x n w=0)/\(x = "middle" -> pB x n w=pA x n w\/pB x n w=pA x n w+1)
theorem x4 {n w:Int} (hs:y4 x) (h0:0<=n) (hw:w<=40):zEG x n w:=by
 have b:=QY n w h0 hw
 unfold zEG pB
 rcases hs with rfl | rfl | rfl
 ·rw [pAl];exact ⟨by omega,by omega,by omega,fun _=>rfl,fun h=>absurd h (by decide +kernel),fun h=>absurd h (by decide +kernel)⟩
 ·rw [pAr];exact ⟨by omega,by omega,by omega,fun h=>absurd h (by decide +kernel),fun _=>by omega,fun h=>absurd h (by decide +kernel)⟩
 ·rw [pAm];exact ⟨by omega,by omega,by omega,fun h=>absurd h (by decide +kernel),fun h=>absurd h (by decide +kernel),fun _=>by omega⟩
def pad (t:List Nat) (w:Int) (f:Nat) (x:Str):List Nat:=List.replicate (pA x t.length w).toNat f++t++List.replicate (pB x t.length w).toNat f
theorem Xa {t:List Nat} {w:Int} {f:Nat} (h:zEG x t.length w):((pad t w f x).length:Int)=t.length+lk t.length w:=by
 unfold pad;obtain ⟨h1,h2,h3,_⟩:=h
 simp only [length_append,length_replicate];omega
theorem zAL {t:List Nat} {w:Int} {f:Nat} (h:zEG x t.length w) (h1:w<=t.length) (h2:w<=40):pad t w f x=t:=by
 have b:=QY t.length w (by omega) h2
 obtain ⟨a1,a2,a3,_⟩:=h
 unfold pad
 rw [show (pA x t.length w).toNat=0 by omega,show (pB x t.length w).toNat=0 by omega];simp
def sl (t:List Nat) (w:Int) (x:Str) (n:Nat):List Nat:=(t.take ((pA x n w)+n).toNat).drop (pA x n w).toNat
def gd (t:List Nat) (w:Int) (f:Nat) (x:Str) (n:Nat):Bool:=decide (pad (sl t w x n) w f x=t)
def ql (t:List Nat) (w:Int) (f:Nat) (x:Str):List (List Nat):=if w < t.length then [t] else ((List.range (w+1).toNat).filter (gd t w f x)).map (sl t w x)
theorem pab {n w:Int} (hs:y4 x) (h0:0<=n) (hw:w<=40):(0<=pA x n w/\pA x n w<=40)/\(0<=pB x n w/\pB x n w<=40)/\(pA x n w).toNat<=40/\(pB x n w).toNat<=40:=by
 obtain ⟨b1,b2,b3,_⟩:=x4 hs h0 hw
 have l:=(QY n w h0 hw).2.1
 have a1:pA x n w<=40:=by omega
 have a2:pB x n w<=40:=by omega
 exact ⟨⟨b1,a1⟩,⟨b2,a2⟩,Int.toNat_le.mpr a1,Int.toNat_le.mpr a2⟩
theorem zE9 {w:Int} (hs:y4 x) (h:(n:Int)<=w) (hw:w<=40) : ∃ a b:Nat,pA x n w=a/\pB x n w=b/\(a+b+n:Int)=w/\(x = "left" -> a=0)/\(x = "right" -> b=0)/\(x = "middle" -> a=(w.toNat - n) / 2):=by
 have b:=x4 (n:=n) hs (by omega) hw
 have l:=(QY n w (by omega) hw).2.2.2 h
 obtain ⟨b1,b2,b3,b4,b5,b6⟩:=b
 rw [l] at b3
 obtain ⟨A,ha⟩:=Int.eq_ofNat_of_zero_le b1
 obtain ⟨B,hb⟩:=Int.eq_ofNat_of_zero_le b2
 rw [ha] at b3 b4 b6;rw [hb] at b3 b5 b6
 have q:w.toNat - n=A+B:=by omega
 rw [q]
 have q2:(A+B+n:Int)=w:=by omega
 clear b3 b1 b2 l h hw q
 exact ⟨A,B,ha,hb,q2,fun h=>Int.ofNat.inj (b4 h),fun h=>Int.ofNat.inj (b5 h),fun h=>by have:=b6 h;clear b4 b5 b6 q2 ha hb;omega⟩
theorem zE8 {t:List Nat} {w:Int} {a:Nat} (e:pA x n w=a):sl t w x n=(t.take (a+n)).drop a:=by
 unfold sl;rw [e];congr 1
theorem zE6 {t:List Nat} {w:Int} (hs:y4 x) (h:(n:Int)<=w) (hw:w<=40) (ht:(t.length:Int)=w):(sl t w x n).length=n:=by
 obtain ⟨a,b,e1,e2,e3,_⟩:=zE9 hs h hw
 rw [zE8 e1,length_drop,length_take];omega
theorem Zv {t:List Nat} {w:Int} {f:Nat} (h:w < t.length):ql t w f x=[t]:=by unfold ql;rw [if_pos h]
theorem Vy {t:List Nat} {w:Int} {f:Nat} (hs:y4 x) (hw:w<=40) (h:(t.length:Int) < w):ql t w f x=[]:=by
 unfold ql
 rw [if_neg (by omega),List.filter_eq_nil_iff.mpr,List.map_nil]
 intro n _ g
 unfold gd at g
 have g':=congrArg List.length (of_decide_eq_true g)
 have b:=x4 (n:=(sl t w x n).length) hs (by omega) hw
 have l:=Xa (f:=f) b
 have c:=QY (sl t w x n).length w (by omega) hw
 omega
theorem zI5 {t:List Nat} {w:Int} {f:Nat} (hs:y4 x) (hw:w<=40) (h:(t.length:Int)<=w):sl (pad t w f x) w x t.length=t/\gd (pad t w f x) w f x t.length=true/\((pad t w f x).length:Int)=w:=by
 obtain ⟨a,b,e1,e2,e3,_⟩:=zE9 (n:=t.length) hs h hw
 have hl:sl (pad t w f x) w x t.length=t:=by
  rw [zE8 e1];unfold pad
  rw [e1,e2,Int.toNat_natCast,Int.toNat_natCast,List.take_left' (by rw [length_append,length_replicate]),List.drop_left' (by rw [length_replicate])]
 refine ⟨hl,?_,?_⟩
 ·unfold gd;rw [hl,decide_eq_true_iff]
 ·have l:=Xa (f:=f) (x4 (n:=t.length) hs (by omega) hw)
  have c:=QY t.length w (by omega) hw
  omega
theorem Qd {t:List Nat} {w:Int} {f:Nat} (sx:y4 x) (hw:w<=40) {c:List Nat} (h:c ∈ ql t w f x):pad c w f x=t:=by
 unfold ql at h
 split at h
 ·rename_i hl
  rw [List.mem_singleton.mp h]
  exact zAL (x4 sx (by omega) hw) (by omega) hw
 ·obtain ⟨n,hn,rfl⟩:=List.mem_map.mp h
  exact of_decide_eq_true (List.mem_filter.mp hn).2
theorem zAZ {t:List Nat} {w:Int} {f:Nat} (sx:y4 x) (hw:w<=40):t ∈ ql (pad t w f x) w f x:=by
 rcases Int.lt_or_le w t.length with q | q
 ·rw [zAL (x4 sx (by omega) hw) (by omega) hw,Zv q];exact List.mem_singleton.mpr rfl
 ·obtain ⟨p1,p2,p3⟩:=zI5 (f:=f) sx hw q
  unfold ql
  rw [if_neg (by omega)]
  exact List.mem_map.mpr ⟨t.length,List.mem_filter.mpr ⟨List.mem_range.mpr (by omega),p2⟩,p1⟩
theorem Qg {t:List Nat} {w:Int} {f:Nat} (sx:y4 x) (hw:w<=40) {c:List Nat}:c ∈ ql t w f x↔pad c w f x=t:=⟨Qd sx hw,fun h=>h ▸ zAZ sx hw⟩
theorem kz {t:List Nat} {w:Int} {f:Nat} (sx:y4 x) (hw:w<=40):(ql t w f x).Nodup:=by
 rcases Int.lt_trichotomy (t.length:Int) w with h | h | h
 ·rw [Vy sx hw h];exact List.nodup_nil
 ·unfold ql
  rw [if_neg (by omega)]
  refine List.pairwise_map.mpr ?_
  have pr:((List.range (w+1).toNat).filter (gd t w f x)).Pairwise (· ≠ ·):=List.Pairwise.filter _ (List.nodup_range)
  refine (List.Pairwise.and_mem.mp pr).imp ?_
  rintro a b ⟨ha,hb,hne⟩ e
  have la:=List.mem_range.mp (List.mem_filter.mp ha).1
  have lb:=List.mem_range.mp (List.mem_filter.mp hb).1
  have e2:=congrArg List.length e
  rw [zE6 sx (by omega) hw h,zE6 sx (by omega) hw h] at e2
  exact hne e2
 ·rw [Zv h];exact List.nodup_cons.mpr ⟨by simp,List.nodup_nil⟩
structure WW (K:W.Frag) (x qual:Str) (st:Stmt) (f:Addr) (fd:FuncData):Prop where
 ex : ∃ (oc:Value) (od:Option Addr) (dV kV doc pm:Value) (an:Option Addr) (cdv ct:Value) (osl:Array (Option Value)),
  fd=W.fnOf x qual (qL st) (z7 st) (zH st) dV kV doc pm an cdv ct/\K.lookup f=some ⟨oc,od,.func fd,osl⟩/\W.codeIn K cdv qual=true
 kp:W.keepIn K (.ref f)=true
variable {st:Stmt}
theorem Fun.d (F:Fun K x qual st f fd):WW K x qual st f fd:=by
 obtain ⟨oc,od,kV,doc,pm,an,cdv,ct,osl,h⟩:=F.ex
 exact ⟨⟨oc,od,.none,kV,doc,pm,an,cdv,ct,osl,h⟩,F.kp⟩
section
variable {P : Program} {w : World} {K : W.Frag} {mg : Str -> Option Value} {base : Heap}
theorem WW.ok (F:WW K x qual st f fd) (S:zO N ps (zH st)) (len : ∀ vs H Q E,sp vs H Q E->vs.length=ps.length)
  (hbody : ∀ (cdv:Value) (A:Around) (outer:List Env) (s:Shared) (H:Hp) (vs:List V) (Q:VK) (E:XK),xn k (A.deeper (envOfC qual (zH st) s.heap.objs.size f cdv))->sp vs H Q E ->
   ∃ t,PSs (Zy CX0 P w K mg base N qual (zH st) f cdv A outer s H E).nox (z7 st) t/\t { nx:=fun _ H'=>Q .non H',rt:=Q } (start N vs) H):x5 P w K mg base CX0 (k+1) f fd ps sp:=by
 obtain ⟨oc,od,dV,kV,doc,pm,an,cdv,ct,osl,rfl,lk,hcd⟩:=F.ex
 refine zBG lk hcd S len fun A outer s H vs Q E hr hsp=>?_
 obtain ⟨t,h,q⟩:=hbody cdv A outer s H vs Q E hr hsp
 exact ⟨t,h.nox,q⟩
theorem WW.okX (F:WW K x qual st f fd) (S:zO N ps (zH st)) (len : ∀ vs H Q E,sp vs H Q E->vs.length=ps.length)
  (hbody : ∀ (cdv:Value) (A:Around) (outer:List Env) (s:Shared) (H:Hp) (vs:List V) (Q:VK) (E:XK),xn k (A.deeper (envOfC qual (zH st) s.heap.objs.size f cdv))->sp vs H Q E ->
   zCL (Zy (CXE P w) P w K mg base N qual (zH st) f cdv A outer s H E) E->x9 (CXE P w) (Zy (CXE P w) P w K mg base N qual (zH st) f cdv A outer s H E) E -> ∃ t,PSs (Zy (CXE P w) P w K mg base N qual (zH st) f cdv A outer s H E) (z7 st) t/\t { nx:=fun _ H'=>Q .non H',rt:=Q } (start N vs) H):x5 P w K mg base (CXE P w) (k+1) f fd ps sp:=by
 obtain ⟨oc,od,dV,kV,doc,pm,an,cdv,ct,osl,rfl,lk,hcd⟩:=F.ex
 exact zBG lk hcd S len fun A outer s H vs Q E hr hsp=>hbody cdv A outer s H vs Q E hr hsp (fun pins σ H s h' x C args I hm q=>Xs I hm q) zCa
theorem WW.binds (F:WW K x qual st f fd)
  (h : ∀ (dV kV doc pm:Value) (an:Option Addr) (cdv ct:Value) (us:List Value),us.length=ps.length->bindArgs (W.fnOf x qual (qL st) (z7 st) (zH st) dV kV doc pm an cdv ct) ⟨us,[]⟩=pure (ps.zip us)):x8 K fd ps []:=by
 obtain ⟨oc,od,dV,kV,doc,pm,an,cdv,ct,osl,rfl,lk,hcd⟩:=F.ex
 exact .all (h dV kV doc pm an cdv ct)
theorem zBk {oc:Value} {od an:Option Addr} {osl:Array (Option Value)} {dV kV doc pm cdv ct:Value} (l:K.lookup f=some ⟨oc,od,.func (W.fnOf x qual (qL st) (z7 st) (zH st) dV kV doc pm an cdv ct),osl⟩)
  (c:W.codeIn K cdv qual=true) (k:W.keepIn K (.ref f)=true):WW K x qual st f (W.fnOf x qual (qL st) (z7 st) (zH st) dV kV doc pm an cdv ct):=⟨⟨oc,od,dV,kV,doc,pm,an,cdv,ct,osl,rfl,l,c⟩,k⟩
end
def zJx (P:Program) (w:World) (K:W.Frag) (mg:Str->Option Value) (base:Heap) (CX:CXT) (C:Addr) (m:Str) (k:Nat) (ps:List Str) (sp:Sp):Prop:=
 ∃ (f:Addr) (fd:FuncData),x5 P w K mg base CX k f fd ps sp/\zKV K C m f/\x8 K fd ps []
def zKe (P:Program) (w:World) (K:W.Frag) (mg:Str->Option Value) (base:Heap) (CX:CXT) (C:Addr) (k:Nat) (ps:List Str) (sp:Sp):Prop:=
 ∃ (f:Addr) (fd:FuncData),x5 P w K mg base CX k f fd ps sp/\Mk K C f/\x8 K fd ps []
structure zJ8 (K:W.Frag) (C:Addr) (m:Str) (f:Addr):Prop where
 sp:W.specialIn K (.ref C) "__getattribute__" = some (some (.builtin "type.__getattribute__"))
 rd:W.readsIn K C (.type "type")=true
 fc:W.findCls K (.ref C) (.type "type") m=some (.val (.ref f))
 kp:W.keepIn K (.ref f)=true
def zJt (P:Program) (w:World) (K:W.Frag) (mg:Str->Option Value) (base:Heap) (CX:CXT) (C:Addr) (m:Str) (k:Nat) (ps:List Str) (sp:Sp):Prop:=
 ∃ (f:Addr) (fd:FuncData),x5 P w K mg base CX k f fd ps sp/\zJ8 K C m f/\x8 K fd ps []
section
variable {X : Cx} {CX : CXT} {k n : Nat} {C : Addr} {ps : List Str} {sp : Sp} {E : XK} {x m : Str} {p np pos apos : Pos} {e o : Expr} {es : List Expr} {ta : TE} {t : TA}
theorem zc {pl:Sem Bool} (F:zJx X.prog X.w X.K X.mg X.base CX C m k ps sp) (c:Cls X.K C) (hx:x9 CX X E) (hr:xn n X.A) (he:PE X o ta) (ha:PA X (e::es) t) (hk:k<=n:=by decide)
  (hst:starEach (e::es) X.env=(false,eval e X.env)::starEach es X.env:=by rfl) (hpl:(backTo pos (starEach es X.env)).any (·.1)=false:=by rfl)
  (ht:eval (.Call (.Attribute o m apos) (e::es) [] pos) X.env=(do
   let ov <- eval o X.env
   standAt apos.atName
   let (f,first) <- holding [ov] (getMethod ov m pl)
   callWith pos f first (backTo pos (starEach (e::es) X.env)) (backToKw pos (keywordEach [] X.env))):=by rfl) :
  PE X (.Call (.Attribute o m apos) (e::es) [] pos) (Yy C m sp [] E ta t):=by
 obtain ⟨f,fd,G,M,b⟩:=F
 exact zGg (pl:=pl) he c M (G.mono hk) hr b .nil hx ha hst hpl ht
theorem Yt (F:zKe X.prog X.w X.K X.mg X.base CX C k ps sp) (hx:x9 CX X E) (hr:xn n X.A) (hg:Gl X x) (hm:X.mg x=some (.ref C)) (ha:PA X (e::es) t) (hk:k+1<=n:=by decide)
  (hdb:(x == ("__debug__" : Str))=false:=by decide) (he:starEach (e::es) X.env=(false,eval e X.env)::starEach es X.env:=by rfl) (hpl:(backTo pos (starEach es X.env)).any (·.1)=false:=by rfl) :
  PE X (.Call (.Name x p) (e::es) [] pos) (zHP C sp [] E t):=by
 obtain ⟨f,fd,G,M,b⟩:=F
 exact zGT M G (hr.mono hk) hg hm b .nil hx ha hdb he hpl
theorem XI {pl:Sem Bool} (F:zJt X.prog X.w X.K X.mg X.base CX C m k ps sp) (hx:x9 CX X E) (hr:xn n X.A) (hg:Gl X x) (hm:X.mg x=some (.ref C)) (ha:PA X (e::es) t) (hk:k<=n:=by decide)
  (hdb:(x == ("__debug__" : Str))=false:=by decide) (hst:starEach (e::es) X.env=(false,eval e X.env)::starEach es X.env:=by rfl) (hpl:(backTo pos (starEach es X.env)).any (·.1)=false:=by rfl)
  (ht:eval (.Call (.Attribute (.Name x np) m apos) (e::es) [] pos) X.env=(do
   let ov <- eval (.Name x np) X.env
   standAt apos.atName
   let (f,first) <- holding [ov] (getMethod ov m pl)
   callWith pos f first (backTo pos (starEach (e::es) X.env)) (backToKw pos (keywordEach [] X.env))):=by rfl) :
  PE X (.Call (.Attribute (.Name x np) m apos) (e::es) [] pos) (K6 sp [] E t):=by
 intro pins s σ H Q I h
 obtain ⟨f,fd,G,M,b⟩:=F
 refine W.methodCall_KW (pl:=pl) (jE I hg hm ?_ hdb) ht
 refine W.method_cls I.kIn M.sp (W.cls_value I.kIn M.rd M.fc rfl ?_)
 have I1:=I.tok (s.toks+1)
 refine W.callWith_K (first:=[]) (h₀:=X.base) I.ok.mod.kin M.kp (thn (ha pos pins _ σ H _ I1 h) fun us s2 ⟨vs,H2,I2,r,q2⟩=>⟨I2.kIn,?_⟩) hst hpl
 exact zAI (us:=us) (vs:=vs) (G.mono hk) hr b .nil hx I2 r q2
end
section
variable {σ : St} {H : Hp} {Q : VK} {D : QQ} {K : W.Frag} {C : Addr} {m f : Str} {sp : Sp} {E : XK} {ta tv : TE} {t : TA} {a : Addr}
def zFU (H:Hp) (a C:Addr) (m:Str):Prop:=∃ dx fs,H a=some (.ins C dx fs)/\fs.lookup m=none
def xx (K:W.Frag) (H:Hp) (a:Addr) (f:Str) (v:V):Prop:=∃ C dx fs,H a=some (.ins C dx fs)/\Cls K C/\y6 K C f/\fs.lookup f=some v
theorem zFU.same (g:zT H H') (h:zFU H a C m):zFU H' a C m:=by obtain ⟨dx,fs,e,l⟩:=h;exact ⟨dx,fs,g _ _ e,l⟩
variable {v:V}
theorem xx.same (g:zT H H') (h:xx K H a f v):xx K H' a f v:=by obtain ⟨C,dx,fs,e,l⟩:=h;exact ⟨C,dx,fs,g _ _ e,l⟩
def zGm (C:Addr) (m:Str) (sp:Sp) (dvs:List V) (E:XK) (t:TA) (σ:St) (Q:VK):VK:=fun x H1=>∃ a dx fs,x = .ref a/\H1 a=some (.ins C dx fs)/\fs.lookup m=none/\t σ H1 fun vs H2=>sp (x::(vs++dvs)) H2 Q E
variable {dvs:List V}
theorem Jr (h:ta σ H (zGm C m sp dvs E t σ Q)):Yy C m sp dvs E ta t σ H Q:=h
theorem Zx (hi:zFU H a C m) (h:t σ H fun vs H2=>sp (.ref a::(vs++dvs)) H2 Q E):zGm C m sp dvs E t σ Q (.ref a) H:=by
 obtain ⟨dx,fs,e,l⟩:=hi
 exact ⟨a,dx,fs,rfl,e,l,h⟩
def zKx (K:W.Frag) (f:Str) (Q:VK):VK:=fun x H1=>∃ a C dx fs v,x = .ref a/\H1 a=some (.ins C dx fs)/\Cls K C/\y6 K C f/\fs.lookup f=some v/\Q v H1
theorem zKm (h:ta σ H (zKx K f Q)):zKN K ta f σ H Q:=h
theorem zJo (hi:xx K H a f v) (q:Q v H):zKx K f Q (.ref a) H:=by
 obtain ⟨C,dx,fs,e,c,n,l⟩:=hi
 exact ⟨a,C,dx,fs,v,rfl,e,c,n,l,q⟩
def zKw (K:W.Frag) (f:Str) (y:V) (D:QQ) (σ:St):VK:=fun x H2=>∃ a C dx fs,x = .ref a/\H2 a=some (.ins C dx fs)/\Cls K C/\y6 K C f/\fs.length < 1000/\D.nx σ (upd H2 a (.ins C dx (JL f y fs)))
theorem zHn (h:tv σ H fun y H1=>ta σ H1 (zKw K f y D σ)):zLD K ta tv f D σ H:=h
theorem xh {dx:Addr} {fs:List (Str × V)} {y:V} (e:H a=some (.ins C dx fs)) (c:Cls K C) (n:y6 K C f) (l:fs.length < 1000) (q:D.nx σ (upd H a (.ins C dx (JL f y fs)))):zKw K f y D σ (.ref a) H:=⟨a,C,dx,fs,rfl,e,c,n,l,q⟩
def zKf (C:Addr) (sp:Sp) (dvs:List V) (E:XK) (Q:VK):List V->Hp->Prop:=fun vs H1=>∀ x dx,H1 x=none->H1 dx=none->dx≠x ->
 sp (.ref x::(vs++dvs)) (upd (upd H1 dx (.own x)) x (.ins C dx [])) (fun v H2=>v = .non/\Q (.ref x) H2) E
theorem zIC (h:t σ H (zKf C sp dvs E Q)):zHP C sp dvs E t σ H Q:=h
theorem qd (f:Str) (v:V):JL f v []=[(f,v)]:=rfl
variable {r:List (Str × V)}
theorem zh {k:Str} {x:V} (h:k≠f):JL f v ((k,x)::r)=(k,x)::JL f v r:=by
 rw [show JL f v ((k,x)::r)=(if k=f then (k,v)::r else (k,x)::JL f v r) from rfl,if_neg h]
theorem ZU {k:Str} {x:V}:((k,x)::r).lookup k=some x:=by simp [List.lookup]
theorem qF {k:Str} {x:V} (h:f≠k):((k,x)::r).lookup f=r.lookup f:=by
 have:(f == k)=false:=by simpa using h
 simp [List.lookup,this]
end
def Wk (σc σ:St):Prop:=σc.length=σ.length /\ ∀ (i:Nat) v,σc[i]? = some (some v)->σ[i]? = some (some v)
theorem Wk.nil:Wk [] []:=⟨rfl,fun i v h=>h⟩
theorem Wk.one {a b:St} {x:Option V} (h:Wk a b):Wk (x::a) (x::b):=⟨by rw [length_cons,length_cons,h.1],fun i v e=>by
 cases i with
 | zero=>exact e
 | succ i=>exact h.2 i v e⟩
theorem Wk.any {a b:St} {x:Option V} (h:Wk a b):Wk (none::a) (x::b):=⟨by rw [length_cons,length_cons,h.1],fun i v e=>by
 cases i with
 | zero=>exact absurd (Option.some.inj e) (by simp)
 | succ i=>exact h.2 i v e⟩
def Cx.tr (X:Cx) (pins:List (Addr × Obj)) (σc:St) (E:XK):Cx:={ X with pn:=X.pn++pins,xe:=XP X pins σc E }
section
variable {X : Cx} {pins pins0 : List (Addr × Obj)} {σ σc : St} {H : Hp} {s : Shared} {E : XK}
theorem Cx.Ok.tr (ok:X.Ok):(X.tr pins σc E).Ok:=⟨ok.mod,ok.kind,ok.glob,ok.blt,ok.above,ok.inj,ok.has,ok.cab,ok.hd,ok.frames,ok.stk,ok.exf,ok.bs,ok.bsz,ok.noex,ok.exfs,ok.funs,ok.frf⟩
theorem Cx.Ok.untr (ok:(X.tr pins σc E).Ok):X.Ok:=⟨ok.mod,ok.kind,ok.glob,ok.blt,ok.above,ok.inj,ok.has,ok.cab,ok.hd,ok.frames,ok.stk,ok.exf,ok.bs,ok.bsz,ok.noex,ok.exfs,ok.funs,ok.frf⟩
theorem Inv.tr (I:Inv X pins σ H s):Inv (X.tr pins σc E) [] σ H s:=⟨I.ok.tr,I.os,I.bare,I.base,I.loc,I.cell,I.free,I.freeC,fun p hp=>I.pin p (by simpa [Cx.tr] using hp),I.hok,I.len⟩
theorem Inv.untr (I:Inv (X.tr pins0 σc E) pins σ H s):Inv X pins0 σ H s:=⟨I.ok.untr,I.os,I.bare,I.base,I.loc,I.cell,I.free,I.freeC,fun p hp=>I.pin p (mem_append_left _ hp),I.hok,I.len⟩
theorem SP.untr {D:QQ} {f:Flow} {s':Shared} (h:SP (X.tr pins0 σc E) pins D f s'):SP X pins0 D f s':=by
 cases f with
 | next=>obtain ⟨σ',H',I,q⟩:=h;exact ⟨σ',H',I.untr,q⟩
 | brk=>obtain ⟨σ',H',I,q⟩:=h;exact ⟨σ',H',I.untr,q⟩
 | cont=>obtain ⟨σ',H',I,q⟩:=h;exact ⟨σ',H',I.untr,q⟩
 | ret u=>obtain ⟨v,σ',H',I,r,q⟩:=h;exact ⟨v,σ',H',I.untr,r,q⟩
theorem SP.outExc {y:Addr} {D:QQ} {f:Flow} {s':Shared} (ok:X.Ok) (h:SP (X.inExc y) pins D f s'):SP X pins D f s':=by
 cases f with
 | next=>obtain ⟨σ',H',I,q⟩:=h;exact ⟨σ',H',I.outExc ok,q⟩
 | brk=>obtain ⟨σ',H',I,q⟩:=h;exact ⟨σ',H',I.outExc ok,q⟩
 | cont=>obtain ⟨σ',H',I,q⟩:=h;exact ⟨σ',H',I.outExc ok,q⟩
 | ret u=>obtain ⟨v,σ',H',I,r,q⟩:=h;exact ⟨v,σ',H',I.outExc ok,r,q⟩
end
def PHs (X:Cx) (hs:List ExceptHandler) (th:Addr->TS):Prop:=
 ∀ (pins:List (Addr × Obj)) (s:Shared) (σ:St) (H:Hp) (D:QQ) (y C:Addr) (B:Heap) (a0:Value),Heap.FlyingW B (X.env::X.outer) y (.ref C) a0 s.heap->Inv X pins σ H s ->
  (∀ h',B.StaysIn h'->s.heap.UpToSlots h'->Inv X pins σ H { s with heap:=h' })->th C D σ H->wpAny (model X.prog X.w) X.A (handleBy (.ref y) X.env hs) (SP X pins D) X.xe s
section
variable {X : Cx} {cx : Str} {C' : Addr} {ts : TS} {th : Addr -> TS} {np hpos pos : Pos} {b₀ : Stmt} {suite body : List Stmt} {Xt hs : List ExceptHandler} {h₀ : ExceptHandler} {tb : St -> XK -> TS}
theorem isx {B:Heap} {l:List Env} {y:Addr} {a0:Value} (fl:Heap.FlyingW B l y (.ref C) a0 h):zBT y C h:=by
 obtain ⟨_,_,_,oe,vs,_,_,_,h1,⟨h2,_⟩,h3,_⟩:=fl
 exact ⟨oe,h1,h2,vs,h3⟩
def zJq (tb:St->XK->TS) (th:Addr->TS):TS:=fun D σ H=>∃ σc,tb σc (fun cls _ H2=>∃ C,cls = .ref C/\th C D σc H2) D σ H
theorem zGI (hst:X.stack=X.env::X.outer) (hfr:X.env.frame=some X.env.locals) (hb : ∀ pins σc E,PSs (X.tr pins σc E) body (tb σc E)) (hh:PHs X (h₀::hs) th):PS X (.Try body (h₀::hs) [] [] pos) (zJq tb th):=by
 intro pins s σ H D I h
 obtain ⟨σc,h⟩:=h
 refine wpAny_Try_except (wpAny_mono (hb pins σc _ [] s σ H D I.tr h) (fun f s1 q=>?_) fun er s' z=>?_)
 ·cases f with
  | next=>exact wpAny_execs_nil q.untr
  | ret u=>exact q.untr
  | brk=>exact q.untr
  | cont=>exact q.untr
 ·obtain ⟨H1,s1,I1,fl⟩:=z
  obtain ⟨y,C,a0,H2,B,rfl,hos,hbare,fly,clo,hy0,hy2,C0,z0,q⟩:=fl
  cases z0
  rw [hst] at fly
  refine wpAny_looks_onW (I.ok.frames.trans (congrArg some hst)) hfr fly fun h1 held sm1=>?_
  refine wpAny_landsW held fun h2 fly2 sm2=>?_
  have cl : ∀ h',B.StaysIn h'->h2.UpToSlots h'->Inv X pins σc H2 { s' with heap:=h' }:=fun h' st sm=>by
   have c:=clo h' st ((sm1.trans sm2).trans sm)
   exact I1.call' (s':={ s' with heap:=h' }) hos c.1 c.2 hbare (fun b z=>nomatch z)
  have c2:=clo h2 fly2.1 (sm1.trans sm2)
  have I2:Inv X pins σc H2 { s' with heap:=h2 }:=I1.call' (s':={ s' with heap:=h2 }) hos c2.1 c2.2 hbare (fun b z=>nomatch z)
  exact hh pins { s' with heap:=h2 } σc H2 D y C B a0 fly2 I2 cl q
theorem zIp {D:QQ} (σc:St) (h:tb σc (fun cls _ H2=>∃ C,cls = .ref C/\th C D σc H2) D σ H):zJq tb th D σ H:=⟨σc,h⟩
end
section
variable {X : Cx} {pins0 : List (Addr × Obj)} {σc : St} {k n : Nat} {C : Addr} {ps : List Str} {sp : Sp} {E : XK} {x m : Str} {p np pos apos : Pos} {e o : Expr} {es : List Expr} {ta : TE} {t : TA}
def Wy (C:Addr) (m:Str) (sp:Sp) (E:XK) (σc:St) (ta:TE) (t:TA):TE:=fun σ H Q=>ta σ H (zGm C m (fun vs H Q E=>Wk σc σ/\sp vs H Q E) [] E t σ Q)
def zBw (sp:Sp) (E:XK) (σc:St) (t:TA):TE:=fun σ H Q=>t σ H fun vs H1=>Wk σc σ/\sp (vs++[]) H1 Q E
theorem zFk {pins:List (Addr × Obj)} {s:Shared} {us:List Value} {vs:List V} (F:x5 X.prog X.w X.K X.mg X.base (CXE X.prog X.w) k f fd ps sp) (hr:xn k X.A) (hb:x8 X.K fd ps [])
  (I:Inv (X.tr pins0 σc E) pins σ H s) (r:qR vs us) (wk:Wk σc σ) (h:sp (vs++[]) H Q E):wpAny (model X.prog X.w) X.A (call (.ref f) us) (EP (X.tr pins0 σc E) pins σ Q) (X.tr pins0 σc E).xe s:=by
 have r2:qR (vs++[]) (us++[]):=r.append .nil
 have hl:(us++[]).length=ps.length:=by rw [<- r2.length];exact F.len _ _ _ _ h
 have e0:Kz X.prog X.w X.K X.mg X.base X.A X.stack s H:=I.env0
 refine wpAny_call (codeAny_mono (F.run X.A X.stack s H ⟨us,[]⟩ (us++[]) (vs++[]) Q E hr e0 (hb s us I.kIn hl) r2 h) fun r s' hq=>?_)
 cases r with
 | error e=>exact ⟨H,s,I.untr.weak wk.1 wk.2,hq⟩
 | ok fl =>
  cases fl with
  | ret u=>exact I.after hq
  | next=>exact False.elim hq
  | brk=>exact False.elim hq
  | cont=>exact False.elim hq
theorem zAB (F:zHj X.prog X.w X.K X.mg X.base x k ps sp) (hr:xn n X.A) (hg:Gl X x) (ha:PA (X.tr pins0 σc E) (e::es) t) (hk:k<=n:=by decide)
  (hdb:(x == ("__debug__" : Str))=false:=by decide) (he:starEach (e::es) X.env=(false,eval e X.env)::starEach es X.env:=by rfl) (hpl:(backTo pos (starEach es X.env)).any (·.1)=false:=by rfl) :
  PE (X.tr pins0 σc E) (.Call (.Name x p) (e::es) [] pos) (zBw sp E σc t):=by
 intro pins s σ H Q I h
 obtain ⟨f,fd,G,hm,kp,b⟩:=F
 refine wpAny_Call_Name_kw (jE I hg hm ?_ hdb)
 refine W.callWith_K (h₀:=X.base) I.ok.mod.kin kp (thn (ha pos pins s σ H _ I h) fun us s1 ⟨vs,H1,I1,r,q⟩=>⟨I1.kIn,?_⟩) he hpl
 exact zFk (G.mono hk) hr b I1 r q.1 q.2
variable {σ : St} {H : Hp} {Q : VK}
theorem zFx (h:t σ H fun vs H1=>Wk σc σ/\sp (vs++[]) H1 Q E):zBw sp E σc t σ H Q:=h
theorem zLQ {R:Prop} (h:Wk σc σ) (q:R):Wk σc σ/\R:=⟨h,q⟩
end
section
variable {X : Cx} {tg : Expr}
def Kc (z:Str) (lo hi:Option Int) (st:Int):List Nat:=(Builtin.Str.strSliceIndices lo hi st z.length).filterMap ((Lt z)[·]?)
def zLY:V->Option Int->Option Int->Int->Hp->VK->Prop:=fun x lo hi st H Q=>∃ z:Str,x = .str z/\st≠0/\z.length<=sizeLine/\(Kc z lo hi st).length<=sizeLine /\ ∀ y,(y=T (Kc z lo hi st)\/(st=1/\y=z))->Q (.str y) H
def zLI (r:V->Option Int->Option Int->Int->Hp->VK->Prop) (te:TE) (tl th:TO) (ts:TE):TE:=fun σ H Q=>te σ H fun x H1=>tl σ H1 fun l H2=>th σ H2 fun u H3=>ts σ H3 fun s H4=>∃ i,s = .int i/\r x l u i H4 Q
theorem zC0 {v:Value} {o:Option Int} (p:IsPart v o) : ∃ l:Option (Int × Tok),v=partValue l/\l.map (·.1)=o:=by
 cases p with
 | none=>exact ⟨none,rfl,rfl⟩
 | int i t=>exact ⟨some (i,t),rfl,rfl⟩
variable {te:TE}
theorem zB6 {st:Expr} {lo hi:Option Expr} {ts:TE} {tl th:TO} {p2:Pos} (he:PE X e te) (hl:PO X lo tl) (hu:PO X hi th) (hs:PE X st ts):PE X (.Subscript e (.Slice lo hi (some st) p2) pos) (zLI zLY te tl th ts):=by
 intro pins s σ H Q I h
 refine Subscript_ (thn (he pins s σ H _ I h) fun v s1 zq=>?_)
 obtain ⟨x,H1,I1,r1,q1⟩:=zq
 refine wpAny_Slice (thn (hl pins s1 σ H1 _ I1 q1) fun vl s2 ⟨l,H2,I2,pl,q2⟩=>thn (hu pins s2 σ H2 _ I2 q2) fun vu s3 zq=>?_)
 obtain ⟨u,H3,I3,pu,q3⟩:=zq
 refine thn (hs pins s3 σ H3 _ I3 q3) fun vs s4 zq=>?_
 obtain ⟨y,H4,I4,r4,i,ey,z,ex,hst,hz,hzp,q4⟩:=zq
 subst ey ex
 obtain ⟨t,rfl⟩:=r1
 obtain ⟨t4,rfl⟩:=r4
 obtain ⟨l',rfl,hl'⟩:=zC0 pl
 obtain ⟨u',rfl,hu'⟩:=zC0 pu
 have I5:Inv X pins σ H4 { s4 with heap:=s4.heap.push { cls:=.type "slice", data:=.fields #[partValue l',partValue u',.int i t4] } }:=I4.kept (t':=s4.toks) fun b ob q=>Heap.get?_push_of_some _ q
 show wpAny (model X.prog X.w) X.A (subscriptTail e (.Slice lo hi (some st) p2) (.str z t) (.ref s4.heap.objs.size)) (EP X pins σ Q) X.xe { s4 with heap:=s4.heap.push { cls:=.type "slice", data:=.fields #[partValue l',partValue u',.int i t4] } }
 refine tail_any (ops:=[.ref s4.heap.objs.size,.str z t]) (typeIs_str _ _ _) PySem.F.slot_str_getitem.lookup ?_ (by with_unfolding_all rfl)
 refine wpAny_getItem_str_slice (l:=l') (u:=u') (st:=some (i,t4)) ⟨_,Heap.get?_push_size _ rfl,rfl,rfl⟩ (by simpa using hst) ?_
 have e:slicePicked z l' u' (some (i,t4))=Builtin.Str.strSliceIndices l u i z.length:=by unfold slicePicked;rw [hl',hu'];rfl
 unfold sliceMade
 rw [e]
 have ep:(⟨((Builtin.Str.strSliceIndices l u i z.length).filterMap (z.cps[·]?)).toArray⟩:Str)=T (Kc z l u i):=by
  unfold Kc T;congr 3;funext k;simp [Lt]
 rw [ep]
 refine post_val_or_str ⟨?_,fun t' k=>⟨.str _,H4,I5.tok _,⟨t',rfl⟩,q4 _ ?_⟩⟩
 ·split
  ·exact hz
  ·exact hzp
 ·split
  ·rename_i hc
   rw [Bool.and_eq_true] at hc
   exact .inr ⟨by simpa using hc.1,rfl⟩
  ·exact .inl rfl
theorem zJ6 {r:V->Option Int->Option Int->Int->Hp->VK->Prop} {ts:TE} {tl th:TO} (h:te σ H fun x H1=>tl σ H1 fun l H2=>th σ H2 fun u H3=>ts σ H3 fun s H4=>∃ i,s = .int i/\r x l u i H4 Q):zLI r te tl th ts σ H Q:=h
theorem Xg {is:List Nat} {tt:TT} (h1 : -(2 ^ 62)<=j) (h2:j < 2 ^ 62) (hz:j.toNat<=sizeLine) (Pv:Nat->List V->Hp->Prop) (h0:Pv 0 [] H) (hl : ∀ i ys H,i<=j.toNat->Pv i ys H->ys.length<=i)
  (hs : ∀ i ys H,i < j.toNat->Pv i ys H->tt (some (.int (0+i))::is.map fun j=>(σ[j]?).getD none) H fun ok H2=>if ok=true then te (some (.int (0+i))::is.map fun j=>(σ[j]?).getD none) H2 fun y H3=>NxC j.toNat Pv i (ys++[y]) H3 else NxC j.toNat Pv i ys H2)
  (hd : ∀ ys H,Pv j.toNat ys H -> ∀ p H',zT H H'->H p=none->H' p=some (.lst ys)->Q (.ref p) H'):zFQ is tt te σ Q [.int j] H:=by
 refine ⟨j,rfl,h1,h2,fun i m ys H=>m=j.toNat - i/\i<=j.toNat/\Pv i ys H,⟨j.toNat,by simp,Nat.zero_le _,h0⟩,?_⟩
 rintro i m ys H ⟨rfl,hi,p⟩
 have ly:=hl i ys H hi p
 refine ⟨by omega,?_⟩
 by_cases hlt:i < j.toNat
 ·refine .inr ⟨hlt,by omega,fun x H' y=>?_⟩
  obtain ⟨e,y⟩:=y
  subst e y
  exact hs i ys _ hlt p
 ·have e:i=j.toNat:=by omega
  subst e
  exact .inl ⟨Nat.le_refl _,fun p' hp=>hd ys H p p' _ (jP hp _) hp zR⟩
end
def jG (K:W.Frag) (C:Addr):List Str->Prop
 | []=>True
 | f::r=>y6 K C f/\jG K C r
theorem jG.at {f:Str} : ∀ {l:List Str},jG K C l->f ∈ l->y6 K C f
 | [],_,h=>by cases h
 | g::r,n,h=>by
  rcases List.mem_cons.mp h with rfl | h
  ·exact n.1
  ·exact n.2.at h
def bfs (wd:Int) (f:Nat) (x:Str) (st:Bool) (more:List (Str × V)):List (Str × V):=("width", .int wd)::("fill", .str (T [f]))::("side", .str x)::("strict", .bl st)::more
def bns:List Str:=["width", "fill", "side", "strict"]
structure zV (K:W.Frag) (H:Hp) (a C:Addr) (wd:Int) (f:Nat) (x:Str) (st:Bool) (more:List (Str × V)):Prop where
 at_ : ∃ dx,H a=some (.ins C dx (bfs wd f x st more))
 cl:Cls K C
 na:jG K C (bns++more.map (·.1))
section
variable {K : W.Frag} {H H' : Hp} {a C : Addr} {wd : Int} {f : Nat} {x : Str} {st : Bool} {more : List (Str × V)} {g m : Str} {v : V}
theorem zV.same (s:zT H H') (F:zV K H a C wd f x st more):zV K H' a C wd f x st more:=⟨F.at_.imp fun _ e=>s _ _ e,F.cl,F.na⟩
theorem zCx:(bfs wd f x st more).lookup ("width" : Str)=some (.int wd):=ZU
theorem zEb:(bfs wd f x st more).lookup ("fill" : Str)=some (.str (T [f])):=(qF (by decide +kernel)).trans ZU
theorem zEL:(bfs wd f x st more).lookup ("side" : Str)=some (.str x):=(qF (by decide +kernel)).trans ((qF (by decide +kernel)).trans ZU)
theorem zAd:(bfs wd f x st more).lookup ("strict" : Str)=some (.bl st):=(qF (by decide +kernel)).trans ((qF (by decide +kernel)).trans ((qF (by decide +kernel)).trans ZU))
theorem zAJ (h:g ∉ bns):(bfs wd f x st more).lookup g=more.lookup g:=by
 simp only [bns,mem_cons,List.not_mem_nil,or_false,not_or] at h
 exact (qF h.1).trans ((qF h.2.1).trans ((qF h.2.2.1).trans (qF h.2.2.2)))
theorem zV.fld (F:zV K H a C wd f x st more) (n:g ∈ bns++more.map (·.1)) (l:(bfs wd f x st more).lookup g=some v):xx K H a g v:=by
 obtain ⟨dx,e⟩:=F.at_
 exact ⟨C,dx,_,e,F.cl,F.na.at n,l⟩
theorem zV.width (F:zV K H a C wd f x st more):xx K H a "width" (.int wd):=F.fld (mem_append_left _ (by decide +kernel)) zCx
theorem zV.fill (F:zV K H a C wd f x st more):xx K H a "fill" (.str (T [f])):=F.fld (mem_append_left _ (by decide +kernel)) zEb
theorem zV.side (F:zV K H a C wd f x st more):xx K H a "side" (.str x):=F.fld (mem_append_left _ (by decide +kernel)) zEL
theorem zV.strict (F:zV K H a C wd f x st more):xx K H a "strict" (.bl st):=F.fld (mem_append_left _ (by decide +kernel)) zAd
theorem zV.own (F:zV K H a C wd f x st more) (h:g ∉ bns) (l:more.lookup g=some v) (n:g ∈ more.map (·.1)):xx K H a g v:=F.fld (mem_append_right _ n) ((zAJ h).trans l)
theorem zV.meth (F:zV K H a C wd f x st more) (h:m ∉ bns) (l:more.lookup m=none):zFU H a C m:=by
 obtain ⟨dx,e⟩:=F.at_
 exact ⟨dx,_,e,(zAJ h).trans l⟩
theorem xP (h:g ∉ bns):JL g v (bfs wd f x st more)=bfs wd f x st (JL g v more):=by
 simp only [bns,mem_cons,List.not_mem_nil,or_false,not_or] at h
 unfold bfs
 rw [zh (Ne.symm h.1),zh (Ne.symm h.2.1),zh (Ne.symm h.2.2.1),zh (Ne.symm h.2.2.2)]
end
theorem yT {f:Str} {ta:TE} (hK:X.K=K) (he:PE X e ta) (hb:attributeBase e f X.env (eval e X.env)=eval e X.env):PE X (.Attribute e f pos) (zKN K ta f):=hK ▸ ze he hb
section
variable {X : Cx} {K : W.Frag} {σ : St} {H : Hp} {Q : VK} {is : List Nat} {tt : TT} {te : TE}
theorem zAU (bs:List Bool):((List.range bs.length).all fun i=>(bs[i]?).getD true)=bs.all id:=by
 rw [Bool.eq_iff_iff,List.all_eq_true,List.all_eq_true]
 constructor
 ·intro h b hb
  obtain ⟨i,hi,rfl⟩:=List.getElem_of_mem hb
  have:=h i (List.mem_range.mpr hi)
  simpa [getElem?_eq_getElem hi] using this
 ·intro h i hi
  have hi':=List.mem_range.mp hi
  have:=h _ (getElem_mem hi')
  simpa [getElem?_eq_getElem hi'] using this
def zK9 (K:W.Frag):List V->Hp->VK->Prop:=fun xs H Q=>∃ (p:Addr) (bs:List Bool),xs=[.ref p]/\SqL K H p (bs.map V.bl)/\Q (.bl (bs.all id)) H
theorem Vq (hc:X.calm=true):yQ X (.builtin "all") (zK9 X.K):=by
 intro pins s σ H xs us Q I r h
 obtain ⟨p,bs,rfl,hp,q⟩:=h
 obtain ⟨u,rfl,ru⟩:=r.one
 cases ru
 obtain ⟨its,ri,pl,hz⟩:=I.list hp
 have hl:=pl.isList
 have hlt:p < s.heap.objs.size:=by obtain ⟨_,e,_⟩:=hl;exact Heap.lt_size e
 have hlen:its.length=bs.length:=by have:=ri.length;rw [length_map] at this;exact this.symm
 refine call_all_walk (wpAny_pyIter_list hl ?_)
 refine ⟨s.heap.objs.size,[s.heap.objs.size,p],[s.heap.objs.size],its.toArray.size,_,_,fun i=>(bs[i]?).getD true,rfl,Walks.list (A:=X.A.in1) (I.ok.hd hc) _ p (ne_of_lt hlt) its.toArray,
  ⟨⟨_,Heap.get?_push_size _ rfl,rfl,rfl⟩,hl.push _⟩,fun i v s' Q' E' hP hQ=>?_,fun h' tk hk=>?_⟩
 ·have hP':its[i]? = some v:=by simpa using hP
  have hi:i < bs.length:=by
   rcases lt_or_ge i its.length with z | z
   ·omega
   ·rw [List.getElem?_eq_none z] at hP';cases hP'
  obtain ⟨u,hu,ru⟩:=ri.get (i:=i) (x:=.bl bs[i]) (by rw [getElem?_map,getElem?_eq_getElem hi];rfl)
  rw [hP'] at hu;cases hu
  cases ru
  simp only [getElem?_eq_getElem hi,Option.getD_some] at hQ
  exact wpAny_truthy_bool hQ
 ·have e:((List.range its.toArray.size).all fun i=>(bs[i]?).getD true)=bs.all id:=by
   rw [List.size_toArray,hlen];exact zAU bs
  rw [e]
  exact ⟨.bl _,H,I.kept fun b x eb=>hk b x (fun hm=>by rw [List.mem_singleton.mp hm] at eb;exact lt_irrefl _ (Heap.lt_size eb)) (Heap.get?_push_of_some _ eb),rfl,q⟩
theorem zKR {p:Addr} {bs:List Bool} (h:SqL K H p (bs.map V.bl)) (q:Q (.bl (bs.all id)) H):zK9 K [.ref p] H Q:=⟨p,bs,rfl,h,q⟩
theorem zHo {c:Nat} {a:List Nat} (q:Q (.bl (decide (c ∈ a))) H):zJu (.str (T [c])) (.str (T a)) H Q:=zJG (by
 have e:=PySem.StrLaws.found_one (T a) c
 rw [show (T [c])=(⟨#[c]⟩:Str) from rfl,e];exact q)
theorem zFT:bootBuiltins "all" = some (.builtin "all"):=by decide +kernel
def zFK (is:List Nat) (tt:TT) (te:TE) (σ:St) (Q:VK) (x:V) (H:Hp):Prop:=∃ z:Str,x = .str z/\zBQ is tt te σ Q (Its z) H
theorem zGy {tl:TE} (h:tl σ H (zFK is tt te σ Q)):zBF is (zKB tl) tt te σ H Q:=h
theorem zD1 {a:List Nat} (hz:a.length<=sizeLine) (Pv:Nat->List V->Hp->Prop) (h0:Pv 0 [] H) (hl : ∀ i ys H,i<=a.length->Pv i ys H->ys.length<=i)
  (hs : ∀ i c ys H,a[i]? = some c->i < a.length->Pv i ys H->tt (some (.str (T [c]))::is.map fun j=>(σ[j]?).getD none) H fun ok H2=>if ok=true then te (some (.str (T [c]))::is.map fun j=>(σ[j]?).getD none) H2 fun y H3=>NxC a.length Pv i (ys++[y]) H3 else NxC a.length Pv i ys H2)
  (hd : ∀ ys H,Pv a.length ys H -> ∀ p H',zT H H'->H' p=some (.lst ys)->Q (.ref p) H'):zFK is tt te σ Q (.str (T a)) H:=by
 refine ⟨T a,rfl,fun i m ys H=>m=a.length - i/\i<=a.length/\Pv i ys H,⟨a.length,by simp,Nat.zero_le _,h0⟩,?_⟩
 rintro i m ys H ⟨rfl,hi,p⟩
 have ly:=hl i ys H hi p
 refine ⟨by omega,?_⟩
 by_cases hlt:i < a.length
 ·refine .inr ⟨hlt,by omega,fun x H' y=>?_⟩
  obtain ⟨rfl,c,hc,rfl⟩:=y
  exact hs i c ys _ hc hlt p
 ·have e:i=a.length:=by omega
  subst e
  exact .inl ⟨rfl,fun p' hp=>hd ys H p p' _ (jP hp _) zR⟩
end
mutual
inductive Dt (K:W.Frag) (H:Hp):V->PyData->Prop
 | non:Dt K H .non .none
 | bl (b:Bool):Dt K H (.bl b) (.bool b)
 | int (i:Int):Dt K H (.int i) (.int i)
 | str (z:Str):Dt K H (.str z) (.str z)
 | lst {p:Addr} {xs:List V} {ds:List PyData}:SqL K H p xs->Dts K H xs ds->Dt K H (.ref p) (.list ds)
 | tup {p:Addr} {xs:List V} {ds:List PyData}:SqT K H p xs->Dts K H xs ds->Dt K H (.ref p) (.tuple ds)
inductive Dts (K:W.Frag) (H:Hp):List V->List PyData->Prop
 | nil:Dts K H [] []
 | cons {x:V} {d:PyData} {xs:List V} {ds:List PyData}:Dt K H x d->Dts K H xs ds->Dts K H (x::xs) (d::ds)
end
section
variable {X : Cx} {pins : List (Addr × Obj)} {σ : St} {H H' : Hp} {s : Shared} {K : W.Frag} {Q : VK}
mutual
theorem Jb (I:Inv X pins σ H s) : ∀ {x:V} {d:PyData} {u:Value},Dt X.K H x d->xY x u -> ∃ as,Reads s.heap u d as
 | _,_,_,.non,r=>by cases r;exact ⟨_,.none⟩
 | _,_,_,.bl b,r=>by cases r;exact ⟨_,.bool b⟩
 | _,_,_,.int i,r=>by obtain ⟨t,rfl⟩:=r;exact ⟨_,.int i t⟩
 | _,_,_,.str z,r=>by obtain ⟨t,rfl⟩:=r;exact ⟨_,.str z t⟩
 | _,_,_,.lst h hs,r=>by
  cases r
  obtain ⟨its,ri,pl,_⟩:=I.list h
  obtain ⟨as,q⟩:=y0 I hs ri
  obtain ⟨o,e,c,n,d⟩:=pl.isList
  exact ⟨_,.list e c d (by simpa using q)⟩
 | _,_,_,.tup h hs,r=>by
  cases r
  obtain ⟨its,ri,pl,_⟩:=I.tuple h
  obtain ⟨as,q⟩:=y0 I hs ri
  obtain ⟨o,e,c,n,d⟩:=pl
  exact ⟨_,.tuple e c d (by simpa using q)⟩
theorem y0 (I:Inv X pins σ H s) : ∀ {xs:List V} {ds:List PyData} {us:List Value},Dts X.K H xs ds->qR xs us -> ∃ as,ReadsAll s.heap us ds as
 | _,_,_,.nil,.nil=>⟨_,.nil⟩
 | _,_,_,.cons h hs,.cons r rs=>by
  obtain ⟨as,q⟩:=Jb I h r
  obtain ⟨bs,qs⟩:=y0 I hs rs
  exact ⟨_,.cons q qs⟩
end
mutual
theorem Dt.same (g:zT H H') : ∀ {x:V} {d:PyData},Dt K H x d->Dt K H' x d
 | _,_,.non=>.non
 | _,_,.bl b=>.bl b
 | _,_,.int i=>.int i
 | _,_,.str z=>.str z
 | _,_,.lst h hs=>.lst (g.seq h) (Dts.same g hs)
 | _,_,.tup h hs=>.tup (SqT.same h g) (Dts.same g hs)
theorem Dts.same (g:zT H H') : ∀ {xs:List V} {ds:List PyData},Dts K H xs ds->Dts K H' xs ds
 | _,_,.nil=>.nil
 | _,_,.cons h hs=>.cons (Dt.same g h) (Dts.same g hs)
end
theorem zLm {A:Around} (hr:xn k A):A.units+20 < cLine:=Nat.lt_of_le_of_lt (Nat.add_le_add_left (by decide:20<=64) _) hr.units
end
end L2
namespace L2
open PySem PySem.Spec PyProof.Rows
open List (length_append length_map map_map)
def RsA (H:Hp) (v:V) (d:PyData):Prop:=(∃ z:Str,v = .str z/\d = .str z) \/ ∃ (q:Addr) (z:Str),v = .ref q/\H q=some (.tup [.str z])/\d = .tuple [.str z]
section
variable {H H' : Hp} {v : V} {d : PyData} {K : W.Frag}
theorem RsA.tag {q:Addr} {z:Str} (h:H q=some (.tup [.str z])):RsA H (.ref q) (.tuple [.str z]):=.inr ⟨q,z,rfl,h,rfl⟩
theorem RsA.same (g:zT H H') (h:RsA H v d):RsA H' v d:=by
 rcases h with ⟨z,a,b⟩ | ⟨q,z,a,e,b⟩
 ·exact .inl ⟨z,a,b⟩
 ·exact .inr ⟨q,z,a,g _ _ e,b⟩
theorem RsA.put {p:Addr} {xs ys:List V} (hp:H p=some (.lst xs)) (h:RsA H v d):RsA (upd H p (.lst ys)) v d:=by
 rcases h with ⟨z,a,b⟩ | ⟨q,z,a,e,b⟩
 ·exact .inl ⟨z,a,b⟩
 ·exact .inr ⟨q,z,a,by rw [qB (zKh e hp (by intro z;cases z))];exact e,b⟩
end
variable {l:List Nat}
theorem zLZ (h:Asc l):PyData.strOk (T l)=true:=by
 unfold PyData.strOk
 show (l.toArray.all fun c=>decide (c < 0x110000))=true
 rw [Array.all_eq_true_iff_forall_mem]
 intro c hc
 have:=h c (by simpa using hc)
 exact decide_eq_true (by omega)
theorem zAV {a:List Nat} {s st:Int} (h0:0<=s) (h1:s < a.length) (h2:1<=st):Kc (T a) (some s) none st≠[]/\(∀ c ∈ Kc (T a) (some s) none st,c ∈ a)/\((Kc (T a) (some s) none st).length:Int)<=a.length+st:=by
 have e:Builtin.Str.strSliceIndices (some s) none st (T a).length=(List.range (((a.length:Int) - s+st - 1) / st).toNat).map fun k:Nat=>(s+st*(k:Int)).toNat:=by
  have l:((T a).length:Int)=a.length:=rfl
  unfold Builtin.Str.strSliceIndices
  dsimp only
  rw [l,if_neg (show ¬ s < 0 by omega),if_pos (show st > 0 by omega),if_pos (show st > 0 by omega),Int.min_eq_left (by omega),Int.max_eq_right h0]
  unfold sliceRange
  rw [if_pos (show st > 0 by omega),if_pos h1]
 have hc:1<=((a.length:Int) - s+st - 1) / st:=Int.le_ediv_of_mul_le (by omega) (by omega)
 have hc2:((a.length:Int) - s+st - 1) / st<=(a.length:Int) - s+st - 1:=Int.ediv_le_self _ (by omega)
 unfold Kc
 rw [e,VP]
 refine ⟨fun z=>?_,fun c hcm=>?_,?_⟩
 ·rw [List.filterMap_eq_nil_iff] at z
  have:=z (s+st*((0:Nat):Int)).toNat (List.mem_map.mpr ⟨0,List.mem_range.mpr (by omega),rfl⟩)
  rw [show (s+st*((0:Nat):Int)).toNat=s.toNat by simp,List.getElem?_eq_getElem (by omega)] at this
  cases this
 ·obtain ⟨i,_,hi⟩:=List.mem_filterMap.mp hcm
  exact List.mem_of_getElem? hi
 ·have:=List.length_filterMap_le (fun x=>a[x]?) ((List.range (((a.length:Int) - s+st - 1) / st).toNat).map fun k:Nat=>(s+st*(k:Int)).toNat)
  rw [length_map,List.length_range] at this
  omega
variable {X:Cx} {x:Str} {k n:Nat} {ps:List Str} {sp:Sp} {p pos:Pos}
theorem Ju (F:Has X.prog X.w X.K X.mg X.base x k ps sp) (hr:xn n X.A) (hg:Gl X x) (hk:k<=n:=by decide) (hdb:(x == ("__debug__" : Str))=false:=by decide) :
  PE X (.Call (.Name x p) [] [] pos) (K6 sp [] E0 zHB):=by
 obtain ⟨f,fd,G,hm,kp,hb⟩:=F
 exact zEF G (hr.mono hk) hg hm kp hb .nil qu hdb
variable {K:W.Frag} {fd:FuncData} {it:Array Value} {osl:Array (Option Value)}
theorem zAq {t:Addr} {oc:Value} {od:Option Addr} (hl:K.lookup t=some ⟨oc,od,.seq it n,osl⟩) (hd:fd.defaults = .ref t)
  (h : ∀ us:List Value,us.length=ps.length -> ∃ k,bindArgs fd ⟨us,[]⟩=seqItems? fd.defaults >>= k/\k (some it)=pure (ps.zip us)):x8 K fd ps []:=fun s us hK hlen=>by
 rw [List.append_nil] at hlen ⊢
 obtain ⟨k,h1,h2⟩:=h us hlen
 exact .of_defaults hd (hK _ _ hl) rfl h1 h2
set_option maxHeartbeats 1000000
def C2 (h:Heap) (e:Addr):Prop:=∃ o vs,h.get? e=some o/\o.data = .fields vs/\vs[2]? = some .none
variable {h:Heap} {e:Addr} {oe:Obj} {vs:Array Value}
theorem yo {b:Addr} {o:Obj} (a:h.get? e=some oe) (d:oe.data = .fields vs) (q:h.get? b=some o) (n : ∀ us,o.data ≠ .fields us):b≠e:=by
 rintro rfl
 rw [a] at q
 cases q
 exact n vs d
variable {base:Heap} {a0:Value}
theorem zBC {g:Heap} {l:List Env} {ob:Obj} {ts:Array Value} {fl:Value} (FF:h.FunFrames base l) (sg:Heap.SlotsOnly (l.filterMap (·.frame)) h g) (a1:h.get? e=some oe)
  (a2:base.StaysIn h) (a3:base.get? e=none) (a4:oe.data = .fields vs) (a5:1 < vs.size) (a6:vs[0]? = some a0) (a7:vs[2]? = some .none) (b1:ob.data = .fields ts) (b2:ts[3]? = some fl) :
  Heap.NotedW base l e oe.cls a0 fl h ((g.push ob).update e (Obj.mapFields (·.setIfInBounds 1 (Value.ref g.objs.size))))/\C2 ((g.push ob).update e (Obj.mapFields (·.setIfInBounds 1 (Value.ref g.objs.size)))) e:=by
 have nf:e ∉ l.filterMap (·.frame):=fun m=>by
  obtain ⟨_,o,q,n⟩:=FF.mem m
  exact yo a1 a4 q n rfl
 have g1:g.get? e=some oe:=(sg.2.1 e nf).trans a1
 have ne:g.objs.size≠e:=fun z=>Nat.lt_irrefl _ (z ▸ Heap.lt_size g1)
 have d1:(Obj.mapFields (·.setIfInBounds 1 (Value.ref g.objs.size)) oe).data=_:=Obj.data_mapFields a4 _
 have self:((g.push ob).update e (Obj.mapFields (·.setIfInBounds 1 (Value.ref g.objs.size)))).get? e=some (Obj.mapFields (·.setIfInBounds 1 (Value.ref g.objs.size)) oe):=
  Heap.get?_update_self _ (Heap.get?_push_of_some _ g1) (Obj.isFreed_of_fields d1)
 have kp : ∀ {b:Addr} {o:Obj},b≠e->g.get? b=some o->((g.push ob).update e (Obj.mapFields (·.setIfInBounds 1 (Value.ref g.objs.size)))).get? b=some o:=fun {b o} n q=>by
  rw [Heap.get?_update_other _ _ (Ne.symm n)];exact Heap.get?_push_of_some _ q
 have new:((g.push ob).update e (Obj.mapFields (·.setIfInBounds 1 (Value.ref g.objs.size)))).get? g.objs.size=some ob:=by
  rw [Heap.get?_update_other _ _ (Ne.symm ne)];exact Heap.get?_push_size g (Obj.isFreed_of_fields b1)
 have bg:base.StaysIn g:=fun b o q=>(sg.2.1 b fun m=>by rw [(FF.mem m).1] at q;cases q).trans (a2 b o q)
 have oth : ∀ b o,h.get? b=some o->(∀ us,o.data ≠ .fields us) -> ∃ sl,((g.push ob).update e (Obj.mapFields (·.setIfInBounds 1 (Value.ref g.objs.size)))).get? b=some { o with slots:=sl }:=fun b o q n=>by
  obtain ⟨sl,q1⟩:=sg.2.2 b o q
  exact ⟨sl,kp (yo a1 a4 q n) q1⟩
 refine ⟨⟨fun b o q=>kp (fun z=>by rw [z,a3] at q;cases q) (bg b o q),FF.of_keeps fun b o q n=>?_,⟨_,_,g.objs.size,ob,ts,self,⟨Obj.cls_mapFields _ _,?_⟩,d1,?_,?_,ne,new,b1,b2⟩,oth⟩,⟨_,_,self,d1,?_⟩⟩
 ·obtain ⟨sl,q1⟩:=oth b o q n
  exact ⟨_,q1,rfl⟩
 ·rw [Array.getElem?_setIfInBounds_ne (by decide)];exact a6
 ·rw [Array.getElem?_setIfInBounds_self_of_lt a5]
 ·cases z:base.get? g.objs.size with
  | none=>rfl
  | some o=>exact absurd (Heap.lt_size (bg _ o z)) (Nat.lt_irrefl _)
 ·rw [Array.getElem?_setIfInBounds_ne (by decide)];exact a7
section
variable {M : Model} {A : Around} {E : Value -> Shared -> Prop} {s : Shared} {base : Heap} {env : Env} {outer : List Env} {L e : Addr} {Q : Unit -> Shared -> Prop}
theorem zFd {head:Value} {hadNext:Bool} (fr:A.frames=some (env::outer)) (FF:s.heap.FunFrames base (env::outer)) (ef:env.frame=some L) (a1:s.heap.get? e=some oe)
  (a2:base.StaysIn s.heap) (a3:base.get? e=none) (a4:oe.data = .fields vs) (a5:1 < vs.size) (a6:vs[0]? = some a0) (a7:vs[2]? = some .none)
  (k : ∀ h',Heap.NotedW base (env::outer) e oe.cls a0 (rawInt L) s.heap h'->C2 h' e->Q () { s with heap:=h' }) :
  wpAny M A (do let a <- frameOf env;let pl <- entryPlaceOf L hadNext;let b <- EntryCells.newEntry head a .none (rawInt L) .none pl;setField (.ref e) 1 b) Q E s:=by
 have nf:e ∉ (env::outer).filterMap (·.frame):=fun m=>by
  obtain ⟨_,o,q,n⟩:=FF.mem m
  exact yo a1 a4 q n rfl
 refine wpAny_bind (wpAny_frameOf_fun fr FF ef fun g sg=>wpAny_bind (wpAny_entryPlaceOf fun pl ip=>?_))
 unfold EntryCells.newEntry newFields
 refine wpAny_bind (wpAny_newObj_type (wpAny_setField (Heap.get?_push_of_some _ ((sg.2.1 e nf).trans a1)) a4 a5 ?_) (ip.sizeOk5 _ _ _ _ _))
 have nh:=zBC (ob:={ cls:=.type "traceback", dict:=none,data:=.fields ([head,.ref L,.none,rawInt L,.none]++(if pl.isEmpty then List.replicate 6 Value.none else pl)).toArray }) FF sg a1 a2 a3 a4 a5 a6 a7 rfl (fl:=rawInt L) (by simp)
 exact k _ nh.1 nh.2
variable {cls:Value}
theorem K4 {l:List Env} {fl:Value} (a2:base.StaysIn s.heap) (FF:s.heap.FunFrames base l) (tr:s.heap.TracedAtW base e cls a0 fl) (c2:C2 s.heap e)
  (k : ∀ h',base.StaysIn h'->h'.FunFrames base l->h'.TracedW base e cls a0->C2 h' e->s.heap.UpToSlots h'->Q () { s with heap:=h' }):wpAny M A (setFlight (.ref e) none) Q E s:=by
 obtain ⟨oe,vs,t,ot,ts,q1,q2,q3,q4,q5,q6,q7,q8,q9⟩:=tr
 obtain ⟨o',us,c1,c3,c4⟩:=c2
 rw [q1] at c1
 cases c1
 rw [q3] at c3
 cases c3
 unfold setFlight
 refine wpAny_bind (wpAny_field q1 q3 q4 ?_)
 have nn:(Value.ref t != Value.none)=true:=by simp
 rw [if_pos nn]
 have lt3:=(Array.getElem?_eq_some_iff.mp q9).1
 have ot' : ∀ {b:Addr},b≠t->(s.heap.update t (Obj.mapFields (·.setIfInBounds 3 ((none:Option Addr).elim Value.none fun f=>rawInt f)))).get? b=s.heap.get? b:=fun {b} n=>Heap.get?_update_other _ _ (Ne.symm n)
 have df:=Obj.data_mapFields q8 (·.setIfInBounds 3 ((none:Option Addr).elim Value.none fun f=>rawInt f))
 refine wpAny_setField q7 q8 lt3 (k _ (fun b o q=>(ot' fun z=>by rw [z,q5] at q;cases q).trans (a2 b o q)) (FF.of_keeps fun b o q n=>⟨o,(ot' (yo q7 q8 q n)).trans q,rfl⟩)
  ⟨oe,vs,t,_,_,(ot' (Ne.symm q6)).trans q1,q2,q3,q4,q5,q6,Heap.get?_update_self _ q7 (Obj.isFreed_of_fields df),df,?_⟩ ⟨oe,vs,(ot' (Ne.symm q6)).trans q1,q3,c4⟩ fun b o q n=>⟨o.slots,(ot' (yo q7 q8 q n)).trans q⟩)
 rw [Array.getElem?_setIfInBounds_self_of_lt lt3];rfl
theorem Ka {args:List Value} (fr:A.frames=some (env::outer)) (ef:env.frame=some L) (a2:base.StaysIn h) (FF:h.FunFrames base (env::outer)) (mk:Heap.MadeExcOf h s.heap e cls args)
  (k : ∀ h' a0,Heap.FlyingW base outer e cls a0 h'->C2 h' e->s.heap.UpToSlots h'->Q () { s with heap:=h' }):wpAny M A (leaving env (.ref e)) Q E s:=by
 obtain ⟨t,m1,m2,m3⟩:=mk.there
 have out:base.get? e=none:=by
  cases z:base.get? e with
  | none=>rfl
  | some o=>have:=a2 e o z;rw [mk.new] at this;cases this
 have FF1:s.heap.FunFrames base (env::outer):=FF.of_keeps fun b o q _=>⟨o,mk.keeps b o q,rfl⟩
 unfold leaving noteFrame
 simp only [ef]
 refine wpAny_bind (wpAny_bind (wpAny_field m1 rfl (x:=.none) rfl ?_))
 have nn : ¬ ((Value.none != Value.none)=true):=by decide
 rw [if_neg nn]
 refine zFd fr FF1 ef m1 (fun b o q=>mk.keeps b o (a2 b o q)) out rfl (by show 1 < 6;decide) (a0:=.ref t) rfl rfl fun h1 nd c1=>?_
 obtain ⟨n1,n2,n3,n4⟩:=nd
 exact K4 (s:={ s with heap:=h1 }) n1 n2 n3 c1 fun h2 w1 w2 w3 w4 w5=>k h2 _ ⟨w1,out,w2.2.2,w3⟩ w4 (Heap.UpToSlots.trans (h₂:=h1) n4 w5)
theorem zB2 (fr:A.frames=some (env::outer)) (ef:env.frame=some L) (fly:Heap.FlyingW base (env::outer) e cls a0 s.heap) (c2:C2 s.heap e)
  (k : ∀ h',Heap.HeldW base (env::outer) e cls a0 L h'->C2 h' e->s.heap.UpToSlots h'->Q () { s with heap:=h' }):wpAny M A (noteFrame (.ref e) env) Q E s:=by
 obtain ⟨f1,f2,f3,oe,vs,t,ot,ts,q1,⟨q2,q2'⟩,q3,q4,q5,q6,q7,q8,q9⟩:=fly
 obtain ⟨o',us,c1,c3,c4⟩:=c2
 rw [q1] at c1
 cases c1
 rw [q3] at c3
 cases c3
 subst q2
 unfold noteFrame
 simp only [ef]
 refine wpAny_bind (wpAny_field q1 q3 q4 ?_)
 have nn:(Value.ref t != Value.none)=true:=by simp
 have n3 : ¬ ((Value.none == rawInt L)=true):=by simp [rawInt]
 rw [if_pos nn]
 refine wpAny_bind (wpAny_field q7 q8 q9 ?_)
 rw [if_neg n3]
 have ot' : ∀ {b:Addr},b≠t->(s.heap.update t (Obj.mapFields (·.setIfInBounds 3 Value.none))).get? b=s.heap.get? b:=fun {b} n=>Heap.get?_update_other _ _ (Ne.symm n)
 refine wpAny_bind (wpAny_setField q7 q8 (Array.getElem?_eq_some_iff.mp q9).1 ?_)
 refine zFd fr (f3.of_keeps fun b o q n=>⟨o,(ot' (yo q7 q8 q n)).trans q,rfl⟩) ef ((ot' (Ne.symm q6)).trans q1) (fun b o q=>(ot' fun z=>by rw [z,q5] at q;cases q).trans (f1 b o q)) f2 q3 (Array.getElem?_eq_some_iff.mp q4).1 q2' c4 fun h1 nd cc=>?_
 exact k h1 ⟨nd.1,f2,nd.2.1,nd.2.2.1⟩ cc fun b o q n=>nd.2.2.2 b o ((ot' (yo q7 q8 q n)).trans q) n
theorem zCY {l:List Env} (hd:Heap.HeldW base l e cls a0 L s.heap) (c2:C2 s.heap e)
  (k : ∀ h',Heap.FlyingW base l e cls a0 h'->C2 h' e->s.heap.UpToSlots h'->Q () { s with heap:=h' }):wpAny M A (setFlight (.ref e) none) Q E s:=
 K4 hd.1 hd.2.2.1 hd.2.2.2 c2 fun h' w1 w2 w3 w4 w5=>k h' ⟨w1,hd.2.1,w2,w3⟩ w4 w5
theorem zCR {l:List Env} (fl:Heap.FlyingW base l e cls a0 s.heap) (c2:C2 s.heap e)
  (k : ∀ h',Heap.FlyingW base l e cls a0 h'->C2 h' e->s.heap.UpToSlots h'->Q () { s with heap:=h' }):wpAny M A (setFlight (.ref e) none) Q E s:=
 K4 fl.1 fl.2.2.1 fl.2.2.2.at c2 fun h' w1 w2 w3 w4 w5=>k h' ⟨w1,fl.2.1,w2,w3⟩ w4 w5
theorem zBP (fr:A.frames=some (env::outer)) (ef:env.frame=some L) (a1:s.heap.get? e=some oe) (a2:base.StaysIn s.heap) (FF:s.heap.FunFrames base (env::outer)) (a3:base.get? e=none)
  (a4:oe.data = .fields vs) (a5:vs[1]? = some .none) (a6:vs[0]? = some a0) (k : ∀ h',Heap.FlyingW base outer e oe.cls a0 h'->s.heap.UpToSlots h'->Q () { s with heap:=h' }):wpAny M A (leaving env (.ref e)) Q E s:=
 wpAny_leaving_firstW fr FF ef a1 a2 a3 a4 a5 a6 fun h' lf=>k h' ⟨lf.1,a3,lf.2.1.2.2,lf.2.2.1⟩ lf.2.2.2
end
theorem Yv:entryFor table "proto.unchain" = some Builtin.«proto.unchain» := entryFor_of_tree (by kernel_rfl)
section
variable {prog : Program} {w : World} {A : Around} {E : Value -> Shared -> Prop} {s : Shared}
theorem zA4 {y:Addr} {Q:Value->Shared->Prop} (c2:C2 s.heap y) (k:Q .none s):wpAny (model prog w) A (runValue (.builtin "proto.unchain" ⟨[.ref e,.ref y,.ref y,.bool false],[]⟩)) Q E s:=by
 obtain ⟨o,vs,q1,q2,q3⟩:=c2
 refine wpAny_runValue (codeAny_builtin Yv ?_)
 show wpAny _ _ (do let context <- field (.ref y) 2;_) _ _ _
 refine wpAny_bind (wpAny_field q1 q2 q3 ?_)
 have nn:((Value.none == Value.none)=true):=by decide
 rw [if_pos nn]
 exact wpAny_pure k
theorem JO {α:Type} {y:Addr} {Q:α->Shared->Prop} (hh:A.handled=some (.ref y)) (ne:y≠e) (c2:C2 s.heap y) (a1:s.heap.get? e=some oe) (a2:oe.data = .fields vs) (a3:2 < vs.size)
  (k:E (.ref e) { s with heap:=s.heap.update e (Obj.mapFields (·.setIfInBounds 2 (.ref y))) }):wpAny (model prog w) A (raiseNew (.ref e):Sem α) Q E s:=by
 unfold raiseNew
 refine wpAny_bind (wpAny_handled ?_)
 rw [hh]
 have nn:((Value.ref y != Value.ref e)=true):=by simp [ne]
 dsimp only
 rw [if_pos nn]
 refine wpAny_bind (wpAny_holding (zA4 c2 ?_))
 have up:wpAny (model prog w) A (setField (.ref e) 2 (.ref y)) (fun _ s'=>wpAny (model prog w) A (throw (.ref e):Sem α) Q E s') E s:=wpAny_setField a1 a2 a3 (wpAny_throw k)
 exact wpAny_bind up
end
section
variable {prog : Program} {w : World} {A : Around} {E : Value -> Shared -> Prop} {env : Env}
variable {nm q : Str} {C N : Addr} {bs bm : List Value} {hdct : Bool} {sn : List Str} {sub : List Value} {ab : Bool} {col : Option Bool} {dd : Option Addr} {k0 k1 k2 k3 k5 : Option Value} {newId : String}
theorem Y8 {s:Shared} {y:Addr} {x c:Sem Value} {Q:Flow->Shared->Prop} (hbase:bm.contains (.type "BaseException")=true) (hh:A.handled=some (.ref y))
  (h:wpAny (model prog w) A x (fun v s₁=>∃ e t,v = .ref e/\s₁.heap.get? C=some (excClassObj nm q C N bs bm hdct sn sub ab col dd k0 k1 k2 k3 k5 newId) /\
   s₁.heap.get? e=some { cls:=.ref C,data:=.fields #[.ref t,.none,.none,.none,.bool false,.none] }/\y≠e/\C2 s₁.heap y/\(∀ R:Value->Shared->Prop,R .none s₁->wpAny (model prog w) A c R E s₁) /\
   ∀ h',(∀ b,b≠e->h'.get? b=s₁.heap.get? b)->h'.get? e=some { cls:=.ref C,data:=.fields #[.ref t,.none,.ref y,.none,.bool true,.none] }->E (.ref e) { s₁ with heap:=h' }) E s) :
  wpAny (model prog w) A (raiseStmt env (some x) (some c)) Q E s:=by
 have cb:(Value.ref C::bm).contains (.type "BaseException")=true:=by rw [List.contains_cons,hbase,Bool.or_true]
 unfold raiseStmt
 refine wpAny_bind (wpAny_mono h (fun v s₁ h₁=>?_) fun _ _ z=>z)
 obtain ⟨e,t,rfl,hC,he,ne,c2,hc,k⟩:=h₁
 refine wpAny_bind (wpAny_holding (hc _ (wpAny_bind (wpAny_pure ?_))))
 obtain ⟨hp,g,d,tk,os⟩:=s₁
 repeat (first
  | with_reducible refine wpAny_loadPart_at he ?_
  | with_reducible refine wpAny_loadPart_at hC ?_
  | (with_reducible refine wpAny_isSubtype_exc hC ?_;rw [cb])
  | wp_step)
 have nC:C≠e:=by
  rintro rfl
  have z:=hC.symm.trans he
  simp [excClassObj] at z
 have u1:=Heap.get?_update_self (Obj.mapFields (·.setIfInBounds 3 Value.none)) he rfl
 have u2:=Heap.get?_update_self (Obj.mapFields (·.setIfInBounds 4 (Value.bool true))) u1 rfl
 have ot : ∀ b,b≠e->((hp.update e (Obj.mapFields (·.setIfInBounds 3 Value.none))).update e (Obj.mapFields (·.setIfInBounds 4 (Value.bool true)))).get? b=hp.get? b:=fun b n=>by
  rw [Heap.get?_update_other _ _ (Ne.symm n),Heap.get?_update_other _ _ (Ne.symm n)]
 have u3:=(ot C nC).trans hC
 have cy:C2 ((hp.update e (Obj.mapFields (·.setIfInBounds 3 Value.none))).update e (Obj.mapFields (·.setIfInBounds 4 (Value.bool true)))) y:=by
  obtain ⟨o,vs,z1,z2,z3⟩:=c2
  exact ⟨o,vs,(ot y ne).trans z1,z2,z3⟩
 generalize (hp.update e (Obj.mapFields (·.setIfInBounds 3 Value.none))).update e (Obj.mapFields (·.setIfInBounds 4 (Value.bool true)))=h2 at u2 ot u3 cy ⊢
 refine wpAny_loadPart_at u3 (wpAny_pure ?_)
 have ty:((excClassObj nm q C N bs bm hdct sn sub ab col dd k0 k1 k2 k3 k5 newId).cls == Value.type "type")=true:=by rfl
 rw [if_pos ty]
 refine wpAny_pure ?_
 unfold setFlight
 refine wpAny_bind (wpAny_bind (wpAny_field u2 rfl (x:=.none) rfl ?_))
 have nn : ¬ ((Value.none != Value.none)=true):=by decide
 rw [if_neg nn]
 refine wpAny_pure (JO hh ne cy u2 rfl (by show 2 < 6;decide) (k _ (fun b n=>?_) ?_))
 ·rw [Heap.get?_update_other _ _ (Ne.symm n)];exact ot b n
 ·exact Heap.get?_update_self (Obj.mapFields (·.setIfInBounds 2 (.ref y))) u2 rfl
end
structure zHH (h h':Heap) (e C:Addr):Prop where
 keeps : ∀ b o,h.get? b=some o->h'.get? b=some o
 new:h.get? e=none
 there : ∃ oe vs a0,h'.get? e=some oe/\oe.cls = .ref C/\oe.data = .fields vs/\vs[1]? = some .none/\vs[0]? = some a0
section
variable {prog : Program} {w : World} {A : Around} {E : Value -> Shared -> Prop} {env : Env}
variable {nm q : Str} {C N : Addr} {bs bm bmB : List Value} {hdct : Bool} {sn : List Str} {sub : List Value} {ab : Bool} {col : Option Bool} {dd : Option Addr} {k0 k1 k2 k3 k5 : Option Value} {B newId initId : String}
theorem zGB (F:ExcBaseFacts B newId initId bmB) {mN:Str->Option Value} {s:Shared} {m:Str} {np mp cpos cp:Pos} {j j':Nat} {y:Addr} {Q:Flow->Shared->Prop} (hb:bm.contains (.type "BaseException")=true) (hh:A.handled=some (.ref y)) (c2:C2 s.heap y)
  (hx : ∀ R:Value->Shared->Prop,R (.ref C) s->wpAny (model prog w) A (eval (.Name x np) env) R E s) (hC:s.heap.get? C=some (excClassObj nm q C N bs bm hdct sn sub ab col dd k0 k1 k2 k3 k5 newId)) (hN:s.heap.Ns N mN) (hni:mN "__init__" = none) (T:OwnTail s.heap bmB bm)
  (k : ∀ h' e tk,zHH s.heap h' e C->E (.ref e) { s with heap:=h',toks:=tk }) :
  wpAny (model prog w) A (exec (.Raise (some (.Call (.Name x np) [.Constant (.str m) j mp] [] cpos)) (some (.Constant .none j' cp)) pos) env) Q E s:=by
 rw [arm_exec_Raise]
 refine wpAny_bind (wpAny_standAt ?_)
 refine Y8 (y:=y) (C:=C) (nm:=nm) (q:=q) (N:=N) (bs:=bs) (bm:=bm) (hdct:=hdct) (sn:=sn) (sub:=sub) (ab:=ab) (col:=col) (dd:=dd) (k0:=k0) (k1:=k1) (k2:=k2) (k3:=k3) (k5:=k5) (newId:=newId) hb hh ?_
 refine wpAny_bind (wpAny_Call_ofName (hx _ ?_))
 unfold callWith
 refine wpAny_bind (wpAny_holding (Calls.evalArgs_plain (Calls.spliced_cons (Calls.Constant_str (k:=j) (pos:=mp) (Calls.spliced_nil ?_)))))
 refine wpAny_bind (wpAny_standAt ?_)
 have st:(((backTo cpos (starEach [Expr.Constant (Const.str m) j mp] env)).any fun x=>x.fst) || (backToKw cpos (keywordEach [] env)).any fun x=>x.fst.isNone)=false:=rfl
 simp only [st]
 obtain ⟨hp,g,d,tk,os⟩:=s
 refine wpAny_bind (wpAny_keeperOf_exc hC ?_)
 dsimp only
 have one:([]++[Value.str m tk]).length<=sizeLine:=by show 1<=sizeLine;decide
 refine wpAny_bind (wpAny_call_exc_subT (hrest:=one) F T hC hN hni fun h' e hm=>wpAny_bind (wpAny_holding (wpAny_point (wpAny_pure ?_))))
 refine wpAny_bind (wpAny_standAt (wpAny_pure ?_))
 obtain ⟨t,h1,h2,h3⟩:=hm.there
 have ny:y≠e:=by
  rintro rfl
  obtain ⟨o,vs,z1,_⟩:=c2
  have:=hm.new
  rw [z1] at this;cases this
 refine ⟨e,t,rfl,hm.keeps _ _ hC,h1,ny,?_,fun R hR=>wpAny_bind (wpAny_Constant_none (wpAny_bind (wpAny_standAt (wpAny_pure hR)))),fun h'' o1 o2=>?_⟩
 ·obtain ⟨o,vs,z1,z2,z3⟩:=c2
  exact ⟨o,vs,hm.keeps _ _ z1,z2,z3⟩
 ·refine k h'' e (tk+1) ⟨fun b o z=>?_,hm.new,⟨_,_,_,o2,rfl,rfl,rfl,rfl⟩⟩
  rw [o1 b (fun z1=>by have:=hm.new;rw [<- z1,z] at this;cases this)]
  exact hm.keeps b o z
end
def X2 (P:Program) (w:World):CXT:=fun outer H s E e s'=>∃ (x C:Addr) (a0:Value) (H':Hp) (B:Heap),e = .ref x/\s'.os=s.os/\AllBare s'.gens/\Heap.FlyingW B outer x (.ref C) a0 s'.heap/\C2 s'.heap x /\
 (∀ h',B.StaysIn h'->s'.heap.UpToSlots h'->Un (frs outer) [] H H' s.heap h'/\HOk P w H' h')/\s.heap.get? x=none/\H' x=none/\E (.ref C) none H'
section
variable {P : Program} {w : World} {K : W.Frag} {mg : Str -> Option Value} {base : Heap} {N : List Str} {qual : Str} {scope : Scope} {f : Addr} {cd : Value} {A : Around} {outer : List Env} {s : Shared} {H : Hp} {E : XK} {CX : CXT}
variable {pins:List (Addr × Obj)} {σ:St} {H1:Hp} {s1:Shared} {h':Heap}
theorem zBb {h2:Heap} (I:Inv (Zy CX P w K mg base N qual scope f cd A outer s H E) pins σ H1 s1) (kp : ∀ b o,s1.heap.get? b=some o->h'.get? b=some o) (f4:h'.UpToSlots h2) :
  ∀ h3,(W.hideAll s1.heap (frs (envOfC qual scope s.heap.objs.size f cd::outer))).StaysIn h3->h2.UpToSlots h3->Un (frs outer) [] H H1 s.heap h3/\HOk P w H1 h3:=by
 intro h3 st sm
 have hst : ∀ b ∈ frs (envOfC qual scope s.heap.objs.size f cd::outer),H1 b=none:=I.stkFree
 have FF:s1.heap.FunFrames base (envOfC qual scope s.heap.objs.size f cd::outer):=I.stack
 have old : ∀ b o,s.heap.get? b=some o->b≠s.heap.objs.size:=fun b o e=>Nat.ne_of_lt (Heap.lt_size e)
 have sub : ∀ b,b ∈ frs (envOfC qual scope s.heap.objs.size f cd::outer)->b=s.heap.objs.size\/b ∈ frs outer:=fun b hb=>List.mem_cons.mp (I.stkSub b hb)
 have here : ∀ b o,s1.heap.get? b=some o->b ∉ frs (envOfC qual scope s.heap.objs.size f cd::outer)->h3.get? b=some o:=fun b o e n=>st b o (W.hideAll_get _ e n)
 have fram : ∀ b o,s1.heap.get? b=some o->b ∈ frs (envOfC qual scope s.heap.objs.size f cd::outer) -> ∃ sl,h3.get? b=some { o with slots:=sl }:=fun b o e m=>by
  obtain ⟨_,o',e',nf⟩:=FF.mem m
  have z:o'=o:=Option.some.inj (e'.symm.trans e)
  subst z
  obtain ⟨sl,e2⟩:=f4 b o' (kp b o' e) nf
  obtain ⟨sl',e3⟩:=sm b _ e2 nf
  exact ⟨sl',e3⟩
 refine ⟨⟨fun b o e n hb hx=>?_,fun b o e n hb hx=>?_,fun b o e n hx=>I.base.free b o e n hx,fun b o e hx=>?_,I.base.tups,I.base.frzs,I.base.tbls⟩,fun a u e=>?_⟩
 ·exact here b o (I.base.keep b o e n hb hx) fun z=>(sub b z).elim (old b o e) hb
 ·obtain ⟨sl,e1⟩:=I.base.slot b o e n hb hx
  have mem:b ∈ frs (envOfC qual scope s.heap.objs.size f cd::outer):=by
   show b ∈ List.filterMap _ _
   rw [List.filterMap_cons]
   exact List.mem_cons_of_mem _ hb
  obtain ⟨sl',e2⟩:=fram b _ e1 mem
  exact ⟨sl',e2⟩
 ·obtain ⟨o',e1⟩:=I.base.there b o e hx
  by_cases mem:b ∈ frs (envOfC qual scope s.heap.objs.size f cd::outer)
  ·obtain ⟨sl,e2⟩:=fram b o' e1 mem
   exact ⟨_,e2⟩
  ·exact ⟨o',here b o' e1 mem⟩
 ·refine (I.hok a u e).stay (fun b ob hb eb=>here b ob eb fun z=>?_) (fun _ z=>z) (fun _ _ z=>z)
  have:=hst b z
  rcases hb with rfl | hb
  ·rw [e] at this;cases this
  ·rw [hb] at this;cases this
theorem zFO {x:Addr} (I:Inv (Zy CX P w K mg base N qual scope f cd A outer s H E) pins σ H1 s1) (nw:s1.heap.get? x=none):s.heap.get? x=none/\H1 x=none:=by
 constructor
 ·cases z:s.heap.get? x with
  | none=>rfl
  | some o =>
   obtain ⟨o',e1⟩:=I.base.there x o z (fun h=>nomatch h)
   rw [nw] at e1;cases e1
 ·cases z:H1 x with
  | none=>rfl
  | some o =>
   obtain ⟨ob,e1⟩:=(I.hok x o z).is
   rw [nw] at e1;cases e1
theorem Jq (I:Inv (Zy CX P w K mg base N qual scope f cd A outer s H E) pins σ H1 s1):s1.heap.FunFrames (W.hideAll s1.heap (frs (envOfC qual scope s.heap.objs.size f cd::outer))) (envOfC qual scope s.heap.objs.size f cd::outer):=by
 have FF:s1.heap.FunFrames base (envOfC qual scope s.heap.objs.size f cd::outer):=I.stack
 exact W.funFrames_hide FF fun env he b hb=>List.mem_filterMap.mpr ⟨env,he,hb⟩
theorem Qt {x C:Addr} {args:List Value}
  (I:Inv (Zy (X2 P w) P w K mg base N qual scope f cd A outer s H E) pins σ H1 s1) (hm:Heap.MadeExcOf s1.heap h' x (.ref C) args) (q:E (.ref C) none H1) :
  (Zy (X2 P w) P w K mg base N qual scope f cd A outer s H E).xe (.ref x) { s1 with heap:=h' }:=by
 have nw:=zFO I hm.new
 refine Ka (s:={ s1 with heap:=h' }) (base:=W.hideAll s1.heap (frs (envOfC qual scope s.heap.objs.size f cd::outer))) I.ok.frames rfl (fun b o e=>W.of_hideAll _ e) (Jq I) hm fun h2 a0 f1 f2 f4=>?_
 exact ⟨x,C,a0,H1,_,rfl,I.os,I.bare,f1,f2,zBb I hm.keeps f4,nw.1,nw.2,q⟩
theorem zDd {x C:Addr} {tk:Nat}
  (I:Inv (Zy (CXE P w) P w K mg base N qual scope f cd A outer s H E) pins σ H1 s1) (hm:zHH s1.heap h' x C) (q:E (.ref C) none H1) :
  (Zy (CXE P w) P w K mg base N qual scope f cd A outer s H E).xe (.ref x) { s1 with heap:=h',toks:=tk }:=by
 have nw:=zFO I hm.new
 obtain ⟨oe,vs,a0,m1,m2,m3,m4,m5⟩:=hm.there
 have FF:=Jq I
 have bs:(W.hideAll s1.heap (frs (envOfC qual scope s.heap.objs.size f cd::outer))).StaysIn s1.heap:=fun b o e=>W.of_hideAll _ e
 have bx:(W.hideAll s1.heap (frs (envOfC qual scope s.heap.objs.size f cd::outer))).get? x=none:=by
  cases z:(W.hideAll s1.heap (frs (envOfC qual scope s.heap.objs.size f cd::outer))).get? x with
  | none=>rfl
  | some o=>have:=bs x o z;rw [hm.new] at this;cases this
 refine zBP (s:={ s1 with heap:=h',toks:=tk }) (base:=W.hideAll s1.heap (frs (envOfC qual scope s.heap.objs.size f cd::outer))) I.ok.frames rfl m1 (fun b o e=>hm.keeps b o (bs b o e)) (FF.of_keeps fun b o e _=>⟨o,hm.keeps b o e,rfl⟩) bx m3 m4 m5 fun h2 f1 f4=>?_
 rw [m2] at f1
 exact ⟨x,C,a0,H1,_,rfl,I.os,I.bare,f1,zBb I hm.keeps f4,nw.1,nw.2,q⟩
end
def zEq (X:Cx) (E:XK):Prop:=∀ (pins:List (Addr × Obj)) (σ:St) (H:Hp) (s:Shared) (h':Heap) (x C:Addr) (tk:Nat),Inv X pins σ H s->zHH s.heap h' x C->E (.ref C) none H->X.xe (.ref x) { s with heap:=h',toks:=tk }
variable {P:Program} {w:World} {mg:Str->Option Value} {N:List Str} {qual:Str} {scope:Scope} {f:Addr} {A:Around} {s:Shared} {H:Hp} {E:XK}
theorem zHf {cd:Value} {outer:List Env}:zEq (Zy (CXE P w) P w K mg base N qual scope f cd A outer s H E) E:=
 fun pins σ H s h' x C tk I hm q=>zDd I hm q
variable {st:Stmt}
theorem Fun.okX2 (F:Fun K x qual st f fd) (S:zO N ps (zH st)) (len : ∀ vs H Q E,sp vs H Q E->vs.length=ps.length)
  (hbody : ∀ (cdv:Value) (A:Around) (outer:List Env) (s:Shared) (H:Hp) (vs:List V) (Q:VK) (E:XK),xn k (A.deeper (envOfC qual (zH st) s.heap.objs.size f cdv))->sp vs H Q E ->
   zCL (Zy (X2 P w) P w K mg base N qual (zH st) f cdv A outer s H E) E -> ∃ t,PSs (Zy (X2 P w) P w K mg base N qual (zH st) f cdv A outer s H E) (z7 st) t/\t { nx:=fun _ H'=>Q .non H',rt:=Q } (start N vs) H):x5 P w K mg base (X2 P w) (k+1) f fd ps sp:=by
 obtain ⟨oc,od,kV,doc,pm,an,cdv,ct,osl,rfl,lk,hcd⟩:=F.ex
 exact zBG lk hcd S len fun A outer s H vs Q E hr hsp=>hbody cdv A outer s H vs Q E hr hsp fun pins σ H s h' x C args I hm q=>Qt I hm q
theorem x5.of2 (F:x5 P w K mg base (X2 P w) k f fd ps sp):x5 P w K mg base (CXE P w) k f fd ps sp:=
 ⟨F.len,fun A outer s H args us vs Q E hr he hb hv hs=>codeAny_mono (F.run A outer s H args us vs Q E hr he hb hv hs) fun r s' hq=>by
  cases r with
  | ok fl=>cases fl <;> exact hq
  | error e =>
   obtain ⟨x,C,a0,H',B,z1,z2,z3,z4,_,z5⟩:=hq
   exact ⟨x,C,a0,H',B,z1,z2,z3,z4,z5⟩⟩
def zAj (P:Program) (w:World) (K:W.Frag) (mg:Str->Option Value) (base:Heap) (x:Str) (k:Nat) (ps:List Str) (sp:Sp):Prop:=
 ∃ (f:Addr) (fd:FuncData),x5 P w K mg base (X2 P w) k f fd ps sp/\mg x=some (.ref f)/\W.keepIn K (.ref f)=true/\x8 K fd ps []
def XP2 (X:Cx) (pins:List (Addr × Obj)) (σ:St) (E:XK) (e:Value) (s':Shared):Prop:=∃ H1 s1,Inv X pins σ H1 s1/\X2 X.prog X.w X.stack H1 s1 E e s'
def Cx.tr2 (X:Cx) (pins:List (Addr × Obj)) (σc:St) (E:XK):Cx:={ X with pn:=X.pn++pins,xe:=XP2 X pins σc E }
section
variable {X : Cx} {pins pins0 : List (Addr × Obj)} {σ σc : St} {H : Hp} {s : Shared} {E : XK}
theorem Cx.Ok.tr2 (ok:X.Ok):(X.tr2 pins σc E).Ok:=⟨ok.mod,ok.kind,ok.glob,ok.blt,ok.above,ok.inj,ok.has,ok.cab,ok.hd,ok.frames,ok.stk,ok.exf,ok.bs,ok.bsz,ok.noex,ok.exfs,ok.funs,ok.frf⟩
theorem Cx.Ok.untr2 (ok:(X.tr2 pins σc E).Ok):X.Ok:=⟨ok.mod,ok.kind,ok.glob,ok.blt,ok.above,ok.inj,ok.has,ok.cab,ok.hd,ok.frames,ok.stk,ok.exf,ok.bs,ok.bsz,ok.noex,ok.exfs,ok.funs,ok.frf⟩
theorem Inv.tr2 (I:Inv X pins σ H s):Inv (X.tr2 pins σc E) [] σ H s:=⟨I.ok.tr2,I.os,I.bare,I.base,I.loc,I.cell,I.free,I.freeC,fun p hp=>I.pin p (by simpa [Cx.tr2] using hp),I.hok,I.len⟩
theorem Inv.untr2 (I:Inv (X.tr2 pins0 σc E) pins σ H s):Inv X pins0 σ H s:=⟨I.ok.untr2,I.os,I.bare,I.base,I.loc,I.cell,I.free,I.freeC,fun p hp=>I.pin p (List.mem_append_left _ hp),I.hok,I.len⟩
theorem SP.untr2 {D:QQ} {f:Flow} {s':Shared} (h:SP (X.tr2 pins0 σc E) pins D f s'):SP X pins0 D f s':=by
 cases f with
 | next=>obtain ⟨σ',H',I,q⟩:=h;exact ⟨σ',H',I.untr2,q⟩
 | brk=>obtain ⟨σ',H',I,q⟩:=h;exact ⟨σ',H',I.untr2,q⟩
 | cont=>obtain ⟨σ',H',I,q⟩:=h;exact ⟨σ',H',I.untr2,q⟩
 | ret u=>obtain ⟨v,σ',H',I,r,q⟩:=h;exact ⟨v,σ',H',I.untr2,r,q⟩
end
section
variable {X : Cx} {pins0 : List (Addr × Obj)} {σc : St} {k n : Nat} {C : Addr} {ps : List Str} {sp : Sp} {E : XK} {x m : Str} {p np pos apos : Pos} {e o : Expr} {es : List Expr} {ta : TE} {t : TA}
theorem zAQ {pins:List (Addr × Obj)} {σ:St} {Q:VK} {us:List Value} {vs:List V} (F:x5 X.prog X.w X.K X.mg X.base (X2 X.prog X.w) k f fd ps sp) (hr:xn k X.A) (hb:x8 X.K fd ps [])
  (I:Inv (X.tr2 pins0 σc E) pins σ H s) (r:qR vs us) (wk:Wk σc σ) (h:sp (vs++[]) H Q E):wpAny (model X.prog X.w) X.A (call (.ref f) us) (EP (X.tr2 pins0 σc E) pins σ Q) (X.tr2 pins0 σc E).xe s:=by
 have r2:qR (vs++[]) (us++[]):=r.append .nil
 have hl:(us++[]).length=ps.length:=by rw [<- r2.length];exact F.len _ _ _ _ h
 have e0:Kz X.prog X.w X.K X.mg X.base X.A X.stack s H:=I.env0
 refine wpAny_call (codeAny_mono (F.run X.A X.stack s H ⟨us,[]⟩ (us++[]) (vs++[]) Q E hr e0 (hb s us I.kIn hl) r2 h) fun r s' hq=>?_)
 cases r with
 | error e=>exact ⟨H,s,I.untr2.weak wk.1 wk.2,hq⟩
 | ok fl =>
  cases fl with
  | ret u=>exact I.after hq
  | next=>exact False.elim hq
  | brk=>exact False.elim hq
  | cont=>exact False.elim hq
theorem Z5 (F:zAj X.prog X.w X.K X.mg X.base x k ps sp) (hr:xn n X.A) (hg:Gl X x) (ha:PA (X.tr2 pins0 σc E) (e::es) t) (hk:k<=n:=by decide)
  (hdb:(x == ("__debug__" : Str))=false:=by decide) (he:starEach (e::es) X.env=(false,eval e X.env)::starEach es X.env:=by rfl) (hpl:(backTo pos (starEach es X.env)).any (·.1)=false:=by rfl) :
  PE (X.tr2 pins0 σc E) (.Call (.Name x p) (e::es) [] pos) (zBw sp E σc t):=by
 intro pins s σ H Q I h
 obtain ⟨f,fd,G,hm,kp,b⟩:=F
 refine wpAny_Call_Name_kw (jE I hg hm ?_ hdb)
 refine W.callWith_K (h₀:=X.base) I.ok.mod.kin kp (thn (ha pos pins s σ H _ I h) fun us s1 ⟨vs,H1,I1,r,q⟩=>⟨I1.kIn,?_⟩) he hpl
 exact zAQ (G.mono hk) hr b I1 r q.1 q.2
end
def zIh (K:W.Frag) (C1 C2 CR:Addr) (E:XK) (tb:St->XK->TS):TS:=fun D σ H=>∃ σc,tb σc (fun cls _ H2=>∃ C,cls = .ref C/\W.exmAny K (.ref C) [.ref C1,.ref C2]=some true/\E (.ref CR) none H2) D σ H
variable {C1:Addr} {j:Nat} {body:List Stmt} {tb:St->XK->TS}
theorem zF0 {c1 c2 cx msg:Str} {C2' CR:Addr} {p1 p2 tpos np mp cpos cp rpos hpos:Pos} {kk j':Nat}
  (hst:X.stack=X.env::X.outer) (hfr:X.env.frame=some X.env.locals) (hc:X.calm=true) (ce:Exc X.K CR) (tk:zEq X E) (po : ∀ hd,PassesOwnAt (model X.prog X.w) (X.A.mark hd) X.A X.env X.xe)
  (g1:Gl X c1) (m1:X.mg c1=some (.ref C1)) (g2:Gl X c2) (m2:X.mg c2=some (.ref C2')) (gr:Gl X cx) (mr:X.mg cx=some (.ref CR)) (hb : ∀ pins σc E,PSs (X.tr2 pins σc E) body (tb σc E))
  (d1:(c1 == ("__debug__" : Str))=false:=by decide) (d2:(c2 == ("__debug__" : Str))=false:=by decide) (dr:(cx == ("__debug__" : Str))=false:=by decide) :
  PS X (.Try body [.ExceptHandler (some (.Tuple [.Name c1 p1,.Name c2 p2] kk tpos)) none [.Raise (some (.Call (.Name cx np) [.Constant (.str msg) j mp] [] cpos)) (some (.Constant .none j' cp)) rpos] hpos] [] [] pos) (zIh X.K C1 C2' CR E tb):=by
 intro pins s σ H D I h
 obtain ⟨σc,h⟩:=h
 refine wpAny_Try_except (wpAny_mono (hb pins σc _ [] s σ H D I.tr2 h) (fun f s1 q=>?_) fun er s' z=>?_)
 ·cases f with
  | next=>exact wpAny_execs_nil q.untr2
  | ret u=>exact q.untr2
  | brk=>exact q.untr2
  | cont=>exact q.untr2
 ·obtain ⟨H1,s1,I1,fl⟩:=z
  obtain ⟨y,C,a0,H2,B,rfl,hos,hbare,fly,cc,clo,hy0,hy2,C0,z0,exm,q⟩:=fl
  cases z0
  rw [hst] at fly
  refine zB2 (I.ok.frames.trans (congrArg some hst)) hfr fly cc fun h1 held cc1 sm1=>?_
  refine zCY held cc1 fun h2 fly2 cc2 sm2=>?_
  have cl : ∀ h',B.StaysIn h'->h2.UpToSlots h'->Inv X pins σc H2 { s' with heap:=h' }:=fun h' st sm=>by
   have c:=clo h' st ((sm1.trans sm2).trans sm)
   exact I1.call' (s':={ s' with heap:=h' }) hos c.1 c.2 hbare (fun b z=>nomatch z)
  have I2:Inv X pins σc H2 { s' with heap:=h2 }:=cl h2 fly2.1 (Heap.UpToSlots.refl _)
  have hhd:(X.A.mark (some (.ref y))).handled=some (.ref y):=rfl
  refine wpAny_handleBy_cons (codeAny_handlers_test ?_) (by intro q;cases q)
  refine wpAny_Tuple (wpAny_items_cons (jE (I2.inExc y) g1 m1 (wpAny_items_cons (jE (I2.inExc y) g2 m2 (wpAny_items_nil ⟨by size_fits,?_⟩) d2)) d1))
  have kp : ∀ b o,h2.get? b=some o->(h2.push { cls:=.type "tuple", data:=.seq [Value.ref C1,Value.ref C2'].toArray }).get? b=some o:=fun _ _ z=>Heap.get?_push_of_some _ z
  have ty2:W.Looks (model X.prog X.w) h2 (typeOf (.ref y)) (.ref C):=(isx fly2).ty
  refine (W.exm_tup2 (M:=model X.prog X.w) (I2.kIn.keeps kp) (ty2.keeps kp) (Heap.get?_push_size h2 rfl) exm).here ?_
  have up:h2.UpToSlots (h2.push { cls:=.type "tuple", data:=.seq [Value.ref C1,Value.ref C2'].toArray }):=Heap.UpToSlots.of_keeps kp
  have fly3:Heap.FlyingW B (X.env::X.outer) y (.ref C) a0 (h2.push { cls:=.type "tuple", data:=.seq [Value.ref C1,Value.ref C2'].toArray }):=by
   obtain ⟨f1,f2,f3,oe,vs,t,ot,ts,q1,q2,q3,q4,q5,q6,q7,q8,q9⟩:=fly2
   exact ⟨fun b o z=>kp b o (f1 b o z),f2,f3.of_keeps fun b o z _=>⟨o,kp b o z,rfl⟩,oe,vs,t,ot,ts,kp _ _ q1,q2,q3,q4,q5,q6,kp _ _ q7,q8,q9⟩
  have cc3:C2 (h2.push { cls:=.type "tuple", data:=.seq [Value.ref C1,Value.ref C2'].toArray }) y:=by
   obtain ⟨o,vs,z1,z2,z3⟩:=cc2
   exact ⟨o,vs,kp _ _ z1,z2,z3⟩
  refine codeAny_handlers_suite (zCR fly3 cc3 fun h4 fly4 cc4 sm4=>?_)
  have I4:Inv X pins σc H2 { s' with heap:=h4 }:=cl h4 fly4.1 (up.trans sm4)
  obtain ⟨tl,Nn,nm,qq,bs,hdct,sn,sub,ab,col,dd,k0,k1,k2,k3,k5,mN,hC,hN,hni,T⟩:=zBm I4.kIn ce
  refine wpAny_passesOwnAt (po (some (.ref y))) (wpAny_execs_cons ?_)
  refine zGB (s:={ s' with heap:=h4 }) (C:=CR) (bm:=tl) (mN:=mN) (N:=Nn) (nm:=nm) (q:=qq) (bs:=bs) (hdct:=hdct) (sn:=sn) (sub:=sub) (ab:=ab) (col:=col) (dd:=dd) (k0:=k0) (k1:=k1) (k2:=k2) (k3:=k3) (k5:=k5) PySem.F.excBase_ValueError (T.hasType PySem.F.excBase_ValueError.hasBase) hhd cc4 (fun R hR=>jE (I4.inExc y) gr mr hR dr) hC hN hni T fun h5 e5 tk5 mr5=>?_
  exact tk pins σc H2 { s' with heap:=h4 } h5 e5 CR tk5 I4 mr5 q
variable {D:QQ} {σ:St}
theorem zIn {C2 CR:Addr} (σc:St) (h:tb σc (fun cls _ H2=>∃ C,cls = .ref C/\W.exmAny K (.ref C) [.ref C1,.ref C2]=some true/\E (.ref CR) none H2) D σ H):zIh K C1 C2 CR E tb D σ H:=⟨σc,h⟩
theorem zEx {c d:Nat} (h:0<=fv c) (e:fv c=fv d):c=d:=by
 unfold fv at h e
 repeat' (split at h)
 all_goals repeat' (split at e)
 all_goals omega
theorem JU {P:List Nat->Prop} (h0:P []) (hs : ∀ l c,P l->P (l++[c])) (l:List Nat):P l:=by
 have : ∀ n (l:List Nat),l.length=n->P l:=fun n=>by
  induction n with
  | zero=>intro l h;rw [List.length_eq_zero_iff.mp h];exact h0
  | succ n ih =>
   intro l h
   have ne:l≠[]:=fun z=>by rw [z] at h;cases h
   rw [<- List.dropLast_concat_getLast ne]
   exact hs _ _ (ih _ (by rw [List.length_dropLast];omega))
 exact this _ l rfl
variable {b:Int}
theorem j8.left {m:List Nat} (h:j8 b (l++m)):j8 b l:=fun c hc=>h c (List.mem_append_left _ hc)
theorem j8.right {m:List Nat} (h:j8 b (l++m)):j8 b m:=fun c hc=>h c (List.mem_append_right _ hc)
theorem KU (hb:2<=b) (l:List Nat):j8 b l->0<=val b l/\val b l < b ^ l.length:=by
 refine JU (P:=fun l=>j8 b l->0<=val b l/\val b l < b ^ l.length) (fun _=>⟨Int.le_refl 0,by show (0:Int) < b ^ 0;rw [Int.pow_zero];decide⟩) (fun l c ih h=>?_) l
 obtain ⟨i1,i2⟩:=ih h.left
 obtain ⟨_,c1,c2⟩:=h.right c (List.mem_singleton.mpr rfl)
 rw [QX,length_append,List.length_singleton,Int.pow_succ]
 have m1:=Int.mul_le_mul_of_nonneg_right (show val b l<=b ^ l.length - 1 by omega) (show 0<=b by omega)
 rw [Int.sub_mul,Int.one_mul] at m1
 have m2:=Int.mul_nonneg i1 (show 0<=b by omega)
 omega
theorem zGJ (hb:2<=b) (l:List Nat) : ∀ k,j8 b l->j8 b k->l.length=k.length->val b l=val b k->l=k:=by
 refine JU (P:=fun l=>∀ k,j8 b l->j8 b k->l.length=k.length->val b l=val b k->l=k) (fun k _ _ h _=>(List.length_eq_zero_iff.mp h.symm).symm) (fun l c ih k hl hk he hv=>?_) l
 have ne:k≠[]:=fun z=>by rw [z,length_append] at he;cases he
 obtain ⟨k',d,rfl⟩ : ∃ k' d,k=k'++[d]:=⟨_,_,(List.dropLast_concat_getLast ne).symm⟩
 obtain ⟨_,c1,c2⟩:=hl.right c (List.mem_singleton.mpr rfl)
 obtain ⟨_,d1,d2⟩:=hk.right d (List.mem_singleton.mpr rfl)
 rw [QX,QX] at hv
 have q1:(val b l*b+fv c) / b=val b l:=by rw [Int.add_comm,Int.add_mul_ediv_right _ _ (by omega),Int.ediv_eq_zero_of_lt c1 c2,Int.zero_add]
 have q2:(val b k'*b+fv d) / b=val b k':=by rw [Int.add_comm,Int.add_mul_ediv_right _ _ (by omega),Int.ediv_eq_zero_of_lt d1 d2,Int.zero_add]
 have e1:val b l=val b k':=by rw [<- q1,hv,q2]
 have e2:fv c=fv d:=by rw [e1] at hv;omega
 rw [length_append,length_append,List.length_singleton,List.length_singleton] at he
 rw [ih k' hl.left hk.left (by omega) e1,zEx c1 e2]
theorem zCo (hb:2<=b) (l:List Nat):j8 b l->1<=l.length->l.getD 0 0≠48->b ^ (l.length - 1)<=val b l:=by
 refine JU (P:=fun l=>j8 b l->1<=l.length->l.getD 0 0≠48->b ^ (l.length - 1)<=val b l) (fun _ h=>absurd h (by decide)) (fun l c ih h _ hn=>?_) l
 obtain ⟨_,c1,c2⟩:=h.right c (List.mem_singleton.mpr rfl)
 rw [QX,length_append,List.length_singleton,Nat.add_sub_cancel]
 rcases Nat.eq_zero_or_pos l.length with z | z
 ·have z':=List.length_eq_zero_iff.mp z
  subst z'
  have nc:c≠48:=hn
  have:fv c≠fv 48:=fun e=>nc (zEx c1 e)
  have e48:fv 48=0:=by decide
  show b ^ 0<=(0:Int)*b+fv c
  rw [Int.pow_zero]
  omega
 ·have i:=ih h.left z (by rw [yc z] at hn;exact hn)
  have e:b ^ l.length=b ^ (l.length - 1)*b:=by rw [<- Int.pow_succ];congr 1;omega
  have m1:=Int.mul_le_mul_of_nonneg_right i (show 0<=b by omega)
  rw [e];omega
theorem WR {b p:Nat} (h2:2<=b) (h16:b<=16) (hp:p<=6) (hf:j8 b l) (h1:p+1<=l.length) (h40:l.length<=40+p) (hz:l.getD 0 0=48->l.length=p+1):(val b l).toNat < b ^ (40+p)/\dgs b p (val b l).toNat=l:=by
 have hb:(2:Int)<=(b:Int):=by omega
 obtain ⟨v0,v1⟩:=KU hb l hf
 have cp : ∀ k:Nat,((b ^ k:Nat):Int)=(b:Int) ^ k:=fun k=>by simp
 have mono : ∀ {j k:Nat},j<=k->(b:Int) ^ j<=(b:Int) ^ k:=fun {j k} h=>by
  rw [<- cp,<- cp];exact Int.ofNat_le.mpr (Nat.pow_le_pow_right (by omega) h)
 have nb:(val b l).toNat < b ^ (40+p):=by
  have a:=mono h40
  have c:=cp (40+p)
  omega
 obtain ⟨d1,d2,d3,d4,d5⟩:=yD h2 h16 hp nb
 refine ⟨nb,?_⟩
 have ev:val b (dgs b p (val b l).toNat)=val b l:=by rw [d2];omega
 obtain ⟨w0,w1⟩:=KU hb _ d1
 refine zGJ hb _ _ d1 hf ?_ ev
 generalize dgs b p (val b l).toNat=D at *
 rcases Nat.lt_trichotomy D.length l.length with z | z | z
 ·have lo:=zCo hb l hf (by omega) (fun e=>by have:=hz e;omega)
  have m:=mono (show D.length<=l.length - 1 by omega)
  omega
 ·exact z
 ·have lo:=zCo hb D d1 (by omega) (fun e=>by have:=d5 e;omega)
  have m:=mono (show l.length<=D.length - 1 by omega)
  omega
def jo (p:Nat) (t:List Nat):List Nat:=if p=0 then t else t.take (t.length - p - 1)
def Z7 (p:Nat) (t:List Nat):List Nat:=if p=0 then [] else t.drop (t.length - p)
def WE (p pt:Nat) (t:List Nat):Prop:=p=0\/(p+1<=t.length/\t.getD (t.length - p - 1) 0=pt)
def NZ (u:List Nat):Prop:=¬ (1 < u.length/\u.getD 0 0=48)
def IsB (b:Int) (p pt z m:Nat) (t:List Nat):Prop:=WE p pt t/\GG z m (jo p t)/\j8 b (ug z (jo p t)++Z7 p t)/\NZ (ug z (jo p t))
def zAf (b:Int) (p z:Nat) (t:List Nat):Int:=val b (ug z (jo p t)++Z7 p t)
variable {t:List Nat}
theorem Kd {p pt:Nat} (h:WE p pt t):(Z7 p t).length=p:=by
 unfold Z7
 rcases h with h | h
 ·rw [if_pos h,h];rfl
 ·split
  ·rename_i z;rw [z];rfl
  ·rw [List.length_drop];omega
theorem zCv {p pt:Nat} (h:WE p pt t):t=if p=0 then jo p t else jo p t++[pt]++Z7 p t:=by
 rcases Nat.eq_zero_or_pos p with z | z
 ·rw [if_pos z];unfold jo;rw [if_pos z]
 ·rw [if_neg (by omega)]
  rcases h with h | ⟨h1,h2⟩
  ·omega
  ·unfold jo Z7
   rw [if_neg (by omega),if_neg (by omega)]
   have lt:t.length - p - 1 < t.length:=by omega
   have e1:t.drop (t.length - p - 1)=pt::t.drop (t.length - p):=by
    rw [List.drop_eq_getElem_cons lt,show t.length - p - 1+1=t.length - p by omega]
    rw [List.getD_eq_getElem?_getD,List.getElem?_eq_getElem lt] at h2
    rw [show t[t.length - p - 1]=pt from h2]
   rw [List.append_assoc,show [pt]++t.drop (t.length - p)=t.drop (t.length - p - 1) from e1.symm,List.take_append_drop]
variable {z:Nat}
theorem zEK {b p pt m:Nat} (h2:2<=b) (h16:b<=16) (hp:p<=6) (h:IsB b p pt z m t):0<=zAf b p z t/\(zAf b p z t).toNat < b ^ (40+p)/\bdy b p pt z m (zAf b p z t).toNat=t:=by
 obtain ⟨w,g,f,n⟩:=h
 have rl:=Kd w
 have jn:=zCv w
 unfold zAf
 generalize hU:ug z (jo p t)=u at *
 generalize Z7 p t=r at *
 have g1:=g.1;have g2:=g.2.1;have g3:=g.2.2
 rw [hU] at g1 g2 g3
 obtain ⟨v1,v2⟩:=WR h2 h16 hp f (by rw [length_append];omega) (by rw [length_append];omega) (fun e=>by
  rw [yc (by omega)] at e
  rw [length_append]
  have : ¬ 1 < u.length:=fun z=>n ⟨z,e⟩
  omega)
 refine ⟨(KU (by omega) _ f).1,v1,?_⟩
 have ew:whl b p (val b (u++r)).toNat=u:=by
  unfold whl;rw [v2,length_append,show u.length+r.length - p=u.length by omega,List.take_left]
 have er:rst b p (val b (u++r)).toNat=r:=by
  unfold rst;rw [v2,length_append,show u.length+r.length - p=u.length by omega,List.drop_left]
 unfold bdy
 rw [ew,er,g3]
 exact jn.symm
theorem zID {c:Nat} (h:c ∈ ug z t):c ∈ t:=by
 unfold ug at h
 split at h
 ·exact h
 ·rename_i hz
  have key : ∀ l:List Nat,c ∈ UJ z l->c ∈ l:=fun l=>by
   refine JU (P:=fun l=>c ∈ UJ z l->c ∈ l) (fun h=>by rw [ya] at h;exact h) (fun l x ih h=>?_) l
   rw [zCs (by omega) l.length l (Nat.le_refl _)] at h
   rcases List.mem_append.mp h with h | h
   ·exact List.mem_append_left _ (ih h)
   ·split at h
    ·cases h
    ·exact List.mem_append_right _ h
  have:=key _ (List.mem_reverse.mp h)
  exact List.mem_reverse.mp this
theorem zBN {p:Nat}:t.take (jo p t).length=jo p t:=by
 unfold jo
 split
 ·exact List.take_length
 ·rw [List.length_take,Nat.min_def]
  split
  ·rfl
  ·rw [List.take_length,List.take_of_length_le (by omega)]
theorem zAX {p pt:Nat} (h:WE p pt t):t.drop ((jo p t).length+1)=Z7 p t:=by
 unfold jo Z7
 split
 ·exact List.drop_of_length_le (by omega)
 ·rename_i n
  rcases h with h | h
  ·exact absurd h n
  ·rw [List.length_take,Nat.min_eq_left (by omega),show t.length - p - 1+1=t.length - p by omega]
theorem zBZ {p:Nat}:(jo p t).length<=t.length:=by
 unfold jo;split
 ·exact Nat.le_refl _
 ·rw [List.length_take];omega
theorem zDy {p:Nat} (h:Asc t):Asc (ug z (jo p t)++Z7 p t):=by
 intro c hc
 rcases List.mem_append.mp hc with hc | hc
 ·have:=zID hc
  unfold jo at this
  split at this
  ·exact h c this
  ·exact h c (List.mem_of_mem_take this)
 ·unfold Z7 at hc
  split at hc
  ·cases hc
  ·exact h c (List.mem_of_mem_drop hc)
section
variable {X : Cx} {H : Hp} {Q : VK} {K : W.Frag}
theorem isStrOf_shape {k:Str} {v:Value} (h:Value.isStrOf k v=true) : ∃ t,v = .str k t:=by
 rcases qZ (k:=Sum.inr k) h with ⟨i,t,z,_⟩ | ⟨x,t,z,e⟩
 ·cases z
 ·cases z;exact ⟨t,e⟩
end
theorem Xf {s R:TS} (I:St->Hp->Prop) (h2 : ∀ σ' H',I σ' H'->R D σ' H') (h1 : ∀ R':TS,(∀ σ' H',I σ' H'->R' D σ' H')->zJv s R' D σ H):zJv s R D σ H:=h1 R h2
def wfs (L:Addr) (n:Nat):List (Str × V):=[("words", .ref L),("at", .int n)]
def Wr (K:W.Frag) (C:Addr) (H:Hp) (a:Addr) (Xt:List (List Nat)):Prop:=∃ (dx L:Addr) (ws:List (List Nat)) (n:Nat),H a=some (.ins C dx (wfs L n))/\SqL K H L (tsV ws)/\n<=ws.length/\ws.drop n=Xt/\ws.length<=100
section
variable {K : W.Frag} {C : Addr} {H H' : Hp} {a L dx : Addr} {n : Nat} {Xt : List (List Nat)}
theorem Wr.same (g:zT H H') (h:Wr K C H a Xt):Wr K C H' a Xt:=let ⟨d,L,ws,n,e1,e2,e3,e4,e5⟩:=h;⟨d,L,ws,n,g.at e1,g.seq e2,e3,e4,e5⟩
theorem SB.tup {xs:List V} {p:Addr} (s:SB a H H') (w:Wr K C H a Xt) (h:H p=some (.tup xs)):H' p=some (.tup xs):=by
 obtain ⟨d,L,ws,n,e1,_⟩:=w
 exact s p _ (fun z=>by subst z;rw [e1] at h;cases h) h
theorem SB.lst {xs:List V} {p:Addr} (s:SB a H H') (w:Wr K C H a Xt) (h:H p=some (.lst xs)):H' p=some (.lst xs):=by
 obtain ⟨d,L,ws,n,e1,_⟩:=w
 exact s p _ (fun z=>by subst z;rw [e1] at h;cases h) h
theorem SB.trans {F:Hp} (s:SB a H H') (t:SB a H' F):SB a H F:=fun b o n e=>t b o n (s b o n e)
theorem SB.of (g:zT H H'):SB a H H':=fun b o _ e=>g _ _ e
end
def zIB:R2:=fun x y H Q=>y = .non/\Q (.bl (!decide (x = .non))) H
theorem zEn:OpR X (compareOp .IsNot) zIB:=zFy
variable {Q:VK}
theorem zGo {i:Int} (q:Q (.bl true) H):zIB (.int i) .non H Q:=⟨rfl,by rw [decide_eq_false (fun z=>nomatch z)];exact q⟩
def ItP (lo c:Int) (n:Nat):It:=⟨fun i _=>i < n,fun i H x H'=>H'=H/\x = .int (lo+i*c),fun i _=>n<=i⟩
theorem zAs {K:PySem.W.Frag} {tg:Expr} (it:Addr) (lo c:Int) (n:Nat):zGe P w K tg (ItP lo c n) [it] it (fun i h=>IsRangeIter h it (lo+(i:Nat)*c) ((n:Int) - (i:Nat)) c) where
 mem:=by simp
 obj:=fun i h st b hb=>by
  have e:b=it:=by simpa using hb
  subst e
  exact ⟨_,st,fun v z=>by
   have z':Data.fields _=Data.cell v:=z
   cases z'⟩
 keep:=fun i h h' st k=>k it (by simp) _ st
 item:=by
  intro X hP hw hK hc i pins s σ H E I hf st hg
  subst hP hw hK
  obtain ⟨f0,f1,f2,f3,f4,f5⟩:=hf it (by simp)
  have W:=Walks.range (prog:=X.prog) (w:=X.w) (I.ok.hd hc) it lo c n
  refine W.item i s _ _ hg st fun v h' tk hv st' kk=>?_
  obtain ⟨t,rfl⟩:=hv
  have I1:Inv X pins σ H { s with heap:=h',toks:=tk }:=I.turned (fun b o hb e=>kk b o (by simpa using hb) e) f0 f1 f3 f4 f5
  exact ⟨_,rfl,zBo (s:={ s with heap:=h',toks:=tk }) (n:="range_iterator") st' rfl rfl (by decide) ⟨.int (lo+i*c),H,I1,⟨t,rfl⟩,⟨rfl,rfl⟩,st',fun b hb=>(hf b hb).1⟩⟩
 done:=by
  intro X hP hw hK hc i pins s σ H E I hf st hg
  subst hP hw hK
  obtain ⟨f0,f1,f2,f3,f4,f5⟩:=hf it (by simp)
  exact wpAny_pyNext_range_end (I.ok.hd hc) st (by have:n<=i:=hg;omega) fun h' eb=>⟨rfl,I.turned (t':=s.toks) (fun b o hb e=>eb b o hb e) f0 f1 f3 f4 f5⟩
 self:=fun _ _ _ _ _ st h=>wpAny_pyIter_rangeiter st h
section
variable {X : Cx} {tg : Expr}
structure zB7 (lo hi c:Int) (n:Nat):Prop where
 one:1<=c
 lit:Builtin.Range.small lo hi c=true
 num:Builtin.Range.rangeSize lo hi c=n
 room:Builtin.divisionGoesByPylong (hi - lo) c=false
theorem zDv {pins:List (Addr × Obj)} {R:It->Hp->Prop} {E:Value->Shared->Prop} {lo hi c:Int} {t u v:Tok} {tk:Nat} (I:Inv X pins σ H s) (b:zB7 lo hi c n)
  (q:R (ItP lo c n) H):wpAny (model X.prog X.w) X.A (pyIter (.ref s.heap.objs.size)) (PIE X pins σ tg R) E { s with heap:=s.heap.push { cls:=.type "range", data:=.fields #[.int lo t,.int hi u,.int c v] },toks:=tk }:=by
 refine wpAny_pyIter_range (IsRange.new ..) b.lit ?_
 have I1:Inv X pins σ H { s with heap:=s.heap.push { cls:=.type "range", data:=.fields #[.int lo t,.int hi u,.int c v] },toks:=tk }:=I.kept fun b o e=>Heap.get?_push_of_some _ e
 refine ⟨(s.heap.push { cls:=.type "range", data:=.fields #[.int lo t,.int hi u,.int c v] }).objs.size,[(s.heap.push { cls:=.type "range", data:=.fields #[.int lo t,.int hi u,.int c v] }).objs.size],_,_,H,rfl,
  I1.kept (t':=tk) fun b o e=>Heap.get?_push_of_some _ e,zAs _ lo c n,?_,fun b hb=>?_,q⟩
 ·have e1:lo+((0:Nat):Int)*c=lo:=by simp
  have e2:((n:Nat):Int) - ((0:Nat):Int)=Builtin.Range.rangeSize lo hi c:=by rw [b.num];simp
  show IsRangeIter _ _ (lo+((0:Nat):Int)*c) (((n:Nat):Int) - ((0:Nat):Int)) c
  rw [e1,e2]
  exact Heap.get?_push_size _ rfl
 ·have e:b=(s.heap.push { cls:=.type "range", data:=.fields #[.int lo t,.int hi u,.int c v] }).objs.size:=by simpa using hb
  subst e
  exact I1.fpOk (Nat.le_refl _) (I1.hok.fresh (Nat.le_refl _))
def zIi (ta:TA):TI:=fun σ H R=>ta σ H fun vs H1=>∃ (i j c:Int) (n:Nat),vs=[.int i,.int j,.int c]/\zB7 i j c n/\R (ItP i c n) H1
theorem zC1 {a b c:Expr} {ta:TA} (hg:Gl X "range") (hm:X.mg "range" = none) (ha:PA X [a,b,c] ta) (hs:starEach [a,b,c] X.env=[(false,eval a X.env),(false,eval b X.env),(false,eval c X.env)]:=by rfl) (hs2:starEach [b,c] X.env=[(false,eval b X.env),(false,eval c X.env)]:=by rfl) :
  PI X tg (.Call (.Name "range" p) [a,b,c] [] pos) (zIi ta):=by
 intro pins s σ H R I h
 refine Call_ (YD I hg hm boot_range (PyProof.Rows.callWith_type1 (thn (ha pos pins s σ H _ I h) fun us s1 zq=>?_) (by rw [hs,hs2]) (by rw [hs2];rfl)))
 obtain ⟨vs,H1,I1,r1,q1⟩:=zq
 obtain ⟨i,j,k,n,e,b,q⟩:=q1
 subst e
 cases r1 with
 | cons r rr =>
  cases rr with
  | cons r' rr =>
   cases rr with
   | cons r'' rr =>
    cases rr
    obtain ⟨t,rfl⟩:=r
    obtain ⟨t',rfl⟩:=r'
    obtain ⟨t'',rfl⟩:=r''
    exact call_range_3 (by have:=b.one;omega) (zDv I1 b q) (.inl b.room)
end
section
variable {σ : St} {H : Hp} {Q : VK} {D : QQ} {K : W.Frag}
def zFJ (g:TG) (tb:TS) (D:QQ) (σ:St) (vs:List V) (H:Hp):Prop:=∃ (i j c:Int) (n:Nat),vs=[.int i,.int j,.int c]/\zB7 i j c n /\ ∃ W:Nat->Nat->St->Hp->Prop,(∃ m,W 0 m σ H) /\ ∀ k m σ H,W k m σ H ->
 ((ItP i c n).stop k H/\D.nx σ H)\/((ItP i c n).go k H /\ ∃ N:St->Hp->Prop,(∀ σ' H',N σ' H' -> ∃ m',m' < m/\W (k+1) m' σ' H') /\ ∀ x H',(ItP i c n).yld k H x H'->g x σ H' fun σ2 H2=>tb { D with nx:=N,ct:=N,bk:=D.nx } σ2 H2)
theorem zBW {ta:TA} {g:TG} {tb:TS} (h:ta σ H (zFJ g tb D σ)):zGO (zIi ta) g tb D σ H:=h
theorem zED {g:TG} {tb:TS} {i j c:Int} (hb:zB7 i j c n) (Pv:Nat->St->Hp->Prop) (h0:Pv 0 σ H)
  (hs : ∀ k σ H,k < n->Pv k σ H->g (.int (i+k*c)) σ H fun σ2 H2=>tb { D with nx:=Pv (k+1),ct:=Pv (k+1),bk:=D.nx } σ2 H2) (hd : ∀ σ H,Pv n σ H->D.nx σ H):zFJ g tb D σ [.int i,.int j,.int c] H:=by
 refine ⟨i,j,c,n,rfl,hb,fun k m σ H=>m=n - k/\k<=n/\Pv k σ H,⟨n,by simp,Nat.zero_le _,h0⟩,?_⟩
 rintro k m σ H ⟨rfl,hi,p⟩
 by_cases hlt:k < n
 ·refine .inr ⟨hlt,Pv (k+1),fun σ' H' p'=>⟨n - (k+1),by omega,rfl,hlt,p'⟩,fun x H' y=>?_⟩
  obtain ⟨e,y⟩:=y
  subst e y
  exact hs k σ _ hlt p
 ·have e:k=n:=by omega
  subst e
  exact .inl ⟨Nat.le_refl _,hd σ H p⟩
end
def zEV (t1 t2:TE):TE:=fun σ H Q=>t1 σ H Q\/t2 σ H Q
section
variable {X : Cx} {σ : St} {H : Hp} {Q : VK} {K : W.Frag} {w : World}
variable {t1 t2:TE}
theorem j6 {e:Expr} (h1:PE X e t1) (h2:PE X e t2):PE X e (zEV t1 t2):=fun pins s σ H Q I h=>h.elim (h1 pins s σ H Q I) (h2 pins s σ H Q I)
theorem VY (h:t1 σ H Q):zEV t1 t2 σ H Q:=.inl h
theorem JP (h:t2 σ H Q):zEV t1 t2 σ H Q:=.inr h
end
section
variable {X : Cx} {CX : CXT} {k : Nat} {f : Addr} {fd : FuncData} {ps : List Str} {sp : Sp} {dvs : List V} {ds : List Value} {E : XK} {x : Str} {p pos : Pos} {e a : Expr} {es : List Expr} {te ta : TE} {t : TA}
structure zHd (P:Program) (w:World) (K:W.Frag) (mg:Str->Option Value) (base:Heap) (CX:CXT) (k:Nat) (f:Addr) (fd:FuncData) (ps:List Str) (sp:Sp):Prop where
 len : ∀ vs H Q E,sp vs H Q E->vs.length=ps.length
 run : ∀ (A:Around) (outer:List Env) (s:Shared) (H:Hp) (args:Args) (us:List Value) (vs:List V) (Q:VK) (E:XK),0 < s.toks->xn k A->Kz P w K mg base A outer s H->BindsTo s fd args (ps.zip us)->qR vs us->sp vs H Q E ->
  codeAny (model P w) A (.call (.ref f) args) (CR CX outer P w H s Q E) s
end
def zJ9 (X:Cx) (st:List Stmt) (t:TS):Prop:=
 ∀ (pins:List (Addr × Obj)) (s:Shared) (σ:St) (H:Hp) (D:QQ),0 < s.toks->Inv X pins σ H s->t D σ H->wpAny (model X.prog X.w) X.A (execs st X.env) (SP X pins D) X.xe s
theorem zJ9.nox {st:List Stmt} {t:TS} (h:zJ9 X.nox st t):zJ9 X st t:=fun pins s σ H D l I hw =>
 wpAny_mono (h pins s σ H D l (I.wish _) hw) (fun _ _ q=>q.unwish) fun _ _ z=>False.elim z
theorem zHd.mono {CX:CXT} (F:zHd P w K mg base CX j f fd ps sp) (h:j<=k) :
  zHd P w K mg base CX k f fd ps sp:=⟨F.len,fun A outer s H args us vs Q E l hr=>F.run A outer s H args us vs Q E l (hr.mono h)⟩
def Df (K:W.Frag) (x:Str) (st:Stmt) (f:Addr):Prop:=∃ (oc:Value) (od:Option Addr) (kV dc pm:Value) (an:Option Addr) (cd ct:Value) (sl:Array (Option Value)),W.nsIn K mainGlobals x=some (some (.ref f)) /\
 K.lookup f=some ⟨oc,od,.func (W.fnOf x x (qL st) (z7 st) (zH st) .none kV dc pm an cd ct),sl⟩/\W.codeIn K cd x=true/\W.keepIn K (.ref f)=true
def Dm (K:W.Frag) (q m:Str) (st:Stmt) (dV:Value) (C f:Addr):Prop:=∃ (oc:Value) (od:Option Addr) (kV dc pm:Value) (an:Option Addr) (cd ct:Value) (sl:Array (Option Value)),W.findIn K (.ref C) m=some (some (.ref f)) /\
 K.lookup f=some ⟨oc,od,.func (W.fnOf m q (qL st) (z7 st) (zH st) dV kV dc pm an cd ct),sl⟩/\W.codeIn K cd q=true/\W.keepIn K (.ref f)=true/\W.isFn K (.ref f)=true
section
variable {K : W.Frag} {x q m : Str} {st : Stmt} {f C t : Addr} {oc dV : Value} {od : Option Addr} {kV dc pm : Value} {an : Option Addr} {cd ct : Value} {sl : Array (Option Value)}
theorem zKP (a:W.nsIn K mainGlobals x=some (some (.ref f))) (l:K.lookup f=some ⟨oc,od,.func (W.fnOf x x (qL st) (z7 st) (zH st) .none kV dc pm an cd ct),sl⟩) (c:W.codeIn K cd x=true) (k:W.keepIn K (.ref f)=true):Df K x st f:=⟨oc,od,kV,dc,pm,an,cd,ct,sl,a,l,c,k⟩
theorem zF8 (a:W.findIn K (.ref C) m=some (some (.ref f))) (l:K.lookup f=some ⟨oc,od,.func (W.fnOf m q (qL st) (z7 st) (zH st) dV kV dc pm an cd ct),sl⟩) (c:W.codeIn K cd q=true) (k:W.keepIn K (.ref f)=true) (n:W.isFn K (.ref f)=true):Dm K q m st dV C f:=⟨oc,od,kV,dc,pm,an,cd,ct,sl,a,l,c,k,n⟩
variable {h : Heap} {mg : Str -> Option Value} {P : Program} {w : World} {base : Heap} {k : Nat} {ps : List Str} {sp : Sp} {CX : CXT}
def Gd (P:Program) (w:World) (K:W.Frag) (mg:Str->Option Value) (base:Heap) (CX:CXT) (f:Addr) (k:Nat) (ps:List Str) (sp:Sp):Prop:=∃ fd,x5 P w K mg base CX k f fd ps sp/\W.keepIn K (.ref f)=true/\W.isFn K (.ref f)=true/\x8 K fd ps []
theorem zH2 (d:Dm K q m st .none C f) (ok : ∀ fd,WW K m q st f fd->x5 P w K mg base CX k f fd ps sp)
  (hb : ∀ (kV dc pm:Value) (an:Option Addr) (cd ct:Value) (us:List Value),us.length=ps.length->bindArgs (W.fnOf m q (qL st) (z7 st) (zH st) .none kV dc pm an cd ct) ⟨us,[]⟩=pure (ps.zip us)):Gd P w K mg base CX f k ps sp:=by
 obtain ⟨_,_,_,_,_,_,_,_,_,a,l,c,k',n⟩:=d
 exact ⟨_,ok _ (zBk l c k'),k',n,.all (hb _ _ _ _ _ _)⟩
theorem zI9 {oc':Value} {od':Option Addr} {n':Nat} (d:Dm K q m st (.ref t) C f) (hl:K.lookup t=some ⟨oc',od',.seq it n',osl⟩) (ok : ∀ fd,WW K m q st f fd->x5 P w K mg base CX k f fd ps sp)
  (hb : ∀ (kV dc pm:Value) (an:Option Addr) (cd ct:Value) (us:List Value),us.length=ps.length -> ∃ k,bindArgs (W.fnOf m q (qL st) (z7 st) (zH st) (.ref t) kV dc pm an cd ct) ⟨us,[]⟩=seqItems? (.ref t) >>= k/\k (some it)=pure (ps.zip us)):Gd P w K mg base CX f k ps sp:=by
 obtain ⟨_,_,_,_,_,_,_,_,_,a,l,c,k',n⟩:=d
 exact ⟨_,ok _ (zBk l c k'),k',n,zAq hl rfl (hb _ _ _ _ _ _)⟩
theorem zLd (g:Gd P w K mg base CX f k ps sp) (a:W.findIn K (.ref C) m=some (some (.ref f))):zJx P w K mg base CX C m k ps sp:=let ⟨fd,o,kp,fn,b⟩:=g;⟨f,fd,o,⟨a,fn,kp⟩,b⟩
theorem zLS (g:Gd P w K mg base CX f k ps sp) (i1:W.makesIn K C=true) (i2:W.findIn K (.ref C) "__init__" = some (some (.ref f))) (i4:W.keepIn K (.ref C)=true):zKe P w K mg base CX C k ps sp:=let ⟨fd,o,kp,fn,b⟩:=g;⟨f,fd,o,⟨i1,i2,fn,i4⟩,b⟩
theorem zLN (g:Gd P w K mg base CX f k ps sp) (c1:W.specialIn K (.ref C) "__getattribute__" = some (some (.builtin "type.__getattribute__"))) (c2:W.readsIn K C (.type "type")=true) (c3:W.findCls K (.ref C) (.type "type") m=some (.val (.ref f))):zJt P w K mg base CX C m k ps sp:=let ⟨fd,o,kp,fn,b⟩:=g;⟨f,fd,o,⟨c1,c2,c3,kp⟩,b⟩
end
section
variable {X : Cx} {H : Hp} {Q : VK}
def zFY:List V->Hp->VK->Prop:=fun xs H Q=>∃ l:List Nat,xs=[.str (T l)]/\l.length<=1000 /\ ∀ p,H p=none->Q (.ref p) (upd H p (.lst (tsV (l.map fun c=>[c]))))
theorem Yj : ∀ {l:List Nat} {us:List Value},us.length=l.length->(∀ (j:Nat) v,us[j]? = some v -> ∃ c u,l[j]? = some c/\v = .str ⟨#[c]⟩ u)->qR (tsV (l.map fun c=>[c])) us
 | [],[],_,_=>.nil
 | [],_::_,h,_=>by simp at h
 | _::_,[],h,_=>by simp at h
 | c::l,v::us,h,hv=>by
  obtain ⟨c',u,e,hu⟩:=hv 0 v rfl
  cases e
  exact .cons ⟨u,hu⟩ (Yj (by simpa using h) fun j w hw=>hv (j+1) w hw)
theorem Qp (hc:X.calm=true):yQ X (.type "list") zFY:=by
 intro pins s σ H xs us Q I r h
 obtain ⟨l,rfl,hz,q⟩:=h
 obtain ⟨u,rfl,rx⟩:=Wf r
 obtain ⟨t,rfl⟩:=rx
 have hl:(T l).cps.size=l.length:=by simp [T]
 refine call_list_str (I.ok.hd hc) (T l) t (fun h' tk acc' c' kp e hacc=>?_) (by rw [hl];exact Nat.le_of_lt (qK (by omega)))
 refine ⟨.ref s.heap.objs.size,_,I.laid (t':=tk) kp (Nat.le_refl _) (show xO X.prog X.w _ h' _ (.lst (tsV (l.map fun c=>[c]))) from ⟨?_,acc'.toList,c',?_,by rw [Array.toArray_toList];exact e⟩),rfl,q _ (I.hok.fresh (Nat.le_refl _))⟩
 ·unfold tsV;rw [length_map,length_map];exact Nat.le_of_lt (qK (by omega))
 ·refine Yj (by rw [Array.length_toList,hacc.1,hl]) fun j v hv=>?_
  obtain ⟨c,u,e1,e2⟩:=hacc.2 j v (by rw [<- Array.getElem?_toList];exact hv)
  exact ⟨c,u,by simpa [T] using e1,e2⟩
theorem zHJ (hz:l.length<=1000) (q : ∀ p H',zT H H'->H p=none->H' p=some (.lst (tsV (l.map fun c=>[c])))->Q (.ref p) H'):zFY [.str (T l)] H Q:=⟨l,rfl,hz,fun p hp=>q p _ (qM (zT.refl _) hp) hp zR⟩
end
section
variable {K : W.Frag} {σ : St} {H : Hp} {Q : VK} {is : List Nat} {tt : TT} {te : TE}
theorem z8 {a:Addr} {xs:List V} (hx:SqL K H a xs) (hz:xs.length<=sizeLine) (Pv:Nat->List V->Hp->Prop) (h0:Pv 0 [] H) (hl : ∀ i ys H,i<=xs.length->Pv i ys H->SqL K H a xs/\ys.length<=i)
  (hs : ∀ i x ys H,xs[i]? = some x->i < xs.length->Pv i ys H->tt (some x::is.map fun j=>(σ[j]?).getD none) H fun ok H2=>if ok=true then te (some x::is.map fun j=>(σ[j]?).getD none) H2 fun y H3=>NxC xs.length Pv i (ys++[y]) H3 else NxC xs.length Pv i ys H2)
  (hd : ∀ ys H,Pv xs.length ys H -> ∀ p H',zT H H'->H p=none->H' p=some (.lst ys)->Q (.ref p) H'):zFL K is tt te σ Q (.ref a) H:=by
 refine ⟨a,rfl,⟨xs,hx⟩,fun i m ys H=>m=xs.length - i/\i<=xs.length/\Pv i ys H,⟨xs.length,by simp,Nat.zero_le _,h0⟩,?_⟩
 rintro i m ys H ⟨rfl,hi,p⟩
 obtain ⟨q,ly⟩:=hl i ys H hi p
 refine ⟨by omega,?_⟩
 by_cases hlt:i < xs.length
 ·refine .inr ⟨⟨xs,xs[i],q,by simp [hlt]⟩,by omega,fun x H' y=>?_⟩
  obtain ⟨e,y⟩:=y
  subst e
  exact hs i x ys _ (y xs q) hlt p
 ·have e:i=xs.length:=by omega
  subst e
  exact .inl ⟨⟨xs,q,Nat.le_refl _⟩,fun p' hp=>hd ys H p p' _ (jP hp _) hp zR⟩
end
section
variable {σ : St} {H : Hp} {Q : VK} {is : List Nat} {tt : TT} {te : TE}
def zCV (is:List Nat) (tt:TT) (te:TE) (σ:St) (Q:VK) (vs:List V) (H:Hp):Prop:=∃ i j:Int,vs=[.int i,.int j]/\(-(2 ^ 62)<=i/\i < 2 ^ 62 /\ -(2 ^ 62)<=j/\j < 2 ^ 62)/\zBQ is tt te σ Q (Itr i (j - i).toNat) H
theorem zDg {ta:TA} (h:ta σ H (zCV is tt te σ Q)):zBF is (zGs ta) tt te σ H Q:=h
theorem zB1 {lo hi:Int} (hb : -(2 ^ 62)<=lo/\lo < 2 ^ 62 /\ -(2 ^ 62)<=hi/\hi < 2 ^ 62) (hz:(hi - lo).toNat<=sizeLine) (Pv:Nat->List V->Hp->Prop) (h0:Pv 0 [] H) (hl : ∀ i ys H,i<=(hi - lo).toNat->Pv i ys H->ys.length<=i)
  (hs : ∀ i ys H,i < (hi - lo).toNat->Pv i ys H->tt (some (.int (lo+i))::is.map fun j=>(σ[j]?).getD none) H fun ok H2=>if ok=true then te (some (.int (lo+i))::is.map fun j=>(σ[j]?).getD none) H2 fun y H3=>NxC (hi - lo).toNat Pv i (ys++[y]) H3 else NxC (hi - lo).toNat Pv i ys H2)
  (hd : ∀ ys H,Pv (hi - lo).toNat ys H -> ∀ p H',zT H H'->H p=none->H' p=some (.lst ys)->Q (.ref p) H'):zCV is tt te σ Q [.int lo,.int hi] H:=by
 refine ⟨lo,hi,rfl,hb,fun i m ys H=>m=(hi - lo).toNat - i/\i<=(hi - lo).toNat/\Pv i ys H,⟨(hi - lo).toNat,by simp,Nat.zero_le _,h0⟩,?_⟩
 rintro i m ys H ⟨rfl,hi',p⟩
 have ly:=hl i ys H hi' p
 refine ⟨by omega,?_⟩
 by_cases hlt:i < (hi - lo).toNat
 ·refine .inr ⟨hlt,by omega,fun x H' y=>?_⟩
  obtain ⟨e,y⟩:=y
  subst e y
  exact hs i ys _ hlt p
 ·have e:i=(hi - lo).toNat:=by omega
  subst e
  exact .inl ⟨Nat.le_refl _,fun p' hp=>hd ys H p p' _ (jP hp _) hp zR⟩
end
section
variable {M : Model} {A : Around} {E : Value -> Shared -> Prop} {s : Shared} {base : Heap} {env : Env} {outer : List Env} {L e : Addr} {Q : Unit -> Shared -> Prop}
theorem zAu {cls:Value} (fr:A.frames=some (env::outer)) (ef:env.frame=some L) (fly:Heap.FlyingW base (env::outer) e cls a0 s.heap) (c2:C2 s.heap e)
  (k : ∀ h',Heap.FlyingW base outer e cls a0 h'->C2 h' e->s.heap.UpToSlots h'->Q () { s with heap:=h' }):wpAny M A (leaving env (.ref e)) Q E s:=by
 unfold leaving
 refine wpAny_bind (zB2 fr ef fly c2 fun h1 held c1 sm1=>?_)
 exact zCY (s:={ s with heap:=h1 }) held c1 fun h2 fl c3 sm2=>k h2 ⟨fl.1,fl.2.1,fl.2.2.1.2.2,fl.2.2.2⟩ c3 (sm1.trans sm2)
end
section
variable {P : Program} {w : World} {K : W.Frag} {mg : Str -> Option Value} {base : Heap} {N : List Str} {qual : Str} {scope : Scope} {f : Addr} {cd : Value} {A : Around} {outer : List Env} {s : Shared} {H : Hp} {E : XK}
theorem zBD:x9 (X2 P w) (Zy (X2 P w) P w K mg base N qual scope f cd A outer s H E) E:=by
 intro pins σ H1 s1 e s' I1 fl
 obtain ⟨x,C,a0,H',B,rfl,hos,hbare,fly,c2,clo,hx1,hx2,q⟩:=fl
 refine zAu I1.ok.frames rfl fly c2 fun h2 fly2 c3 sm=>?_
 refine ⟨x,C,a0,H',B,rfl,hos.trans I1.os,hbare,fly2,c3,fun h3 st sm3=>?_,?_,hx2,q⟩
 ·have cl:=clo h3 st (sm.trans sm3)
  have I3:=I1.call' (s':={ s' with heap:=h3 }) hos cl.1 cl.2 hbare (fun b z=>nomatch z)
  exact ⟨I3.base,I3.hok⟩
 ·cases z:s.heap.get? x with
  | none=>rfl
  | some o =>
   obtain ⟨o',e1⟩:=I1.base.there x o z (fun h=>nomatch h)
   rw [hx1] at e1;cases e1
end
section
variable {X : Cx} {pins0 : List (Addr × Obj)} {σc : St} {k n : Nat} {C : Addr} {ps : List Str} {sp : Sp} {E : XK} {x m : Str} {p np pos apos : Pos} {e o : Expr} {es : List Expr} {ta : TE} {t : TA}
theorem XC {pl:Sem Bool} (F:zJx X.prog X.w X.K X.mg X.base (X2 X.prog X.w) C m k ps sp) (c:Cls X.K C) (hr:xn n X.A) (he:PE (X.tr2 pins0 σc E) o ta) (ha:PA (X.tr2 pins0 σc E) (e::es) t) (hk:k<=n:=by decide)
  (hst:starEach (e::es) X.env=(false,eval e X.env)::starEach es X.env:=by rfl) (hpl:(backTo pos (starEach es X.env)).any (·.1)=false:=by rfl)
  (ht:eval (.Call (.Attribute o m apos) (e::es) [] pos) X.env=(do
   let ov <- eval o X.env
   standAt apos.atName
   let (f,first) <- holding [ov] (getMethod ov m pl)
   callWith pos f first (backTo pos (starEach (e::es) X.env)) (backToKw pos (keywordEach [] X.env))):=by rfl) :
  PE (X.tr2 pins0 σc E) (.Call (.Attribute o m apos) (e::es) [] pos) (Wy C m sp E σc ta t):=by
 intro pins s σ H Q I h
 obtain ⟨f,fd,G,M,b⟩:=F
 refine W.methodCall_KW (pl:=pl) (thn (he pins s σ H _ I h) fun u s1 zq=>?_) ht
 obtain ⟨x,H1,I1,rx,a,dx,fs,ex,ea,l,q⟩:=zq
 subst ex
 obtain rfl:u=Value.ref a:=rx
 refine Yc I1 ea c M l ?_
 refine W.callWith_K (first:=[.ref a]) (h₀:=X.base) I.ok.mod.kin M.kp (thn (ha pos pins s1 σ H1 _ I1 q) fun us s2 ⟨vs,H2,I2,r,q2⟩=>⟨I2.kIn,?_⟩) hst hpl
 exact zAQ (us:=.ref a::us) (vs:=.ref a::vs) (G.mono hk) hr b I2 (.cons rfl r) q2.1 q2.2
end
def ExC (x C:Addr) (h:Heap):Prop:=zBT x C h/\C2 h x
theorem C2.keep {h':Heap} {x:Addr} (c:C2 h x) (k : ∀ o,h.get? x=some o->h'.get? x=some o):C2 h' x:=let ⟨o,vs,a,r⟩:=c;⟨o,vs,k o a,r⟩
def zFc (K:W.Frag) (C':Addr) (i:Nat) (tb:St->XK->TS) (ts:Addr->TS):TS:=fun D σ H=>∃ σc,tb σc (fun cls _ H2=>∃ C,cls = .ref C/\Exc K C/\W.exmOne K (.ref C) (.ref C')=some true /\
 ∀ x,H2 x=none->ts x { nx:=fun _ _=>False,rt:=D.rt } (σc.set i (some (.ref x))) (upd H2 x (.ext (ExC x C)))) D σ H
theorem Y4 {cx nx:Str} {i:Nat} {np hpos:Pos} {ts:Addr->TS} {C':Addr} {b₀:Stmt} {suite:List Stmt}
  (hex:X.ex=[]) (hst:X.stack=X.env::X.outer) (hfr:X.env.frame=some X.env.locals) (hb : ∀ pins σc E,PSs (X.tr2 pins σc E) body (tb σc E))
  (hgc:Gl X cx) (hmc:X.mg cx=some (.ref C')) (hN:X.N.Nodup) (hi:X.N[i]? = some nx) (hnx:X.env.scope.names.lookup nx=some .local) (hs : ∀ y,PSs (X.inExc y) (b₀::suite) (ts y))
  (hdc:(cx == ("__debug__" : Str))=false:=by decide) :
  PS X (.Try body [.ExceptHandler (some (.Name cx np)) (some nx) (b₀::suite) hpos] [] [] pos) (zFc X.K C' i tb ts):=by
 intro pins s σ H D I h
 obtain ⟨σc,h⟩:=h
 have hkn:X.env.kindOf nx=some .local:=hnx
 refine wpAny_Try_except (wpAny_mono (hb pins σc _ [] s σ H D I.tr2 h) (fun f s1 q=>?_) fun er s' z=>?_)
 ·cases f with
  | next=>exact wpAny_execs_nil q.untr2
  | ret u=>exact q.untr2
  | brk=>exact q.untr2
  | cont=>exact q.untr2
 ·obtain ⟨H1,s1,I1,fl⟩:=z
  obtain ⟨y,C,a0,H2,B,rfl,hos,hbare,fly,cc0,clo,hy0,hy2,C0,z0,ex,exm,q⟩:=fl
  cases z0
  rw [hst] at fly
  refine zB2 (I.ok.frames.trans (congrArg some hst)) hfr fly cc0 fun h1 held cc1 sm1=>?_
  refine zCY (s:={ s' with heap:=h1 }) held cc1 fun h2 fly2 cc2 sm2=>?_
  have cl2:=clo h2 fly2.1 (sm1.trans sm2)
  have I2:Inv X pins σc H2 { s' with heap:=h2 }:=I1.call' (s':={ s' with heap:=h2 }) hos cl2.1 cl2.2 hbare (fun b z=>nomatch z)
  have ney : ∀ {b:Addr} {o:Obj},s1.heap.get? b=some o->b≠y:=fun {b o} e z=>by rw [z,hy0] at e;cases e
  refine wpAny_handleBy_cons (codeAny_handlers_test (jE (I2.inExc y) hgc hmc ?_ hdc)) (by intro q;cases q)
  refine (W.exm_one (M:=model X.prog X.w) I2.kIn (isx fly2).ty exm).here ?_
  refine codeAny_handlers_suite_as (zCR (s:={ s' with heap:=h2 }) fly2 cc2 fun h3 fly3 cc3 sm3=>?_)
  have cl3:=clo h3 fly3.1 ((sm1.trans sm2).trans sm3)
  have I3:Inv X pins σc H2 { s' with heap:=h3 }:=I1.call' (s':={ s' with heap:=h3 }) hos cl3.1 cl3.2 hbare (fun b z=>nomatch z)
  have I4:Inv X pins σc (upd H2 y (.ext (ExC y C))) { s' with heap:=h3 }:=by
   refine I3.track2 hy2 (fun z=>?_) (fun ob e=>?_) (fun v c e z=>?_) (fun p hp z=>?_) ⟨⟨isx fly3,cc3⟩,(isx fly3).imp fun _ z=>z.1,fun _ _ z k=>⟨z.1.keep k,z.2.keep k⟩⟩
   ·obtain ⟨m,⟨o,_,_,ho,_⟩,_⟩:=I1.loc
    exact ney ho z.symm
   ·obtain ⟨o',e1⟩:=I1.base.there y ob e (by rw [hex];exact fun z=>nomatch z)
    exact ney e1 rfl
   ·obtain ⟨_,o,ho,_⟩:=I1.cell v c e
    exact ney ho z
   ·exact ney (I1.pin p hp).1 z
  refine J7 I4 hN hi (.inl hnx) (v:=.ref y) rfl (fun s5 I5 _=>?_) (.inr hnx)
  refine wpAny_mono (hs y pins s5 _ _ _ (I5.inExc y) (q y hy2)) (fun f s6 sp6=>?_) fun _ _ z=>z.elim
  have hp:(X.env.scope.kind == .class || (X.env.scope.kind == .module && X.env.locals != X.env.globals))=false:=by rw [I.ok.kind];rfl
  cases f with
  | ret u =>
   obtain ⟨v,σ6,H6,I6,rv,qv⟩:=sp6
   obtain ⟨m,hn6,_⟩:=id I6.loc
   exact wpAny_nameGoes hkn hn6 hp fun h7 m7 hn7 hs7=>⟨v,_,H6,(Inv.outExc I.ok I6).renamed hs7 hn7,rv,qv⟩
  | next=>obtain ⟨_,_,_,z⟩:=sp6;exact z.elim
  | brk=>obtain ⟨_,_,_,z⟩:=sp6;exact z.elim
  | cont=>obtain ⟨_,_,_,z⟩:=sp6;exact z.elim
theorem Wb {C':Addr} {i:Nat} {ts:Addr->TS} (σc:St) (h:tb σc (fun cls _ H2=>∃ C,cls = .ref C/\Exc K C/\W.exmOne K (.ref C) (.ref C')=some true /\
 ∀ x,H2 x=none->ts x { nx:=fun _ _=>False,rt:=D.rt } (σc.set i (some (.ref x))) (upd H2 x (.ext (ExC x C)))) D σ H):zFc K C' i tb ts D σ H:=⟨σc,h⟩
structure QW (k:Nat) (y:Addr) (A:Around):Prop where
 hd:A.handled=some (.ref y)
 dp:A.depth+3*k+5 < recursionLimit
 un:A.units+16*k+200 < cLine
variable {y:Addr}
theorem QW.mono (r:QW k y A) (h:j<=k):QW j y A:=⟨r.hd,by have:=r.dp;omega,by have:=r.un;omega⟩
theorem QW.deeper (r:QW (k+1) y A) (env:Env):QW k y (A.deeper env):=
 ⟨r.hd,by have:=r.dp;show A.depth+1+3*k+5 < _;omega,by have:=r.un;show A.units+3+16*k+200 < _;omega⟩
theorem QW.depth (r:QW k y A):A.depth < recursionLimit:=by have:=r.dp;omega
theorem xn.marked (r:xn k A) (y:Addr):QW k y (A.mark (some (.ref y))):=⟨rfl,r.dp,r.un⟩
abbrev SpY:=Addr->List V->Hp->VK->Prop
structure zEo (P:Program) (w:World) (K:W.Frag) (mg:Str->Option Value) (base:Heap) (k:Nat) (f:Addr) (fd:FuncData) (ps:List Str) (sp:SpY):Prop where
 len : ∀ y vs H Q,sp y vs H Q->vs.length=ps.length
 run : ∀ (A:Around) (outer:List Env) (s:Shared) (H:Hp) (args:Args) (us:List Value) (vs:List V) (Q:VK) (y:Addr),QW k y A->Kz P w K mg base A outer s H->BindsTo s fd args (ps.zip us)->qR vs us->sp y vs H Q ->
  codeAny (model P w) A (.call (.ref f) args) (CR CX0 outer P w H s Q E0) s
section
variable {P : Program} {w : World} {K : W.Frag} {mg : Str -> Option Value} {base : Heap}
def cxY (P:Program) (w:World) (K:W.Frag) (mg:Str->Option Value) (base:Heap) (N:List Str) (qual:Str) (scope:Scope) (f:Addr) (cd:Value) (A:Around) (outer:List Env) (s:Shared) (H:Hp):Cx:=
 { Zy CX0 P w K mg base N qual scope f cd A outer s H E0 with calm:=false }
theorem zAo {cd:Value} {outer:List Env} {s1:Shared} {us:List Value} {vs:List V}
  (S:zO N ps scope) (e0:Kz P w K mg base A outer s H) (hl:vs.length=ps.length) (r:qR vs us)
  (x:InCallC s s.heap.objs.size (bindL (envOfC qual scope s.heap.objs.size f cd).kindOf (ps.zip us) fun _=>none) (cellsFrom (s.heap.objs.size+1) scope.names []) (bindC (envOfC qual scope s.heap.objs.size f cd).kindOf (ps.zip us) fun _=>none) s1) :
  Inv (cxY P w K mg base N qual scope f cd A outer s H) [] (start N vs) H s1:=by
 have A':({ A with handled:=none }:Around).frames=some outer:=e0.frames
 have I:=Vp (CX:=CX0) (qual:=qual) (f:=f) (cd:=cd) (A:={ A with handled:=none }) (E:=E0) S rfl (⟨A',e0.mod,e0.bs,e0.bsz,e0.funs,e0.frf,e0.hok,e0.bare⟩:Kz P w K mg base { A with handled:=none } outer s H) hl r x
 exact ⟨⟨I.ok.mod,I.ok.kind,I.ok.glob,I.ok.blt,I.ok.above,I.ok.inj,I.ok.has,I.ok.cab,(fun z=>nomatch z),Around.frames_deeper e0.frames,I.ok.stk,I.ok.exf,I.ok.bs,I.ok.bsz,I.ok.noex,I.ok.exfs,I.ok.funs,I.ok.frf⟩,I.os,I.bare,I.base,I.loc,I.cell,I.free,I.freeC,I.pin,I.hok,I.len⟩
theorem zHz {name:Str} {params:Arguments} {dV kV doc pm cdv ct oc:Value} {an od:Option Addr}
  {sp:SpY} (lk:K.lookup f=some ⟨oc,od,.func (W.fnOf name qual params body scope dV kV doc pm an cdv ct),osl⟩) (hcd:W.codeIn K cdv qual=true) (S:zO N ps scope)
  (len : ∀ y vs H Q,sp y vs H Q->vs.length=ps.length)
  (hbody : ∀ (A:Around) (outer:List Env) (s:Shared) (H:Hp) (vs:List V) (Q:VK) (y:Addr),QW k y (A.deeper (envOfC qual scope s.heap.objs.size f cdv))->sp y vs H Q ->
   ∃ t,PSs (cxY P w K mg base N qual scope f cdv A outer s H) body t/\t { nx:=fun _ H'=>Q .non H',rt:=Q } (start N vs) H) :
  zEo P w K mg base (k+1) f (W.fnOf name qual params body scope dV kV doc pm an cdv ct) ps sp:=by
 refine ⟨len,fun A outer s H args us vs Q y hr e0 hb r hsp=>?_⟩
 have hl:=len _ _ _ _ hsp
 have KX:K.In s.heap:=e0.mod.kin.keeps fun b o e=>(e0.bs b o e).1
 have lim:s.heap.NoLimit:=e0.mod.nolimit.keeps fun b o e=>(e0.bs b o e).1
 have hkind : ∀ z ∈ ps.zip us,scope.names.lookup z.1=some .local\/(scope.names.lookup z.1=some .cell/\((cellsFrom (s.heap.objs.size+1) scope.names []).lookup z.1).isSome=true):=fun ⟨n,v⟩ hy=>by
  rcases S.par n (List.of_mem_zip hy).1 with q | q
  ·exact .inl q
  ·exact .inr ⟨q,W.cellsFrom_some _ _ _ (.inl q)⟩
 refine codeAny_call_function hr.depth (KX _ _ lk) rfl S.co S.gen rfl (W.codeRec_of KX hcd) (hb _ _ _ _ ?_)
 refine wpAny_newFunctionEnv_cells S.kind hkind fun env he s1 x=>?_
 subst he
 refine ⟨lim.keeps x.toInCall.keep,codeAny_func ?_⟩
 obtain ⟨t,ht,hq⟩:=hbody A outer s H vs Q y (hr.deeper _) hsp
 have I:Inv (cxY P w K mg base N qual scope f cdv A outer s H) [] (start N vs) H s1:=zAo S e0 hl r x
 refine wpAny_mono (ht [] s1 (start N vs) H _ I hq) (fun fl s' hs=>?_) fun e s' hs=>hs
 have fin : ∀ {σ':St} {H':Hp} {v:V} {u:Value},Inv (cxY P w K mg base N qual scope f cdv A outer s H) [] σ' H' s'->xY v u->Q v H'->CE outer P w H s Q u s':=
  fun {σ' H' v u} J rv q=>⟨v,H',J.os,J.bare,J.base,J.hok,rv,q⟩
 cases fl with
 | ret u =>
  obtain ⟨v,σ',H',J,rv,q⟩:=hs
  exact fin J rv q
 | next =>
  obtain ⟨σ',H',J,q⟩:=hs
  exact fin (v:=V.non) (u:=Value.none) J rfl q
 | brk =>
  obtain ⟨_,_,_,q⟩:=hs
  exact False.elim q
 | cont =>
  obtain ⟨_,_,_,q⟩:=hs
  exact False.elim q
theorem Fun.okY {sp:SpY} (F:Fun K x qual st f fd) (S:zO N ps (zH st)) (len : ∀ y vs H Q,sp y vs H Q->vs.length=ps.length)
  (hbody : ∀ (cdv:Value) (A:Around) (outer:List Env) (s:Shared) (H:Hp) (vs:List V) (Q:VK) (y:Addr),QW k y (A.deeper (envOfC qual (zH st) s.heap.objs.size f cdv))->sp y vs H Q ->
   ∃ t,PSs (cxY P w K mg base N qual (zH st) f cdv A outer s H) (z7 st) t/\t { nx:=fun _ H'=>Q .non H',rt:=Q } (start N vs) H):zEo P w K mg base (k+1) f fd ps sp:=by
 obtain ⟨oc,od,kV,doc,pm,an,cdv,ct,osl,rfl,lk,hcd⟩:=F.ex
 exact zHz lk hcd S len fun A outer s H vs Q y hr hsp=>hbody cdv A outer s H vs Q y hr hsp
def zKY (P:Program) (w:World) (K:W.Frag) (mg:Str->Option Value) (base:Heap) (x:Str) (k:Nat) (ps:List Str) (sp:SpY):Prop:=
 ∃ (f:Addr) (fd:FuncData),zEo P w K mg base k f fd ps sp/\mg x=some (.ref f)/\W.keepIn K (.ref f)=true/\x8 K fd ps []
end
def zAO (sp:SpY) (y:Addr) (t:TA):TE:=fun σ H Q=>t σ H fun vs H1=>sp y vs H1 Q
theorem zAA {sp:SpY} {e:Expr} {es:List Expr} {t:TA} (F:zKY X.prog X.w X.K X.mg X.base x k ps sp) (hr:xn n X.A) (hg:Gl (X.inExc y) x) (ha:PA (X.inExc y) (e::es) t) (hk:k<=n:=by decide)
  (hdb:(x == ("__debug__" : Str))=false:=by decide) (he:starEach (e::es) X.env=(false,eval e X.env)::starEach es X.env:=by rfl) (hpl:(backTo pos (starEach es X.env)).any (·.1)=false:=by rfl) :
  PE (X.inExc y) (.Call (.Name x p) (e::es) [] pos) (zAO sp y t):=by
 intro pins s σ H Q I h
 obtain ⟨f,fd,G,hm,kp,hb⟩:=F
 refine wpAny_Call_Name_kw (jE I hg hm ?_ hdb)
 refine W.callWith_K (h₀:=X.base) I.ok.mod.kin kp (thn (ha pos pins s σ H _ I h) fun us s1 ⟨vs,H1,I1,r,q⟩=>⟨I1.kIn,?_⟩) he hpl
 have hl:(us++[]).length=ps.length:=by rw [List.append_nil,<- r.length];exact G.len _ _ _ _ q
 have b:=hb s1 us I1.kIn hl
 rw [List.append_nil] at b
 refine wpAny_call (codeAny_mono (G.run (X.inExc y).A (X.inExc y).stack s1 H1 ⟨us,[]⟩ us vs Q y ((hr.mono hk).marked y) I1.env0 b r q) fun r s' hq=>?_)
 cases r with
 | error e=>exact hq.elim
 | ok fl =>
  cases fl with
  | ret u=>exact I1.after hq
  | next=>exact hq.elim
  | brk=>exact hq.elim
  | cont=>exact hq.elim
theorem zCH {sp:SpY} {t:TA} (h:t σ H fun vs H1=>sp y vs H1 Q):zAO sp y t σ H Q:=h
set_option maxHeartbeats 4000000
set_option maxHeartbeats 1000000
section
variable {X : Cx} {K : W.Frag} {H : Hp} {Q : VK}
def zIm (K:W.Frag):List V->Hp->VK->Prop:=fun xs H Q=>∃ x C c b,xs=[.ref x,c]/\H x=some (.ext (ExC x C))/\Exc K C/\((∃ T,c = .ty T) \/ ∃ D,c = .ref D)/\W.kitOne K (.ref C) (zHh c)=some b/\Q (.bl b) H
theorem k7 (eK:X.K=K):yQ X (.builtin "isinstance") (zIm K):=by
 subst eK
 intro pins s σ H xs us Q I r h
 obtain ⟨x,C,c,b,rfl,hx,ex,hc,e,q⟩:=h
 obtain ⟨v,w,rfl,rx,rw'⟩:=zB4 r
 cases rx
 have:w=zHh c:=by
  rcases hc with ⟨T,rfl⟩ | ⟨D,rfl⟩
  ·exact rw'
  ·exact rw'
 subst this
 exact W.kia_one (zIz ex) I.kIn (I.hok x _ hx).1.1 e (fun z=>nomatch z) fun tk=>⟨.bl b,H,I.tok _,rfl,q⟩
theorem KL {x C:Addr} {c:V} {b:Bool} (hx:H x=some (.ext (ExC x C))) (ex:Exc K C) (hc:(∃ T,c = .ty T) \/ ∃ D,c = .ref D) (e:W.kitOne K (.ref C) (zHh c)=some b) (q:Q (.bl b) H):zIm K [.ref x,c] H Q:=⟨x,C,c,b,rfl,hx,ex,hc,e,q⟩
end
theorem WW.okX2 (F:WW K x qual st f fd) (S:zO N ps (zH st)) (len : ∀ vs H Q E,sp vs H Q E->vs.length=ps.length)
  (hbody : ∀ (cdv:Value) (A:Around) (outer:List Env) (s:Shared) (H:Hp) (vs:List V) (Q:VK) (E:XK),xn k (A.deeper (envOfC qual (zH st) s.heap.objs.size f cdv))->sp vs H Q E ->
   zCL (Zy (X2 P w) P w K mg base N qual (zH st) f cdv A outer s H E) E->x9 (X2 P w) (Zy (X2 P w) P w K mg base N qual (zH st) f cdv A outer s H E) E -> ∃ t,PSs (Zy (X2 P w) P w K mg base N qual (zH st) f cdv A outer s H E) (z7 st) t/\t { nx:=fun _ H'=>Q .non H',rt:=Q } (start N vs) H):x5 P w K mg base (X2 P w) (k+1) f fd ps sp:=by
 obtain ⟨oc,od,dV,kV,doc,pm,an,cdv,ct,osl,rfl,lk,hcd⟩:=F.ex
 exact zBG lk hcd S len fun A outer s H vs Q E hr hsp=>hbody cdv A outer s H vs Q E hr hsp (fun pins σ H s h' x C args I hm q=>Qt I hm q) zBD
theorem n0N {α:Type} {P:List α->Prop} (h:P []) : ∀ us:List α,us.length=0->P us
 | [],_=>h
theorem nSN {α:Type} {P:List α->Prop} (h : ∀ (a:α) (us:List α),us.length=n->P (a::us)) : ∀ us:List α,us.length=n+1->P us
 | a::us,e=>h a us (Nat.succ.inj e)
section
variable {α : Type} {P : List α -> Prop}
theorem l0N (h:P []) : ∀ us:List α,us.length=0->P us:=n0N h
theorem l1N (h : ∀ a,P [a]) : ∀ us:List α,us.length=1->P us:=nSN fun a=>n0N (h a)
theorem l2N (h : ∀ a b,P [a,b]) : ∀ us:List α,us.length=2->P us:=nSN fun a=>nSN fun b=>n0N (h a b)
theorem l3N (h : ∀ a b c,P [a,b,c]) : ∀ us:List α,us.length=3->P us:=nSN fun a=>nSN fun b=>nSN fun c=>n0N (h a b c)
theorem l4N (h : ∀ a b c d,P [a,b,c,d]) : ∀ us:List α,us.length=4->P us:=nSN fun a=>nSN fun b=>nSN fun c=>nSN fun d=>n0N (h a b c d)
theorem l5N (h : ∀ a b c d e,P [a,b,c,d,e]) : ∀ us:List α,us.length=5->P us:=nSN fun a=>l4N fun b c d e=>h a b c d e
theorem l6N (h : ∀ a b c d e f,P [a,b,c,d,e,f]) : ∀ us:List α,us.length=6->P us:=nSN fun a=>l5N fun b c d e f=>h a b c d e f
theorem l8N (h : ∀ a b c d e f g i,P [a,b,c,d,e,f,g,i]) : ∀ us:List α,us.length=8->P us:=nSN fun a=>nSN fun b=>l6N fun c d e f g i=>h a b c d e f g i
theorem zLE (h : ∀ a b c d e f g i j k,P [a,b,c,d,e,f,g,i,j,k]) : ∀ us:List α,us.length=10->P us:=nSN fun a=>nSN fun b=>l8N fun c d e f g i j k=>h a b c d e f g i j k
theorem zLb (h : ∀ a b c d e f g i j k l m n,P [a,b,c,d,e,f,g,i,j,k,l,m,n]) : ∀ us:List α,us.length=13->P us:=nSN fun a=>nSN fun b=>nSN fun c=>zLE fun d e f g i j k l m n=>h a b c d e f g i j k l m n
end
def Kn (K:W.Frag) (mg:Str->Option Value):Prop:=∃ h:Heap,K.In h/\h.Ns mainGlobals mg
def Dfx (K:W.Frag) (x:Str) (st:Stmt):Prop:=∃ f,Df K x st f
def zDf (K:W.Frag) (m:Str) (f:Addr):List Addr->Prop
 | []=>True
 | C::r=>W.findIn K (.ref C) m=some (some (.ref f))/\zDf K m f r
theorem zDf.at {K:W.Frag} {m:Str} {f C:Addr} : ∀ {l:List Addr},zDf K m f l->C ∈ l->W.findIn K (.ref C) m=some (some (.ref f))
 | _::_,h,.head _=>h.1
 | _::_,h,.tail _ k=>zDf.at h.2 k
theorem in0 {α:Type} {a:α} {l:List α}:a ∈ a::l:=.head _
theorem in1 {α:Type} {a b:α} {l:List α}:b ∈ a::b::l:=.tail _ (.head _)
theorem in2 {α:Type} {a b c:α} {l:List α}:c ∈ a::b::c::l:=.tail _ (.tail _ (.head _))
def Dmx (K:W.Frag) (q m:Str) (st:Stmt) (C:Addr) (Cs:List Addr):Prop:=∃ f,Dm K q m st .none C f/\zDf K m f Cs
def Ddx (K:W.Frag) (q m:Str) (st:Stmt) (C:Addr) (Cs:List Addr) (n:Nat):Prop:=∃ (f t:Addr) (oc:Value) (od:Option Addr) (vs:List Value) (nn:Nat) (sl:Array (Option Value)),vs.length=n/\Dm K q m st (.ref t) C f/\K.lookup t=some ⟨oc,od,.seq vs.toArray nn,sl⟩/\zDf K m f Cs
def Dcx (K:W.Frag) (q m:Str) (st:Stmt) (C:Addr):Prop:=∃ f,Dm K q m st .none C f/\W.specialIn K (.ref C) "__getattribute__" = some (some (.builtin "type.__getattribute__"))/\W.readsIn K C (.type "type")=true/\W.findCls K (.ref C) (.type "type") m=some (.val (.ref f))
def MkI (K:W.Frag) (C:Addr):Prop:=W.makesIn K C=true/\W.keepIn K (.ref C)=true
section
variable {K : W.Frag} {x q m : Str} {st : Stmt} {f C t : Addr} {oc dV : Value} {od : Option Addr} {kV dc pm : Value} {an : Option Addr} {cd ct : Value} {sl : Array (Option Value)} {Cs : List Addr}
theorem dfx_mk (a:W.nsIn K mainGlobals x=some (some (.ref f))) (l:K.lookup f=some ⟨oc,od,.func (W.fnOf x x (qL st) (z7 st) (zH st) .none kV dc pm an cd ct),sl⟩) (c:W.codeIn K cd x=true) (k:W.keepIn K (.ref f)=true):Dfx K x st:=⟨f,zKP a l c k⟩
theorem dmx_mk (a:W.findIn K (.ref C) m=some (some (.ref f))) (l:K.lookup f=some ⟨oc,od,.func (W.fnOf m q (qL st) (z7 st) (zH st) .none kV dc pm an cd ct),sl⟩) (c:W.codeIn K cd q=true) (k:W.keepIn K (.ref f)=true) (n:W.isFn K (.ref f)=true) (i:zDf K m f Cs):Dmx K q m st C Cs:=⟨f,zF8 a l c k n,i⟩
theorem ddx_mk {oc':Value} {od':Option Addr} {nn n':Nat} {sl':Array (Option Value)} (a:W.findIn K (.ref C) m=some (some (.ref f))) (l:K.lookup f=some ⟨oc,od,.func (W.fnOf m q (qL st) (z7 st) (zH st) (.ref t) kV dc pm an cd ct),sl⟩) (c:W.codeIn K cd q=true) (k:W.keepIn K (.ref f)=true) (n:W.isFn K (.ref f)=true)
  (d:K.lookup t=some ⟨oc',od',.seq it nn,sl'⟩) (s:it.size=n') (i:zDf K m f Cs):Ddx K q m st C Cs n':=⟨f,t,oc',od',it.toList,nn,sl',by simpa using s,zF8 a l c k n,by simpa using d,i⟩
theorem dcx_mk (a:W.findIn K (.ref C) m=some (some (.ref f))) (l:K.lookup f=some ⟨oc,od,.func (W.fnOf m q (qL st) (z7 st) (zH st) .none kV dc pm an cd ct),sl⟩) (c:W.codeIn K cd q=true) (k:W.keepIn K (.ref f)=true) (n:W.isFn K (.ref f)=true) (c1:W.specialIn K (.ref C) "__getattribute__" = some (some (.builtin "type.__getattribute__"))) (c2:W.readsIn K C (.type "type")=true) (c3:W.findCls K (.ref C) (.type "type") m=some (.val (.ref f))):Dcx K q m st C:=⟨f,zF8 a l c k n,c1,c2,c3⟩
variable {mg : Str -> Option Value} {P : Program} {w : World} {base : Heap} {k : Nat} {ps : List Str} {sp : Sp} {CX : CXT}
theorem jm (z:Kn K mg) (d:Dfx K x st) (hb : ∀ us:List Value,us.length=ps.length -> ∀ (kV doc pm:Value) (an:Option Addr) (cdv ct:Value),bindArgs (W.fnOf x x (qL st) (z7 st) (zH st) .none kV doc pm an cdv ct) ⟨us,[]⟩=pure (ps.zip us))
  (ok : ∀ fq fd,Fun K x x st fq fd->x5 P w K mg base CX k fq fd ps sp) : ∃ (f:Addr) (fd:FuncData),x5 P w K mg base CX k f fd ps sp/\mg x=some (.ref f)/\W.keepIn K (.ref f)=true/\x8 K fd ps []:=by
 obtain ⟨h,X,G⟩:=z
 obtain ⟨f,_,_,_,_,_,_,_,_,_,a,l,c,k'⟩:=d
 have F:=zC4 l c k'
 exact ⟨f,_,ok _ _ F,W.mg_of X G a,k',F.binds fun _ _ _ _ _ _ us hl=>hb us hl _ _ _ _ _ _⟩
theorem zKH {sp:SpY} (z:Kn K mg) (d:Dfx K x st) (hb : ∀ us:List Value,us.length=ps.length -> ∀ (kV doc pm:Value) (an:Option Addr) (cdv ct:Value),bindArgs (W.fnOf x x (qL st) (z7 st) (zH st) .none kV doc pm an cdv ct) ⟨us,[]⟩=pure (ps.zip us))
  (ok : ∀ fq fd,Fun K x x st fq fd->zEo P w K mg base k fq fd ps sp):zKY P w K mg base x k ps sp:=by
 obtain ⟨h,X,G⟩:=z
 obtain ⟨f,_,_,_,_,_,_,_,_,_,a,l,c,k'⟩:=d
 have F:=zC4 l c k'
 exact ⟨f,_,ok _ _ F,W.mg_of X G a,k',F.binds fun _ _ _ _ _ _ us hl=>hb us hl _ _ _ _ _ _⟩
theorem zHN (h:zHj P w K mg base x k ps sp):Has P w K mg base x k ps (spc sp):=let ⟨f,fd,o,r⟩:=h;⟨f,fd,o.calm,r⟩
theorem Wq (h:zAj P w K mg base x k ps sp):Has P w K mg base x k ps (spc sp):=let ⟨f,fd,o,r⟩:=h;⟨f,fd,o.of2.calm,r⟩
def Gx (P:Program) (w:World) (K:W.Frag) (mg:Str->Option Value) (base:Heap) (CX:CXT) (m:Str) (Cs:List Addr) (k:Nat) (ps:List Str) (sp:Sp):Prop:=∃ f,Gd P w K mg base CX f k ps sp/\zDf K m f Cs
theorem KI (d:Dmx K q m st C Cs) (hb : ∀ us:List Value,us.length=ps.length -> ∀ (kV dc pm:Value) (an:Option Addr) (cd ct:Value),bindArgs (W.fnOf m q (qL st) (z7 st) (zH st) .none kV dc pm an cd ct) ⟨us,[]⟩=pure (ps.zip us))
  (ok : ∀ fq fd,WW K m q st fq fd->x5 P w K mg base CX k fq fd ps sp):Gx P w K mg base CX m Cs k ps sp:=by
 obtain ⟨f,d,i⟩:=d
 exact ⟨f,zH2 d (ok f) fun _ _ _ _ _ _ us hl=>hb us hl _ _ _ _ _ _,i⟩
theorem zFl (d:Ddx K q m st C Cs n) (hb : ∀ vs:List Value,vs.length=n -> ∀ us:List Value,us.length=ps.length -> ∀ (t:Addr) (kV dc pm:Value) (an:Option Addr) (cd ct:Value),∃ k,bindArgs (W.fnOf m q (qL st) (z7 st) (zH st) (.ref t) kV dc pm an cd ct) ⟨us,[]⟩=seqItems? (.ref t) >>= k/\k (some vs.toArray)=pure (ps.zip us))
  (ok : ∀ fq fd,WW K m q st fq fd->x5 P w K mg base CX k fq fd ps sp):Gx P w K mg base CX m Cs k ps sp:=by
 obtain ⟨f,t,oc,od,vs,nn,sl,hn,d,hl,i⟩:=d
 exact ⟨f,zI9 d hl (ok f) fun _ _ _ _ _ _ us hu=>hb vs hn us hu _ _ _ _ _ _ _,i⟩
theorem zLW (d:Dcx K q m st C) (hb : ∀ us:List Value,us.length=ps.length -> ∀ (kV dc pm:Value) (an:Option Addr) (cd ct:Value),bindArgs (W.fnOf m q (qL st) (z7 st) (zH st) .none kV dc pm an cd ct) ⟨us,[]⟩=pure (ps.zip us))
  (ok : ∀ fq fd,WW K m q st fq fd->x5 P w K mg base CX k fq fd ps sp):zJt P w K mg base CX C m k ps sp:=by
 obtain ⟨f,d,c1,c2,c3⟩:=d
 exact zLN (zH2 d (ok f) fun _ _ _ _ _ _ us hl=>hb us hl _ _ _ _ _ _) c1 c2 c3
theorem ym (g:Gx P w K mg base CX m Cs k ps sp) (h:C ∈ Cs):zJx P w K mg base CX C m k ps sp:=let ⟨_,g,i⟩:=g;zLd g (i.at h)
theorem zKk (g:Gx P w K mg base CX "__init__" [C] k ps sp) (h:MkI K C):zKe P w K mg base CX C k ps sp:=let ⟨_,g,i⟩:=g;zLS g h.1 i.1 h.2
end
set_option maxHeartbeats 400000
def tHd (K:W.Frag) (C1 C2:Addr) (ts:TS):Addr->TS:=fun C D σ H=>W.exmAny K (.ref C) [.ref C1,.ref C2]=some true/\ts D σ H
section
variable {X : Cx} {c1 c2 : Str} {C1 C2' : Addr} {ts : TS} {th : Addr -> TS} {p1 p2 tpos hpos : Pos} {kk : Nat} {b₀ : Stmt} {suite : List Stmt} {Xt : List ExceptHandler}
theorem zET (g1:Gl X c1) (m1:X.mg c1=some (.ref C1)) (g2:Gl X c2) (m2:X.mg c2=some (.ref C2')) (hs : ∀ y,PSs (X.inExc y) (b₀::suite) ts)
  (d1:(c1 == ("__debug__" : Str))=false:=by decide) (d2:(c2 == ("__debug__" : Str))=false:=by decide) :
  PHs X (.ExceptHandler (some (.Tuple [.Name c1 p1,.Name c2 p2] kk tpos)) none (b₀::suite) hpos::Xt) (tHd X.K C1 C2' ts):=by
 intro pins s σ H D y C B a0 fly I clo h
 obtain ⟨exm,q⟩:=h
 refine wpAny_handleBy_cons (codeAny_handlers_test ?_) (by intro q;cases q)
 refine wpAny_Tuple (wpAny_items_cons (jE (I.inExc y) g1 m1 (wpAny_items_cons (jE (I.inExc y) g2 m2 (wpAny_items_nil ⟨by size_fits,?_⟩) d2)) d1))
 have kp : ∀ b o,s.heap.get? b=some o->(s.heap.push { cls:=.type "tuple", data:=.seq [Value.ref C1,Value.ref C2'].toArray }).get? b=some o:=fun _ _ z=>Heap.get?_push_of_some _ z
 have ty2:W.Looks (model X.prog X.w) s.heap (typeOf (.ref y)) (.ref C):=(isx fly).ty
 refine (W.exm_tup2 (M:=model X.prog X.w) (I.kIn.keeps kp) (ty2.keeps kp) (Heap.get?_push_size s.heap rfl) exm).here ?_
 have up:s.heap.UpToSlots (s.heap.push { cls:=.type "tuple", data:=.seq [Value.ref C1,Value.ref C2'].toArray }):=Heap.UpToSlots.of_keeps kp
 have fly3:Heap.FlyingW B (X.env::X.outer) y (.ref C) a0 (s.heap.push { cls:=.type "tuple", data:=.seq [Value.ref C1,Value.ref C2'].toArray }):=by
  obtain ⟨f1,f2,f3,oe,vs,t,ot,ts,q1,q2,q3,q4,q5,q6,q7,q8,q9⟩:=fly
  exact ⟨fun b o z=>kp b o (f1 b o z),f2,f3.of_keeps fun b o z _=>⟨o,kp b o z,rfl⟩,oe,vs,t,ot,ts,kp _ _ q1,q2,q3,q4,q5,q6,kp _ _ q7,q8,q9⟩
 refine codeAny_handlers_suite (lands_againW fly3 fun h3 fly3' sm3=>?_)
 have I3:=clo h3 fly3'.1 (up.trans sm3)
 exact wpAny_mono (hs y pins _ σ H D (I3.inExc y) q) (fun f s6 sp6=>sp6.outExc I.ok) fun _ _ z=>z.elim
theorem zLF {C C2:Addr} (e:W.exmAny K (.ref C) [.ref C1,.ref C2]=some true) (h:ts D σ H):tHd K C1 C2 ts C D σ H:=⟨e,h⟩
end
def kA {α:Type} (a b:Nat) (pl:List (Nat ⊕ α)) (us ws:List α):List α:=bif us.length == a && ws.length == b then pl.filterMap (fun | .inl i=>(us++ws)[i]? | .inr d=>some d) else []
set_option maxHeartbeats 4000000
section
variable {X : Cx}
theorem Qr : ∀ {us:List Value} {ss:List Str},StrsAre us ss->qR (ss.map V.str) us
 | _,_,.nil=>.nil
 | _,_,.cons n t h=>.cons ⟨t,rfl⟩ (Qr h)
theorem YO : ∀ {us:List Value} {ss:List Str},qR (ss.map V.str) us->StrsAre us ss
 | _,[],.nil=>.nil
 | _,s::ss,.cons ⟨t,e⟩ h=>by subst e;exact .cons s t (YO h)
def Wt (K:W.Frag):List V->Hp->VK->Prop:=fun xs H Q=>∃ (p:Addr) (ss:List Str),xs=[.ref p]/\SqL K H p (ss.map V.str)/\ss.length < 64 /\
 ∀ (ms:List Str) (q:Addr) (H':Hp),ms.Perm ss->sortedS ms=true->zT H H'->H' q=some (.lst (ms.map V.str))->Q (.ref q) H'
theorem Vo:yQ X (.builtin "sorted") (Wt X.K):=by
 intro pins s σ H xs us Q I r h
 obtain ⟨p,ss,rfl,hq,h64,q⟩:=h
 obtain ⟨u,rfl,rx⟩:=Wf r
 cases rx
 obtain ⟨its,r',pl,hz⟩:=I.list hq
 have hl:=r'.length
 rw [length_map] at hl hz
 refine sorted_strs pl.isList (YO r') (by omega) fun out ms hi hp hs=>?_
 obtain ⟨e,he⟩:=sortedAll_at s.heap its out
 have hms:ms.length=ss.length:=hp.length_eq
 have hf:H (s.heap.objs.size+1)=none:=I.hok.fresh (Nat.le_succ _)
 refine ⟨.ref (s.heap.objs.size+1),upd H (s.heap.objs.size+1) (.lst (ms.map V.str)),I.laid (t':=s.toks) (fun _ _=>sortedAll_old) (Nat.le_succ _) ⟨by rw [length_map,hms];exact hz,out.toList,e,Qr hi,?_⟩,rfl,q _ _ _ hp hs (jP hf _) zR⟩
 rw [he,Array.toArray_toList]
theorem zJK {ms:List Str} {cs:List (List Nat)} (h:ms.Perm (cs.map T)) : ∃ ds:List (List Nat),ds.Perm cs/\ms=ds.map T:=by
 refine ⟨ms.map Lt,?_,?_⟩
 ·have:=h.map Lt
  rwa [map_map,show (Lt ∘ T)=id from funext fun l=>VP l,List.map_id] at this
 ·rw [map_map]
  have hm : ∀ s ∈ ms,(T ∘ Lt) s=s:=fun s hs=>by
   obtain ⟨c,_,rfl⟩:=List.mem_map.mp (h.mem_iff.mp hs)
   show T (Lt (T c))=T c
   rw [VP]
  conv=>lhs;rw [<- List.map_id ms]
  exact (List.map_congr_left hm).symm
theorem zCE {p:Addr} {cs:List (List Nat)} (h:H p=some (.lst (tsV cs))) (h64:cs.length < 64) (q : ∀ (ds:List (List Nat)) (q:Addr) (H':Hp),ds.Perm cs->zT H H'->H' q=some (.lst (tsV ds))->Q (.ref q) H'):Wt K [.ref p] H Q:=by
 have e:tsV cs=(cs.map T).map V.str:=by unfold tsV;rw [map_map];rfl
 refine ⟨p,cs.map T,rfl,SqL.of (e ▸ h),by rw [length_map];exact h64,fun ms q' H' hp _ g e'=>?_⟩
 obtain ⟨ds,hd,rfl⟩:=zJK hp
 exact q ds q' H' hd g (by rw [e'];unfold tsV;rw [map_map];rfl)
end
end L2
namespace Pw
open PySem L2
open List (append_assoc append_cancel_left append_nil drop_left filterMap_cons filter_append filter_cons filter_cons_of_neg filter_cons_of_pos filter_nil flatten_cons getD_eq_getElem?_getD getElem?_eq_getElem getElem?_map getElem_mem length_append length_cons length_drop length_filter_le length_map length_nil length_range length_replicate length_singleton length_take map_append map_cons map_map map_nil mem_cons mem_cons_of_mem mem_cons_self mem_filter mem_map mem_of_getElem? nil_append not_mem_nil range_succ take_append_drop take_left take_length take_nil take_of_length_le take_succ take_take)
open Nat (eq_zero_or_pos le_total min_eq_left min_le_right pow_le_pow_right sub_le)
open Int (emod_lt_of_pos emod_nonneg mul_le_mul natAbs_natCast pow_succ toNat_natCast)
set_option maxHeartbeats 4000000
variable {z:Int}
theorem tns {e:Int} (h:0<=z):(e - z).toNat=e.toNat - z.toNat:=by omega
seal PySem.Sem.wp
local macro_rules | `(tactic| walk_at "ln")=>`(tactic| first | (rintro ⟨h,_⟩;rw [h];rfl) | (rintro ⟨_,h⟩;revert h;walk_at "ln"))
local macro_rules | `(tactic| walk_at "sc")=>`(tactic| exact ⟨rfl,rfl,rfl,by decide +kernel,rfl,by decide +kernel,by decide +kernel⟩)
def top (i:Nat):Stmt:=PySem.Challenge.pw_padwright_k62_each_value_its_look.main.body.getD i (.Pass ⟨0,0,0,0⟩)
abbrev Q7:Stmt:=top 15
theorem jx:zO ["number", "base", "text", "left"] ["number", "base"] (zH Q7):=by walk_at "sc"
abbrev Xp:Stmt:=top 16
theorem xM:zO ["text", "base", "number", "sign", "worth"] ["text", "base"] (zH Xp):=by walk_at "sc"
abbrev Vf:Stmt:=top 19
theorem zAn:zO ["style", "below"] ["style", "below"] (zH Vf):=by walk_at "sc"
abbrev W3:Stmt:=top 20
theorem KC:zO ["body", "style", "below", "ends"] ["body", "style", "below"] (zH W3):=by walk_at "sc"
abbrev Yh:Stmt:=top 21
theorem yu:zO ["core", "style", "below", "ends", "body"] ["core", "style"] (zH Yh):=by walk_at "sc"
abbrev jg:Stmt:=top 22
theorem yP:zO ["body"] ["body"] (zH jg):=by walk_at "sc"
abbrev KW:Stmt:=top 25
theorem zAi:zO ["text", "size", "mark"] ["text", "size", "mark"] (zH KW):=by walk_at "sc"
abbrev Jh:Stmt:=top 26
theorem Q6:zO ["text", "size", "mark", "plain"] ["text", "size", "mark"] (zH Jh):=by walk_at "sc"
abbrev X6:Stmt:=top 27
theorem qw:zO ["text", "size", "between", "parts", "end"] ["text", "size", "between"] (zH X6):=by walk_at "sc"
abbrev V2:Stmt:=top 29
theorem ZO:zO ["number", "base", "places", "point", "size", "mark", "text", "cut", "whole"] ["number", "base", "places", "point", "size", "mark"] (zH V2):=by walk_at "sc"
abbrev Xc:Stmt:=top 30
theorem yM:zO ["body", "base", "places", "point", "size", "mark", "cut", "whole", "number"] ["body", "base", "places", "point", "size", "mark"] (zH Xc):=by walk_at "sc"
abbrev Xm:Stmt:=top 31
theorem Q0:zO ["body", "places", "point", "cut"] ["body", "places", "point"] (zH Xm):=by walk_at "sc"
abbrev V8:Stmt:=top 33
theorem YL:zO ["length", "width", "side", "lacks"] ["length", "width", "side"] (zH V8):=by walk_at "sc"
abbrev W4:Stmt:=top 34
theorem Kf:zO ["text", "width", "fill", "side", "pads"] ["text", "width", "fill", "side"] (zH W4):=by walk_at "sc"
abbrev k8:Stmt:=top 35
theorem JM:zO ["lead", "rest", "width", "fill"] ["lead", "rest", "width", "fill"] (zH k8):=by walk_at "sc"
abbrev X9:Stmt:=top 37
theorem xr:zO ["text", "width", "fill", "side", "plains", "length", "ahead", "plain"] ["text", "width", "fill", "side"] (zH X9):=by walk_at "sc"
abbrev yj:Stmt:=top 38
theorem Z9:zO ["text", "lead", "width", "fill"] ["text", "lead", "width", "fill"] (zH yj):=by walk_at "sc"
abbrev kT:Stmt:=qk (top 40) 0
theorem JS:zO ["self", "width", "fill", "side", "strict"] ["self", "width", "fill", "side", "strict"] (zH kT):=by walk_at "sc"
abbrev YQ:Stmt:=qk (top 40) 1
theorem Xo:zO ["self", "value", "core"] ["self", "value"] (zH YQ):=by walk_at "sc"
abbrev yJ:Stmt:=qk (top 40) 3
theorem xu:zO ["self", "core"] ["self", "core"] (zH yJ):=by walk_at "sc"
abbrev QD:Stmt:=qk (top 40) 5
theorem Zi:zO ["self", "core", "lead"] ["self", "core"] (zH QD):=by walk_at "sc"
abbrev kv:Stmt:=qk (top 40) 6
theorem JN:zO ["self", "text"] ["self", "text"] (zH kv):=by walk_at "sc"
abbrev YM:Stmt:=top 42
theorem WG:zO ["thing"] ["thing"] (zH YM):=by walk_at "sc"
abbrev YH:Stmt:=top 43
theorem yy:zO ["base", "times", "power", "turn"] ["base", "times"] (zH YH):=by walk_at "sc"
abbrev y8:Stmt:=top 44
theorem qP:zO ["one", "other", "greater", "lesser", "rest"] ["one", "other"] (zH y8):=by walk_at "sc"
abbrev Yb:Stmt:=top 46
theorem Z1:zO ["top", "bottom", "divisor"] ["top", "bottom"] (zH Yb):=by walk_at "sc"
abbrev QG:Stmt:=top 47
theorem Xy:zO ["thing"] ["thing"] (zH QG):=by walk_at "sc"
abbrev V3:Stmt:=top 49
theorem ye:zO ["value", "base", "places", "way", "top", "bottom", "below", "rest"] ["value", "base", "places", "way"] (zH V3):=by walk_at "sc"
abbrev Kx:Stmt:=top 50
theorem zAr:zO ["below", "rest", "bottom", "way"] ["below", "rest", "bottom", "way"] (zH Kx):=by walk_at "sc"
abbrev Qq:Stmt:=top 51
theorem Yw:zO ["k", "base", "places"] ["k", "base", "places"] (zH Qq):=by walk_at "sc"
abbrev xK:Stmt:=qk (top 53) 0
theorem kI:zO ["self", "figures", "places", "base", "sign", "size", "mark", "point", "way", "width", "fill", "side", "strict"] ["self", "figures", "places", "base", "sign", "size", "mark", "point", "way", "width", "fill", "side", "strict"] (zH xK):=by walk_at "sc"
abbrev yl:Stmt:=qk (top 53) 1
theorem jt:zO ["self", "value", "k", "body"] ["self", "value"] (zH yl):=by walk_at "sc"
abbrev ju:Stmt:=qk (top 53) 2
theorem jk:zO ["self", "text", "ks"] ["self", "text"] (zH ju):=by walk_at "sc"
abbrev xZ:Stmt:=qk (top 53) 5
theorem ZB:zO ["self", "core"] ["self", "core"] (zH xZ):=by walk_at "sc"
abbrev jI:Stmt:=qk (top 53) 6
theorem x6:zO ["self", "number"] ["self", "number"] (zH jI):=by walk_at "sc"
abbrev jv:Stmt:=qk (top 53) 7
theorem jZ:zO ["self", "text", "below", "ks"] ["self", "text", "below"] (zH jv):=by walk_at "sc"
abbrev xH:Stmt:=qk (top 53) 8
theorem qr:zO ["self", "text", "below", "lead", "cores"] ["self", "text", "below"] (zH xH):=by walk_at "sc"
abbrev jW:Stmt:=qk (top 53) 9
theorem qa:zO ["self", "core", "below", "parts", "number"] ["self", "core", "below"] (zH jW):=by walk_at "sc"
abbrev xq:Stmt:=qk (top 55) 0
theorem ZZ:zO ["self", "signs", "least", "most", "width", "fill", "side", "strict"] ["self", "signs", "least", "most", "width", "fill", "side", "strict"] (zH xq):=by walk_at "sc"
abbrev kj:Stmt:=qk (top 55) 1
theorem JR:zO ["self", "value"] ["self", "value"] (zH kj):=by walk_at "sc"
abbrev xJ:Stmt:=qk (top 55) 2
theorem kL:zO ["self", "text"] ["self", "text"] (zH xJ):=by walk_at "sc"
abbrev yK:Stmt:=qk (top 55) 5
theorem Zm:zO ["self", "thing"] ["self", "thing"] (zH yK):=by walk_at "sc"
abbrev xC:Stmt:=qk (top 56) 0
theorem kO:zO ["self", "names", "width", "fill", "side", "strict"] ["self", "names", "width", "fill", "side", "strict"] (zH xC):=by walk_at "sc"
abbrev yb:Stmt:=qk (top 56) 1
theorem QE:zO ["self", "value"] ["self", "value"] (zH yb):=by walk_at "sc"
abbrev jw:Stmt:=qk (top 56) 2
theorem jj:zO ["self", "text", "cores"] ["self", "text"] (zH jw):=by walk_at "sc"
abbrev YJ:Stmt:=top 58
theorem WM:zO ["form"] ["form"] (zH YJ):=by walk_at "sc"
abbrev QM:Stmt:=top 59
theorem yV:zO ["form", "lead", "rest", "length", "pads"] ["form", "lead", "rest"] (zH QM):=by walk_at "sc"
abbrev JD:Stmt:=top 60
theorem xk:zO ["form", "cores"] ["form"] (zH JD):=by walk_at "sc"
abbrev Zf:Stmt:=top 61
theorem kq:zO ["form", "cores"] ["form"] (zH Zf):=by walk_at "sc"
abbrev yB:Stmt:=top 62
theorem qQ:zO ["form", "every", "rows", "length", "first"] ["form"] (zH yB):=by walk_at "sc"
abbrev xp:Stmt:=top 63
theorem qJ:zO ["form", "every", "rows", "length", "noughts"] ["form"] (zH xp):=by walk_at "sc"
abbrev Zc:Stmt:=top 64
theorem ZG:zO ["form", "row", "below", "ends"] ["form", "row", "below"] (zH Zc):=by walk_at "sc"
abbrev JA:Stmt:=top 65
theorem yx:zO ["form", "row", "cut", "cells"] ["form", "row"] (zH JA):=by walk_at "sc"
abbrev ZH:Stmt:=top 66
theorem xS:zO ["row", "size", "mark", "cells", "part"] ["row", "size", "mark"] (zH ZH):=by walk_at "sc"
abbrev zE5:Stmt:=top 68
theorem zHX:zO ["look", "text"] ["look", "text"] (zH zE5):=by walk_at "sc"
abbrev X8:Stmt:=top 69
theorem Jl:zO ["form", "value", "core"] ["form", "value"] (zH X8):=by walk_at "sc"
abbrev Yf:Stmt:=top 70
theorem WN:zO ["form", "at", "text"] ["form", "at", "text"] (zH Yf):=by walk_at "sc"
abbrev Z3:Stmt:=top 72
theorem X0:zO ["_law_script", "_law_k"] ["_law_script", "_law_k"] (zH Z3):=by walk_at "sc"
abbrev XT:Stmt:=top 73
theorem Vt:zO ["_law_thing"] ["_law_thing"] (zH XT):=by walk_at "sc"
abbrev Ya:Stmt:=top 74
theorem yt:zO ["_law_cell", "_law_salt", "_law_many", "_law_one", "_law_two"] ["_law_cell", "_law_salt", "_law_many"] (zH Ya):=by walk_at "sc"
abbrev XV:Stmt:=top 75
theorem V6:zO [] [] (zH XV):=by walk_at "sc"
abbrev Ye:Stmt:=top 76
theorem XO:zO ["_law_cell", "_law_salt", "_law_some"] ["_law_cell", "_law_salt"] (zH Ye):=by walk_at "sc"
abbrev yX:Stmt:=top 77
theorem zb:zO ["_law_cell", "_law_other", "_law_small", "_law_figures", "_law_places", "_law_base", "_law_sign_here", "_law_size", "_law_way", "_law_signs_here", "_law_widths", "_law_width", "_law_side", "_law_strict"] ["_law_cell", "_law_other", "_law_small"] (zH yX):=by walk_at "sc"
abbrev yk:Stmt:=top 78
theorem zZ:zO ["_law_spec_here", "_law_figures", "_law_places", "_law_base", "_law_sign_here", "_law_size", "_law_mark", "_law_point", "_law_way", "_law_width", "_law_fill", "_law_side", "_law_strict"] ["_law_spec_here"] (zH yk):=by walk_at "sc"
abbrev ZC:Stmt:=top 79
theorem zy:zO ["_law_cell", "_law_other", "_law_small", "_law_start", "_law_step", "_law_signs_here", "_law_least", "_law_most", "_law_fill", "_law_width", "_law_side"] ["_law_cell", "_law_other", "_law_small"] (zH ZC):=by walk_at "sc"
abbrev Jx:Stmt:=top 80
theorem qE:zO ["_law_cell", "_law_many", "_law_signs_here", "_law_base", "_law_way", "_law_at", "_law_size", "_law_step", "_law_found", "_law_k", "_law_sign_here", "_law_turn"] ["_law_cell", "_law_many"] (zH Jx):=by walk_at "sc"
abbrev yf:Stmt:=top 81
theorem qV:zO ["_law_cell", "_law_other", "_law_small", "_law_names_here", "_law_fill", "_law_width", "_law_side"] ["_law_cell", "_law_other", "_law_small"] (zH yf):=by walk_at "sc"
abbrev YB:Stmt:=top 82
theorem qC:zO ["_law_spec_here", "_law_signs_here", "_law_least", "_law_most", "_law_width", "_law_fill", "_law_side", "_law_strict", "_law_names_here"] ["_law_spec_here"] (zH YB):=by walk_at "sc"
abbrev YX:Stmt:=top 83
theorem Jk:zO ["_law_cell", "_law_other", "_law_small", "_law_way"] ["_law_cell", "_law_other", "_law_small"] (zH YX):=by walk_at "sc"
abbrev Jt:Stmt:=top 84
theorem yG:zO ["_law_base", "_law_times", "_law_found", "_law_k"] ["_law_base", "_law_times"] (zH Jt):=by walk_at "sc"
abbrev QL:Stmt:=top 85
theorem Zh:zO ["_law_one", "_law_other"] ["_law_one", "_law_other"] (zH QL):=by walk_at "sc"
abbrev JC:Stmt:=top 86
theorem QO:zO ["_law_top", "_law_bottom", "_law_many"] ["_law_top", "_law_bottom"] (zH JC):=by walk_at "sc"
abbrev Jz:Stmt:=top 87
theorem Qx:zO ["_law_cell", "_law_at", "_law_limit", "_law_one"] ["_law_cell", "_law_at", "_law_limit"] (zH Jz):=by walk_at "sc"
abbrev yL:Stmt:=top 88
theorem z6:zO ["_law_spec_here", "_law_cell", "_law_step", "_law_wide", "_law_steps", "_law_part"] ["_law_spec_here", "_law_cell"] (zH yL):=by walk_at "sc"
abbrev Jo:Stmt:=top 89
theorem Q9:zO ["_law_spec_here", "_law_cell", "_law_many"] ["_law_spec_here", "_law_cell"] (zH Jo):=by walk_at "sc"
abbrev Xh:Stmt:=top 90
theorem Qz:zO ["_law_e", "_law_found"] ["_law_e"] (zH Xh):=by walk_at "sc"
abbrev V5:Stmt:=top 91
theorem YS:zO ["_law_form_here", "_law_value_here", "_law_e"] ["_law_form_here", "_law_value_here"] (zH V5):=by walk_at "sc"
abbrev YG:Stmt:=top 92
theorem XE:zO ["_law_form_here", "_law_value_here", "_law_e"] ["_law_form_here", "_law_value_here"] (zH YG):=by walk_at "sc"
abbrev YR:Stmt:=top 93
theorem XH:zO ["_law_form_here", "_law_at", "_law_text", "_law_e"] ["_law_form_here", "_law_at", "_law_text"] (zH YR):=by walk_at "sc"
abbrev Xl:Stmt:=top 94
theorem qW:zO ["_law_form_here", "_law_spec_here", "_law_value_here", "_law_text", "_law_word", "_law_at", "_law_looks", "_law_due", "_law_k", "_law_found"] ["_law_form_here", "_law_spec_here", "_law_value_here"] (zH Xl):=by walk_at "sc"
abbrev VV:Stmt:=top 95
theorem ZQ:zO ["_law_spec_here", "_law_cell", "_law_value_here", "_law_some", "_law_way", "_law_at"] ["_law_spec_here", "_law_cell", "_law_value_here"] (zH VV):=by walk_at "sc"
abbrev WX:Stmt:=top 96
theorem QI:zO ["_law_script", "_law_k", "_law_cell", "_law_other", "_law_spec_here", "_law_form_here", "_law_turn", "_law_value_here", "_law_odd_here"] ["_law_script"] (zH WX):=by walk_at "sc"
structure Zs (w:World) (K:W.Frag) (mg:Str->Option Value) (zn zw z9 qS qg zY zW za qA kW zE zI zJ xi:Addr) (kQ xD jN:Tok):Prop where
 kn:Kn K mg
 ab:mg "PadError" = some (.ref zn)
 ac:mg "NoFigures" = some (.ref zw)
 ad:mg "NoGroups" = some (.ref z9)
 ae:mg "NoBody" = some (.ref qS)
 af:mg "NoCore" = some (.ref qg)
 ag:mg "NoValue" = some (.ref zY)
 ah:mg "TooGreat" = some (.ref zW)
 ai:mg "TooWide" = some (.ref za)
 aj:mg "NoText" = some (.ref qA)
 ak:mg "Form" = some (.ref kW)
 al:mg "NumberForm" = some (.ref zE)
 am:mg "WordForm" = some (.ref zI)
 an:mg "ChoiceForm" = some (.ref zJ)
 ao:mg "len" = none
 ap:mg "range" = none
 aq:mg "isinstance" = none
 ar:mg "str" = none
 au:mg "max" = none
 av:mg "min" = none
 aw:mg "int" = none
 ax:mg "bool" = none
 ay:mg "abs" = none
 az:mg "list" = none
 aA:mg "tuple" = none
 aB:mg "all" = none
 aC:mg "sorted" = none
 aD:mg "ValueError" = none
 aE:mg "FIGURES" = some (.str "0123456789abcdef" kQ)
 aF:mg "STYLES" = some (.ref xi)
 aG:mg "MOST_SIGNS" = some (.int 40 xD)
 aH:mg "MOST_FIGURES" = some (.int 240 jN)
 aI:Sty w K xi
 f0:Dfx K "_law_cell_at" Z3
 f1:Dfx K "_law_pick" Ya
 f2:Dfx K "pads_of" V8
 f3:Dfx K "padded" W4
 f4:Dfx K "power_of" YH
 f5:Dfx K "goes_up" Kx
 f6:Dfx K "gridded" V3
 f7:Dfx K "figures_of" Q7
 f8:Dfx K "parts_of" X6
 f9:Dfx K "grouped" KW
 aT:Dfx K "body_of" V2
 aU:Dfx K "ends_of" Vf
 aV:Dfx K "signed" W3
 aW:Dfx K "stands_between_figures" jg
 aX:Dfx K "unsigned" Yh
 aY:Dfx K "is_whole" YM
 aZ:Dfx K "common_divisor" y8
 a0:Dfx K "is_fraction" QG
 a1:Dfx K "ungrouped" Jh
 a2:Dfx K "number_of" Xp
 a3:Dfx K "whole_end" Xm
 a4:Dfx K "number_in" Xc
 a5:Dcx K "Form.__init__" "__init__" kT kW
 a6:Ddx K "WordForm.__init__" "__init__" xq zI [zI] 4
 a7:Ddx K "ChoiceForm.__init__" "__init__" xC zJ [zJ] 4
 a8:Ddx K "NumberForm.__init__" "__init__" xK zE [zE] 10
 a9:Dmx K "NumberForm.is_too_great" "is_too_great" jI zE [zE]
 ba:Dmx K "NumberForm.core" "core" yl zE [zE]
 bb:Dmx K "Form.is_too_wide" "is_too_wide" yJ kW [zE,zI,zJ]
 bc:Dfx K "padded_inside" k8
 bd:Dmx K "NumberForm.lead_of" "lead_of" xZ zE [zE]
 be:Dmx K "Form.filled" "filled" QD kW [zE,zI,zJ]
 bf:Dmx K "WordForm.is_word" "is_word" yK zI [zI]
 bg:Dmx K "WordForm.core" "core" kj zI [zI]
 bh:Dmx K "ChoiceForm.core" "core" yb zJ [zJ]
 bi:Dmx K "Form.put" "put" YQ kW [zE,zI,zJ]
 bj:Dfx K "stripped" X9
 bk:Dmx K "Form.unfilled" "unfilled" kv kW [zE,zJ,zI]
 bl:Dfx K "fraction" Yb
 bm:Dfx K "grid_value" Qq
 bn:Dmx K "NumberForm.number_with" "number_with" jW zE [zE]
 bo:Dfx K "stripped_inside" yj
 bp:Dmx K "NumberForm.cores_in" "cores_in" xH zE [zE]
 bq:Dmx K "NumberForm.numbers_in" "numbers_in" jv zE [zE]
 br:Dmx K "NumberForm.values_for" "values_for" ju zE [zE]
 bs:Dmx K "ChoiceForm.values_for" "values_for" jw zJ [zJ]
 bt:Dmx K "WordForm.values_for" "values_for" xJ zI [zI]
 bu:Dfx K "grouped_cells" ZH
 bv:Dfx K "body_cells" JA
 bw:Dfx K "signed_cells" Zc
 bx:Dfx K "rows_from_nought" yB
 bz:Dfx K "rows_below_nought" xp
 bA:Dfx K "number_cores" Zf
 bB:Dfx K "filled_look" QM
 bC:Dfx K "core_looks" JD
 bD:Dfx K "looks_of" YJ
 bE:Dfx K "fits" zE5
 bF:Dfx K "look_for" X8
 bG:Dfx K "value_in" Yf
 bH:Dfx K "_law_signs" XV
 bI:Dfx K "_law_sign" Ye
 bJ:Dfx K "_law_number_spec" yX
 bK:Dfx K "_law_number_form" yk
 bL:Dfx K "_law_word_spec" ZC
 bM:Dfx K "_law_names" Jx
 bN:Dfx K "_law_choice_spec" yf
 bO:Dfx K "_law_form" YB
 bP:Dfx K "_law_spec" YX
 bQ:Dfx K "_law_power" Jt
 bR:Dfx K "_law_divisor" QL
 bS:Dfx K "_law_lowest" JC
 bT:Dfx K "_law_great" Jz
 bU:Dfx K "_law_number_value" yL
 bV:Dfx K "_law_value" Jo
 bW:Dfx K "_law_odd" VV
 bX:Dfx K "_law_class" Xh
 bY:Dfx K "_law_put" V5
 bZ:Dfx K "_law_look" YG
 b0:Dfx K "_law_none" YR
 b1:Dfx K "_law_whole" XT
 b2:Dfx K "_law_right" Xl
 b3:Dfx K "law" WX
 b4:Exc K zw
 b5:Exc K z9
 b6:Exc K qS
 b7:Exc K qg
 b8:Exc K zY
 b9:Exc K zW
 ca:Exc K za
 cb:Exc K qA
 cc:Nm K "NoFigures" zw
 cd:Nm K "NoGroups" z9
 ce:Nm K "NoBody" qS
 cf:Nm K "NoCore" qg
 cg:Cls K zE
 ch:jG K zE ["width", "fill", "side", "strict", "figures", "places", "base", "sign", "size", "mark", "point", "way"]
 ci:MkI K zE
 cj:Cls K zI
 ck:jG K zI ["width", "fill", "side", "strict", "signs", "least", "most"]
 cl:MkI K zI
 cm:Cls K zJ
 cn:jG K zJ ["width", "fill", "side", "strict", "names"]
 co:MkI K zJ
 Va:W.kitOne K (.ref zY) (.ref zY)=some true
 Vb:W.kitOne K (.ref zY) (.ref zW)=some false
 Vc:W.kitOne K (.ref zY) (.ref za)=some false
 Ga:W.kitOne K (.ref zW) (.ref zY)=some false
 Gb:W.kitOne K (.ref zW) (.ref zW)=some true
 Gc:W.kitOne K (.ref zW) (.ref za)=some false
 Ta:W.kitOne K (.ref za) (.ref zY)=some false
 Tb:W.kitOne K (.ref za) (.ref zW)=some false
 Tc:W.kitOne K (.ref za) (.ref za)=some true
 Vx:W.exmOne K (.ref zY) (.ref zn)=some true
 Gx:W.exmOne K (.ref zW) (.ref zn)=some true
 Tx:W.exmOne K (.ref za) (.ref zn)=some true
 Xx:W.exmOne K (.ref qA) (.ref zn)=some true
 Xk:W.kitOne K (.ref qA) (.ref qA)=some true
 Xe:W.kitOne K (.ref qA) (.type "ValueError")=some true
 xg:W.exmAny K (.ref z9) [.ref z9,.ref zw]=some true
 xf:W.exmAny K (.ref zw) [.ref z9,.ref zw]=some true
 xc:W.exmAny K (.ref qg) [.ref qg,.ref qS]=some true
 xb:W.exmAny K (.ref qS) [.ref qg,.ref qS]=some true
 cI:W.specialIn K (.builtin "object.__class__") "__get__" = some (some (.builtin "getset_descriptor.__get__"))
 cJ:W.takesIn K (.builtin "object.__class__")=some true
 cK:W.findIn K (.ref zE) "__class__" = some (some (.builtin "object.__class__"))
 cL:W.mroIn K zE (.type "object")=some true
 cM:W.kitOne K (.ref zE) (.ref zE)=some true
 cN:W.kitOne K (.ref zE) (.ref zI)=some false
 cO:W.findIn K (.ref zI) "__class__" = some (some (.builtin "object.__class__"))
 cP:W.mroIn K zI (.type "object")=some true
 cQ:W.kitOne K (.ref zI) (.ref zE)=some false
 cR:W.kitOne K (.ref zI) (.ref zI)=some true
 cS:W.findIn K (.ref zJ) "__class__" = some (some (.builtin "object.__class__"))
 cT:W.mroIn K zJ (.type "object")=some true
 cU:W.kitOne K (.ref zJ) (.ref zE)=some false
 cV:W.kitOne K (.ref zJ) (.ref zI)=some false
section
variable {P : Program} {w : World} {K : W.Frag} {mg : Str -> Option Value} {base : Heap} {zn zw z9 qS qg zY zW za qA kW zE zI zJ xi : Addr} {kQ xD jN : Tok} (Z : Zs w K mg zn zw z9 qS qg zY zW za qA kW zE zI zJ xi kQ xD jN)
local macro_rules | `(tactic| walk_at "sd")=>`(tactic| first | omega | (unfold zLH;omega) | (unfold CNn;omega) | (unfold CNz;omega) | (unfold zH9 GL;omega) | (unfold zKo GL;omega) | (unfold zIg zJE;first | exact .inl (.inl ⟨by omega,by omega⟩) | exact .inl (.inr ⟨by omega,by omega⟩) | (unfold zBd GL;omega)))
local macro_rules | `(tactic| walk_at "hp")=>`(tactic| first | assumption | (refine zT.at (by assumption) ?_;walk_at "hp") | exact zR)
local macro_rules | `(tactic| walk_at "sq")=>`(tactic| first | assumption | (refine zT.seq (by assumption) ?_;walk_at "sq") | exact SqL.of (by walk_at "hp"))
local macro_rules | `(tactic| walk_at "sm")=>`(tactic| first | assumption | exact zT.refl _ | (refine zT.trans ?_ (by assumption);walk_at "sm"))
local macro_rules | `(tactic| walk_at "rdc")=>`(tactic| fail "no callee")
local macro_rules | `(tactic| walk_at "rd1")=>`(tactic| first
 | (with_reducible first | apply zHb | apply zHE | apply zKQ | apply zKg | apply zJC | apply zIO)
 | ((with_reducible refine' zKJ ?e ?_);(case e=>rfl))
 | (with_reducible first | apply r_c | apply zLg | apply zLU)
 | ((with_reducible refine' r_I ?hc ?_);(case hc=>walk_at "sd"))
 | (with_reducible first | apply zJA | apply zLV | apply zJb | apply zKn | apply zKL | apply zLa | apply zLl | apply zLh | apply zLP)
 | ((with_reducible refine' zLn ?hc ?_);(case hc=>omega))
 | ((with_reducible refine' zLR ?hc ?_);(case hc=>omega))
 | ((with_reducible refine' zKu ?hc ?_);(case hc=>omega))
 | ((with_reducible refine' zKO ?hc ?_);(case hc=>omega))
 | (with_reducible first | refine i_d (fun hc=>?_) (fun hc=>?_) | refine zKE (fun hc=>?_) (fun hc=>?_) | refine i_b (fun hc=>?_) (fun hc=>?_) | apply zIb | apply zHK | apply zHs | apply zLi | apply zLO | apply r_U | apply zJ5 | apply zLe | apply zKF | apply zIZ | apply zJ4 | apply zIE | apply zGx | apply zKr | apply zFh)
 | ((with_reducible refine' zI3 ?hz ?_);(case hz=>exact small (by simp only [length_cons,length_nil];decide));intro p' H' g' e')
 | (with_reducible first | apply zDb | apply zDV | apply zDl | apply W2)
 | ((with_reducible refine' zDi ?h ?_);(case h=>walk_at "hp"))
 | ((with_reducible refine' zKc ?h ?e ?_);(case h=>walk_at "hp");(case e=>rfl))
 | (with_reducible first | refine zIs (fun k' hk'=>?_) | refine zFq (fun k' hk'=>?_) | refine zGA (fun k' hk'=>?_))
 | ((with_reducible refine' zHL ?h ?_);(case h=>walk_at "hp"))
 | ((with_reducible refine' zFA ?h ?_);(case h=>walk_at "sq"))
 | (with_reducible first | apply zKS | apply zKs | apply zKi | apply zI7 | apply zH8)
 | ((with_reducible refine' zIt ?h ?n ?_);(case h=>walk_at "hp");(case n=>rfl))
 | (with_reducible first | apply zGw | apply zIL | apply zJU)
 | walk_at "rdc"
 | fail "rd stops")
local macro_rules | `(tactic| walk_at "rd")=>`(tactic| repeat' walk_at "rd1")
local macro_rules | `(tactic| walk_at "st")=>`(tactic| dsimp only [L2.start,List.map,List.length,List.replicate,List.append,HAppend.hAppend,Append.append,Nat.reduceAdd,Nat.reduceSub])
local macro_rules | `(tactic| walk_at "rdc")=>`(tactic| first
 | (with_reducible first | apply zGY | apply zDr | apply zIW | apply zHA | apply zFt | apply zHC | apply zJi | apply zKI)
 | ((with_reducible refine' zBK (b:=true) ?e ?_);(case e=>exact decide_eq_true rfl))
 | ((with_reducible refine' zBK (b:=false) ?e ?_);(case e=>exact (by decide +kernel)))
 | fail "rd2 stops")
local macro_rules | `(tactic| walk_at "odd")=>`(tactic| first | assumption | exact .non | exact .bl _ | exact .str _ | exact .lst (by walk_at "hp") | exact .tup (by walk_at "hp") | exact .dct (by walk_at "hp") | (refine Odd.same ?_ (by assumption);walk_at "odd"))
local macro_rules | `(tactic| walk_at "rdc")=>`(tactic| first
 | (with_reducible first | apply zC5 | apply zJf)
 | ((with_reducible refine' zFN ?h ?_);(case h=>walk_at "sq"))
 | fail "rd3 stops")
local macro_rules | `(tactic| walk_at "tl")=>`(tactic| first | omega | (simp only [VP,length_append,length_replicate,length_cons,length_nil,length_take,length_drop];first | (with_reducible refine Nat.le_trans (Nat.add_le_add (Nat.add_le_add (min_le_right _ _) (Nat.le_refl _)) (sub_le _ _)) ?_;omega) | (with_reducible refine Nat.le_trans (sub_le _ _) (Nat.le_trans (min_le_right _ _) ?_);omega) | (with_reducible refine Nat.le_trans (sub_le _ _) ?_;omega) | (with_reducible refine Nat.le_trans (min_le_right _ _) ?_;omega) | omega) | (with_unfolding_all decide))
local macro_rules | `(tactic| walk_at "rdc")=>`(tactic| first
 | ((with_reducible refine' zF5 ?hz ?_);(case hz=>walk_at "tl"))
 | ((with_reducible refine' zFZ ?hz ?_);(case hz=>walk_at "tl"))
 | ((with_reducible refine' zFe ?hz ?_);(case hz=>walk_at "tl"))
 | ((with_reducible refine' zFH ?hz ?_);(case hz=>walk_at "tl"))
 | ((with_reducible refine' zCK (z:=Str.ofString _) 94 ?hn ?hz ?h0 ?h1 ?_);(case hn=>decide +kernel);(case hz=>decide);(case h0|h1=>omega);intro c' hc')
 | ((with_reducible refine' zCK (z:=Str.ofString _) 16 ?hn ?hz ?h0 ?h1 ?_);(case hn=>decide +kernel);(case hz=>decide);(case h0|h1=>omega);intro c' hc')
 | ((with_reducible refine' zCK (z:=Str.ofString _) 13 ?hn ?hz ?h0 ?h1 ?_);(case hn=>decide +kernel);(case hz=>decide);(case h0|h1=>omega);intro c' hc')
 | ((with_reducible refine' zJk ?hz ?h0 ?h1 ?_);(case hz=>walk_at "tl");(case h0=>omega);(case h1=>walk_at "tl"))
 | ((with_reducible refine' zEC ?hz ?h0 ?h1 ?_);(case hz=>walk_at "tl");(case h0=>omega);(case h1=>walk_at "tl"))
 | ((with_reducible refine' zG6 ?hz ?h1 ?_);(case hz|h1=>walk_at "tl"))
 | ((with_reducible refine' zFp ?hz ?h0 ?_);(case hz=>walk_at "tl");(case h0=>omega))
 | ((with_reducible refine' zHU ?hz ?h0 ?_);(case hz=>walk_at "tl");(case h0=>omega))
 | ((with_reducible refine' zDz ?hz ?h0 ?h1 ?_);(case hz=>walk_at "tl");(case h0|h1=>omega))
 | ((with_reducible refine' zCl ?h0 ?h1 ?_);(case h0|h1=>omega))
 | (with_reducible refine zDp ?_)
 | ((with_reducible refine' zBK (b:=true) ?e ?_);(case e=>exact decide_eq_true rfl))
 | ((with_reducible refine' zBK (b:=false) ?e ?_);(case e=>exact (by decide +kernel)))
 | ((with_reducible refine' zGU (b:=true) ?e ?_);(case e=>exact decide_eq_true rfl))
 | ((with_reducible refine' zGU (b:=false) ?e ?_);(case e=>exact (by decide +kernel)))
 | (with_reducible first | apply zEv | apply zFS | apply zEu | apply zCF | apply zJf | apply zKv | apply zCt)
 | fail "rd4 stops")
local macro_rules | `(tactic| walk_at "rdc")=>`(tactic| first
 | (with_reducible refine zIv ?_)
 | ((with_reducible refine' zBK (x:=T _) (b:=true) ?e ?_);(case e=>exact decide_eq_true rfl))
 | (with_reducible refine zEv ?_)
 | ((with_reducible refine' zGU (x:=T _) (b:=true) ?e ?_);(case e=>exact decide_eq_true rfl))
 | (with_reducible refine zFS ?_)
 | fail "rd5 stops")
local macro_rules | `(tactic| walk_at "rdc")=>`(tactic| first
 | (with_reducible refine zIU ?_)
 | ((with_reducible refine' zIc ?h ?h0 ?h1 ?_);(case h=>walk_at "sq");(case h0|h1=>omega))
 | fail "rd6 stops")
local macro_rules | `(tactic| walk_at "asc")=>`(tactic| first | assumption | exact Asc.nil | exact Asc.one (by omega) | exact Asc.app (by walk_at "asc") (by walk_at "asc") | exact Asc.take (by walk_at "asc") _ | exact Asc.drop (by walk_at "asc") _ | exact Asc.rep (by walk_at "asc") _)
local macro_rules | `(tactic| walk_at "rdc")=>`(tactic| first
 | fail "rd7 stops")
local macro_rules | `(tactic| walk_at "rdc")=>`(tactic| first
 | (with_reducible refine zHF ?_)
 | fail "rd8 stops")
local macro_rules | `(tactic| walk_at "sqt")=>`(tactic| first | assumption | exact SqT.same (by assumption) (by assumption) | exact SqT.same (SqT.same (by assumption) (by assumption)) (by assumption) | exact SqT.of (by walk_at "hp"))
local macro_rules | `(tactic| walk_at "rdc")=>`(tactic| first
 | ((with_reducible refine' zGa ?h ?e ?_);(case h=>walk_at "sqt");(case e=>rfl))
 | fail "rd9 stops")
local macro_rules | `(tactic| walk_at "rdc")=>`(tactic| first
 | (with_reducible refine zIG ?_)
 | ((with_reducible refine' zKK ?h ?_);(case h=>first | assumption | omega))
 | (with_reducible refine zHZ ?_)
 | fail "rd10 stops")
local macro_rules | `(tactic| walk_at "rdc")=>`(tactic| first
 | ((with_reducible refine' zKG ?h0 ?h1 ?_);(case h0|h1=>omega))
 | fail "rd11 stops")
local macro_rules | `(tactic| walk_at "rdc")=>`(tactic| first
 | ((with_reducible refine' zJI ?h ?_);(case h=>walk_at "sq"))
 | ((with_reducible refine' zHM ?h ?_);(case h=>walk_at "sq"))
 | ((with_reducible refine' zF6 ?h ?h0 ?_);(case h=>walk_at "sq");(case h0=>omega))
 | ((with_reducible refine' Wu ?h ?_);(case h=>walk_at "sq");intro l' H' g' n' e')
 | (with_reducible refine zD9 ?_)
 | ((with_reducible refine' zFN ?h ?_);(case h=>walk_at "sq"))
 | (with_reducible refine zIU ?_)
 | fail "rd12 stops")
local macro_rules | `(tactic| walk_at "rdc")=>`(tactic| first
 | (with_reducible refine zJ6 ?_)
 | fail "rd13 stops")
local macro_rules | `(tactic| walk_at "fm")=>`(tactic| first | assumption | (refine' zV.same (by assumption) ?_;walk_at "fm"))
local macro_rules | `(tactic| walk_at "fld2")=>`(tactic| fail "no own field")
local macro_rules | `(tactic| walk_at "fld")=>`(tactic| first | (exact zV.width (by walk_at "fm")) | (exact zV.fill (by walk_at "fm")) | (exact zV.side (by walk_at "fm")) | (exact zV.strict (by walk_at "fm")) | walk_at "fld2")
local macro_rules | `(tactic| walk_at "wk")=>`(tactic| repeat (first | exact Wk.nil | refine Wk.one ?_ | refine Wk.any ?_))
local macro_rules | `(tactic| walk_at "rdc")=>`(tactic| first
 | (with_reducible first | apply zKm | apply zC5)
 | ((with_reducible refine' zJo ?h ?_);(case h=>walk_at "fld"))
 | (with_reducible refine Jr ?_)
 | ((with_reducible refine' Zx ?h ?_);(case h=>walk_at "ins"))
 | (with_reducible refine zFx ?_)
 | ((with_reducible refine' zLQ ?h ?_);(case h=>walk_at "wk"))
 | (with_reducible first | apply zHn | apply zIC | apply zGy | apply zHo)
 | ((with_reducible refine' zKR ?h ?_);(case h=>walk_at "sq"))
 | fail "rd14 stops")
local macro_rules | `(tactic| walk_at "rd1")=>`(tactic| first | ((with_reducible refine' zF7 ?h ?e ?_);(case h=>walk_at "sq");(case e=>rfl)) | fail "no written place")
def VU (t b:Int):Int:=if b < 0 then -(Int.gcd t b:Int) else (Int.gcd t b:Int)
def ZV (t b:Int):Int:=t.fdiv (VU t b)
def Zj (t b:Int):Int:=b.fdiv (VU t b)
variable {g l:Int}
theorem zDk (hg:0<=g) (hl:0 < l):Int.gcd l (g % l)=Int.gcd g l:=by
 rw [Int.gcd_comm g l]
 have e:g % l=g+l*(-(g / l)):=by
  have:=Int.emod_add_mul_ediv g l
  rw [Int.mul_neg];omega
 rw [e,Int.gcd_add_mul_left_right]
theorem zDP (t b:Int):VU t b ∣ t:=by
 unfold VU;split
 ·exact (Int.neg_dvd).mpr (Int.gcd_dvd_left ..)
 ·exact Int.gcd_dvd_left ..
theorem zCh (t b:Int):VU t b ∣ b:=by
 unfold VU;split
 ·exact (Int.neg_dvd).mpr (Int.gcd_dvd_right ..)
 ·exact Int.gcd_dvd_right ..
variable {t b:Int}
theorem VB (h:0 < b):0 < VU t b:=by
 unfold VU;rw [if_neg (by omega)]
 have:0 < Int.gcd t b:=Int.gcd_pos_of_ne_zero_right _ (by omega)
 omega
theorem Wn (t b:Int):ZV t b*VU t b=t:=by
 unfold ZV;exact Int.fdiv_mul_cancel (zDP t b)
theorem VC (t b:Int):Zj t b*VU t b=b:=by
 unfold Zj;exact Int.fdiv_mul_cancel (zCh t b)
theorem VF (h:0 < b):0 < Zj t b:=by
 have h1:=VB (t:=t) h
 have h2:=VC t b
 rcases Int.lt_trichotomy 0 (Zj t b) with h3 | h3 | h3
 ·exact h3
 ·rw [<- h3] at h2;simp at h2;omega
 ·have:=Int.mul_neg_of_neg_of_pos h3 h1;omega
theorem zFu (h:0 < b):Zj t b<=b:=by
 have h1:=VB (t:=t) h
 have h2:=VC t b
 have h3:=VF (t:=t) h
 have:=Int.mul_le_mul_of_nonneg_left (show 1<=VU t b by omega) (Int.le_of_lt h3)
 omega
variable {L:Int}
theorem zGV (h:0 < b) (h1 : -L < t) (h2:t < L) : -L < ZV t b/\ZV t b < L:=by
 have h3:=VB (t:=t) h
 have h4:=Wn t b
 rcases Int.lt_or_le (ZV t b) 0 with h5 | h5
 ·have:=Int.mul_le_mul_of_nonneg_left (show 1<=VU t b by omega) (show 0 <= -ZV t b by omega)
  simp only [Int.neg_mul,Int.mul_one] at this;omega
 ·have:=Int.mul_le_mul_of_nonneg_left (show 1<=VU t b by omega) h5
  omega
theorem zJV (h:0 < b) (h':b < L) (h1 : -L < t) (h2:t < L) : -L < ZV t b/\ZV t b < L/\0 < Zj t b/\Zj t b < L:=by
 have a1:=zGV h h1 h2
 have a2:=VF (t:=t) h
 have a3:=zFu (t:=t) h
 exact ⟨a1.1,a1.2,a2,by omega⟩
variable {a:Int}
theorem zGW (h1:(0<=a/\g=a)\/(a < 0/\g = -a)) (h2:(0<=b/\l=b)\/(b < 0/\l = -b)):0<=g/\0<=l/\Int.gcd g l=Int.gcd a b:=by
 rcases h1 with ⟨h,rfl⟩ | ⟨h,rfl⟩ <;> rcases h2 with ⟨h',rfl⟩ | ⟨h',rfl⟩ <;> simp only [Int.gcd_neg,Int.neg_gcd,and_true] <;> omega
theorem zJQ {x y M:Int} (h1 : -L < x) (h2:x < L) (h3:0 < y) (h4:y < M) : -(L*M) < x*y/\x*y < L*M:=by
 have hL:0 < L:=by omega
 have hM:0 < M:=by omega
 have e : ∀ z:Int,0<=z->z < L->z*y < L*M:=fun z p q =>
  Int.lt_of_le_of_lt (Int.mul_le_mul_of_nonneg_right (Int.le_of_lt q) (Int.le_of_lt h3)) (Int.mul_lt_mul_of_pos_left h4 hL)
 rcases Int.lt_or_le x 0 with p | p
 ·have a1:=e (-x) (by omega) (by omega)
  have a2:=Int.mul_pos hL hM
  have a3:=Int.mul_nonneg (show 0 <= -x by omega) (Int.le_of_lt h3)
  rw [Int.neg_mul] at a1 a3;omega
 ·have a1:=e x p h2
  have a2:=Int.mul_pos hL hM
  have a3:=Int.mul_nonneg p (Int.le_of_lt h3)
  omega
def GrB (a b:Int):Prop:=-10000000000000000000000000000000000000000000000000000000000000000000000000000000000000000000000000000000000000000000000000000000000000000000000000000000000000000000000000000000000000000000000 < a/\a < 10000000000000000000000000000000000000000000000000000000000000000000000000000000000000000000000000000000000000000000000000000000000000000000000000000000000000000000000000000000000000000000000/\0 < b/\b < 10000000000000000000000000000000000000000000000000000000000000000000000000000000000000000000000000000000000000000000000000000000000000000000000000000000000000000000000000000000000000000000000
def Way (w:Str):Prop:=w = "down" \/ w = "up" \/ w = "cut" \/ w = "near" \/ w = "even"
def upB (w:Str) (be re bo:Int):Bool:=if w = "down" then false else if w = "up" then true else if w = "cut" then decide (be < 0) else if 2*re=bo then (decide (w = "near") || decide (be % 2=1)) else decide (2*re > bo)
def zBU (w:Str) (a b P:Int):Int:=if 0 < a*P % b/\upB w (a*P / b) (a*P % b) b=true then a*P / b+1 else a*P / b
variable {be re bo:Int}
theorem zF9:upB "down" be re bo=false:=by unfold upB;rw [if_pos rfl]
theorem zKa:upB "up" be re bo=true:=by unfold upB;rw [if_neg (by decide +kernel),if_pos rfl]
theorem zId:upB "cut" be re bo=decide (be < 0):=by unfold upB;rw [if_neg (by decide +kernel),if_neg (by decide +kernel),if_pos rfl]
theorem zG0 (h:2*re=bo):upB "near" be re bo=true:=by unfold upB;rw [if_neg (by decide +kernel),if_neg (by decide +kernel),if_neg (by decide +kernel),if_pos h,decide_eq_true rfl];rfl
theorem zDm (h : ¬ 2*re=bo):upB "near" be re bo=decide (2*re > bo):=by unfold upB;rw [if_neg (by decide +kernel),if_neg (by decide +kernel),if_neg (by decide +kernel),if_neg h]
theorem zHe (h:2*re=bo):upB "even" be re bo=decide (be % 2=1):=by unfold upB;rw [if_neg (by decide +kernel),if_neg (by decide +kernel),if_neg (by decide +kernel),if_pos h,decide_eq_false (by decide +kernel)];rfl
theorem zEc (h : ¬ 2*re=bo):upB "even" be re bo=decide (2*re > bo):=by unfold upB;rw [if_neg (by decide +kernel),if_neg (by decide +kernel),if_neg (by decide +kernel),if_neg h]
theorem zBX {b:Int} (h1:2<=b) (h2:b<=16) : ∀ n:Nat,1<=b ^ n/\b ^ n<=16 ^ n
 | 0=>by simp
 | n+1=>by
  obtain ⟨p,q⟩:=zBX h1 h2 n
  rw [pow_succ,pow_succ]
  have a1:=mul_le_mul p (show 1<=b by omega) (by decide) (by omega)
  have a2:=mul_le_mul q h2 (by omega) (by omega)
  omega
variable {n m:Nat}
theorem WB (h:n<=m):(16:Int) ^ n<=16 ^ m:=by
 induction h with
 | refl=>exact Int.le_refl _
 | step h ih =>
  rename_i m
  have:=(zBX (b:=16) (by decide) (by decide) m).1
  rw [pow_succ];omega
theorem pw6 (h1:2<=b) (h2:b<=16) (h3:t<=6):1<=b ^ t.toNat/\b ^ t.toNat<=16777216:=by
 have a:=zBX h1 h2 t.toNat
 have b:=WB (n:=t.toNat) (m:=6) (by omega)
 have c:(16:Int) ^ 6=16777216:=by decide
 omega
theorem zJ2 (h1:2<=b) (h2:b<=16) (h3:n<=60):1<=b ^ n/\b ^ n<=1766847064778384329583297500742918515827483896875618958121606201292619776:=by
 have a:=zBX h1 h2 n
 have b:=WB (n:=n) (m:=60) (by omega)
 have c:(16:Int) ^ 60=1766847064778384329583297500742918515827483896875618958121606201292619776:=by decide +kernel
 omega
theorem zJ3 (t:Int) (h:0 < b):t / b*b<=t/\t < (t / b+1)*b/\t / b*b=t - t % b/\0<=t % b/\t % b < b:=by
 have e:=Int.emod_add_mul_ediv t b
 have m0:=emod_nonneg t (show b≠0 by omega)
 have m1:=emod_lt_of_pos t h
 rw [Int.add_mul,Int.one_mul,Int.mul_comm (t / b) b]
 omega
def XD (K:W.Frag):Sp:=fun vs H Q _=>∃ b t:Int,vs=[.int b,.int t]/\2<=b/\b<=16/\0<=t/\t<=60/\Q (.int (b ^ t.toNat)) H
variable {H:Hp} {Q:VK} {E:XK}
theorem zA8 (h1:2<=b) (h2:b<=16) (h3:0<=t) (h4:t<=60) (q:Q (.int (b ^ t.toNat)) H):XD K ([.int b,.int t]++[]) H Q E:=⟨b,t,rfl,h1,h2,h3,h4,q⟩
def X7 (K:W.Frag):Sp:=fun vs H Q _=>∃ (be re bo:Int) (w:Str),vs=[.int be,.int re,.int bo,.str w]/\Way w/\0<=re/\re < 10000000000000000000000000000000000000000000000000000000000000000000000000000000000000000000000000000000000000000000000000000000000000000000000000000000000000000000000000000000000000000000000/\Q (.bl (upB w be re bo)) H
theorem zCw {w:Str} (h1:Way w) (h2:0<=re) (h3:re < 10000000000000000000000000000000000000000000000000000000000000000000000000000000000000000000000000000000000000000000000000000000000000000000000000000000000000000000000000000000000000000000000) (q:Q (.bl (upB w be re bo)) H):X7 K ([.int be,.int re,.int bo,.str w]++[]) H Q E:=⟨be,re,bo,w,rfl,h1,h2,h3,q⟩
def YK (K:W.Frag):Sp:=fun vs H Q _=>∃ (p:Addr) (a b B t:Int) (w:Str),vs=[.ref p,.int B,.int t,.str w]/\H p=some (.tup [.int a,.int b])/\GrB a b/\2<=B/\B<=16/\0<=t/\t<=6/\Way w/\Q (.int (zBU w a b (B ^ t.toNat))) H
variable {p:Addr}
theorem zCQ {B:Int} {w:Str} (h1:H p=some (.tup [.int a,.int b])) (h2:GrB a b) (h3:2<=B) (h4:B<=16) (h5:0<=t) (h6:t<=6) (h7:Way w) (q:Q (.int (zBU w a b (B ^ t.toNat))) H):YK K ([.ref p,.int B,.int t,.str w]++[]) H Q E:=⟨p,a,b,B,t,w,rfl,h1,h2,h3,h4,h5,h6,h7,q⟩
def Zg (K:W.Frag):Sp:=fun vs H Q _=>∃ (a:Addr) (ns:List Int) (k:Int),vs=[.ref a,.int k]/\SqL K H a (ns.map V.int)/\0<=k /\ ∀ v:Int,Q (.int v) H
variable {k:Int}
theorem zIe {a:Addr} {ns:List Int} (h1:SqL K H a (ns.map V.int)) (h2:0<=k) (q : ∀ v:Int,Q (.int v) H):Zg K ([.ref a,.int k]++[]) H Q E:=⟨a,ns,k,rfl,h1,h2,q⟩
def pkA (c t:Int):Int:=(c % 1000000007+314159265+104729*t) % 998244353*((c % 1000000007+314159265+104729*t) % 998244353) % 998244353
def pk (c t m:Int):Int:=if 1000000000000000000 < c/\0 < c / 2 ^ (20*t).toNat then c / 2 ^ (20*t).toNat % 1048576 % m else (pkA c t+271828183)*(pkA c t / 1024+48271+t) % 2147483629 / 128 % m
def Zw (K:W.Frag):Sp:=fun vs H Q _=>∃ c t m:Int,vs=[.int c,.int t,.int m]/\0<=t/\0 < m/\(0<=pk c t m->pk c t m < m->Q (.int (pk c t m)) H)
variable {c:Int}
theorem zFg {m:Int} (h1:0<=t) (h2:0 < m) (q:0<=pk c t m->pk c t m < m->Q (.int (pk c t m)) H):Zw K ([.int c,.int t,.int m]++[]) H Q E:=⟨c,t,m,rfl,h1,h2,q⟩
theorem zCJ {m:Int} (h1:0<=t) (h2:0 < m) (q : ∀ v:Int,0<=v->v < m->Q (.int v) H):Zw K ([.int c,.int t,.int m]++[]) H Q E:=⟨c,t,m,rfl,h1,h2,q _⟩
def Yk (K:W.Frag):Sp:=fun vs H Q _=>∃ (n w:Int) (x:Str),vs=[.int n,.int w,.str x]/\y4 x/\0<=n/\w<=40 /\ ∀ p H',zT H H'->H' p=some (.tup [.int (pA x n w),.int (pB x n w)])->Q (.ref p) H'
variable {x:Str}
theorem zCz {n w:Int} (h1:y4 x) (h2:0<=n) (h3:w<=40) (q : ∀ p H',zT H H'->H' p=some (.tup [.int (pA x n w),.int (pB x n w)])->Q (.ref p) H'):Yk K ([.int n,.int w,.str x]++[]) H Q E:=⟨n,w,x,rfl,h1,h2,h3,q⟩
def Vh (K:W.Frag):Sp:=fun vs H Q _=>∃ (t:List Nat) (w:Int) (f:Nat) (x:Str),vs=[.str (T t),.int w,.str (T [f]),.str x]/\y4 x/\t.length<=400/\w<=40 /\ ∀ H',zT H H'->Q (.str (T (pad t w f x))) H'
variable {f:Nat}
theorem zAP {t:List Nat} {w:Int} (h1:y4 x) (h2:t.length<=400) (h3:w<=40) (q : ∀ H',zT H H'->Q (.str (T (pad t w f x))) H'):Vh K ([.str (T t),.int w,.str (T [f]),.str x]++[]) H Q E:=⟨t,w,f,x,rfl,h1,h2,h3,q⟩
local macro_rules | `(tactic| walk_at "rdc")=>`(tactic| ((with_reducible refine' zCJ ?h1 ?h2 ?_);(case h1|h2=>omega);intro v' h0' h1'))
local macro_rules | `(tactic| walk_at "rdc")=>`(tactic| ((with_reducible refine' zIe ?h1 ?h2 ?_);(case h1=>walk_at "sq");(case h2=>omega);intro v'))
local macro_rules | `(tactic| walk_at "rdc")=>`(tactic| ((with_reducible refine' zCz ?h1 ?h2 ?h3 ?_);(case h1=>first | assumption | exact .inl rfl | exact .inr (.inl rfl) | exact .inr (.inr rfl));(case h2|h3=>omega);intro p' H' g' e'))
local macro_rules | `(tactic| walk_at "rdc")=>`(tactic| ((with_reducible refine' zAP ?h1 ?h2 ?h3 ?_);(case h1=>first | assumption | exact .inl rfl | exact .inr (.inl rfl) | exact .inr (.inr rfl));(case h2=>walk_at "tl");(case h3=>omega);intro H' g'))
theorem zGR {c:Nat} (h:c < 127) (q:Q (.int (fv c)) H):zCX (.str "0123456789abcdef") [.str (T [c])] H Q:=zCt (by rw [zFv h];exact q)
variable {i:Int}
theorem zKM (h0:0<=i) (h1:i < 16) (q:Q (.str (T [fc i.toNat])) H):zFV (.str "0123456789abcdef") (.int i) H Q:=by
 have e:(Lt "0123456789abcdef").length=16:=by decide +kernel
 exact zEC (by omega) h0 (by omega) q
theorem zFs {n:Int} (h1:n < 16777216) (h2 : -16777216 < n) (q:Q (.str (T (List.replicate n.toNat 48))) H):zGu (.str "0") (.int n) H Q:=by
 have e:("0" : Str)=T [48]:=by decide +kernel
 rw [e];exact zCl h1 h2 q
local macro_rules | `(tactic| walk_at "rdc")=>`(tactic| ((with_reducible refine' zFs ?h1 ?h2 ?_);(case h1|h2=>omega)))
local macro_rules | `(tactic| walk_at "rdc")=>`(tactic| ((with_reducible refine' zGR ?h1 ?_);(case h1=>first | omega | assumption)))
local macro_rules | `(tactic| walk_at "rdc")=>`(tactic| ((with_reducible refine' zKM ?h1 ?h2 ?_);(case h1|h2=>omega)))
def QB (K:W.Frag):Sp:=fun vs H Q _=>∃ n b:Int,vs=[.int n,.int b]/\0<=n/\2<=b/\b<=16/\n < 1766847064778384329583297500742918515827483896875618958121606201292619776/\(∀ l,l=ZL b.toNat n.toNat->j8 b l->val b l=n->0 < l.length->l.length<=240->(l.getD 0 0=48->l=[48])->Q (.str (T l)) H)
theorem KS {n:Int} (h1:0<=n) (h2:2<=b) (h3:b<=16) (h4:n < 1766847064778384329583297500742918515827483896875618958121606201292619776) (q:(∀ l,l=ZL b.toNat n.toNat->j8 b l->val b l=n->0 < l.length->l.length<=240->(l.getD 0 0=48->l=[48])->Q (.str (T l)) H)):QB K ([.int n,.int b]++[]) H Q E:=⟨n,b,rfl,h1,h2,h3,h4,q⟩
local macro_rules | `(tactic| walk_at "rdc")=>`(tactic| ((with_reducible refine' KS ?h1 ?h2 ?h3 ?h4 ?_);(case h1|h2|h3|h4=>omega);intro l' el' f1' f2' f3' f4' f5'))
abbrev Ce:=List (List Nat)
inductive Al {α:Type} (R:V->α->Prop):List V->List α->Prop
 | nil:Al R [] []
 | cons {v:V} {a:α} {vs:List V} {as:List α} (h:R v a) (t:Al R vs as):Al R (v::vs) (a::as)
section
variable {α : Type} {R R' : V -> α -> Prop}
variable {vs:List V} {as:List α}
theorem Al.len (h:Al R vs as):vs.length=as.length:=by
 induction h with
 | nil=>rfl
 | cons _ _ ih=>rw [length_cons,length_cons,ih]
theorem Al.imp (h:Al R vs as) (f : ∀ v a,R v a->R' v a):Al R' vs as:=by
 induction h with
 | nil=>exact .nil
 | cons h _ ih=>exact .cons (f _ _ h) ih
theorem Al.app {us:List V} {bs:List α} (h:Al R vs as) (k:Al R us bs):Al R (vs++us) (as++bs):=by
 induction h with
 | nil=>exact k
 | cons h _ ih=>exact .cons h ih
theorem Al.one {v:V} {a:α} (h:R v a):Al R [v] [a]:=.cons h .nil
theorem Al.rev (h:Al R vs as):Al R vs.reverse as.reverse:=by
 induction h with
 | nil=>exact .nil
 | cons h _ ih=>rw [List.reverse_cons,List.reverse_cons];exact ih.app (.one h)
theorem Al.get (h:Al R vs as) : ∀ {i:Nat} {v:V},vs[i]? = some v -> ∃ a,as[i]? = some a/\R v a:=by
 induction h with
 | nil=>intro i v e;simp at e
 | cons h _ ih =>
  intro i v e
  cases i with
  | zero=>cases e;exact ⟨_,rfl,h⟩
  | succ i=>exact ih e
theorem Al.filter {p:α->Bool} (h:Al R vs as) : ∃ us,Al R us (as.filter p):=by
 induction h with
 | nil=>exact ⟨[],.nil⟩
 | @cons v a vs as h _ ih =>
  obtain ⟨us,k⟩:=ih
  rw [filter_cons]
  cases p a with
  | false=>exact ⟨us,k⟩
  | true=>exact ⟨v::us,.cons h k⟩
end
variable {H':Hp}
theorem none_of {a:Addr} (g:zT H H') (n:H' a=none):H a=none:=by
 cases hl:H a with
 | none=>rfl
 | some u=>rw [g.at hl] at n;cases n
theorem zo (l:Ce):(tsV l).length=l.length:=length_map _
variable {o:HO}
theorem WZ {a l:Addr} (n:H a=none) (e:H l=some o):a≠l:=fun z=>by rw [z,e] at n;cases n
theorem xz (a b:List (List Nat)):tsV a++tsV b=tsV (a++b):=by unfold tsV;rw [map_append]
variable {v:V}
theorem yR {l:Ce} {i:Nat} (h:(tsV l)[i]? = some v) : ∃ c,l[i]? = some c/\v = .str (T c):=by
 unfold tsV at h
 rw [getElem?_map] at h
 cases hc:l[i]? with
 | none=>rw [hc] at h;cases h
 | some c=>rw [hc] at h;cases h;exact ⟨c,rfl,rfl⟩
def RL (H:Hp) (P:Addr->Prop) (v:V) (cs:Ce):Prop:=∃ q,v = .ref q/\P q/\H q=some (.lst (tsV cs))
def pcA {α:Type} (a:List α) (z e:Nat):List (List α):=if h:e=0\/z=0 then [] else pcA a z (e - z)++[(a.take e).drop (e - z)]
termination_by e
decreasing_by omega
theorem xB {α:Type} (a:List α) (z:Nat):pcA a z 0=[]:=by rw [pcA];simp
theorem QZ {α:Type} {a:List α} {z e:Nat} (h1:e≠0) (h2:z≠0):pcA a z e=pcA a z (e - z)++[(a.take e).drop (e - z)]:=by rw [pcA];simp [h1,h2]
def QK (K:W.Frag):Sp:=fun vs H Q _=>∃ (p:Addr) (a:Ce) (z:Int),vs=[.ref p,.int z,.int 0]/\H p=some (.lst (tsV a))/\0 < z/\z<=9/\a.length<=400 /\ ∀ l H' qs,zT H H'->H l=none->H' l=some (.lst qs)->Al (RL H' (fun q=>H q=none)) qs (pcA a z.toNat a.length)->Q (.ref l) H'
def Z8 (K:W.Frag):Sp:=fun vs H Q _=>∃ (a:List Nat) (z g:Int),vs=[.str (T a),.int z,.int g]/\0 < z/\z<=9/\0<=g/\g<=1/\a.length<=400 /\ ∀ p H',zT H H'->H' p=some (.lst ((pcs a z.toNat g.toNat a.length).map fun l=>V.str (T l)))->Q (.ref p) H'
theorem zBB {a:List Nat} (h1:0 < z) (h2:z<=9) (h3:0<=g) (h4:g<=1) (h5:a.length<=400) (q : ∀ p H',zT H H'->H' p=some (.lst ((pcs a z.toNat g.toNat a.length).map fun l=>V.str (T l)))->Q (.ref p) H'):Z8 K ([.str (T a),.int z,.int g]++[]) H Q E:=⟨a,z,g,rfl,h1,h2,h3,h4,h5,q⟩
local macro_rules | `(tactic| walk_at "rdc")=>`(tactic| ((with_reducible refine' zBB ?h1 ?h2 ?h3 ?h4 ?h5 ?_);(case h1|h2|h3|h4|h5=>omega);intro p' H' g' e'))
def YC (K:W.Frag):Sp:=fun vs H Q _=>∃ (a:List Nat) (z:Int) (m:Nat),vs=[.str (T a),.int z,.str (T [m])]/\0<=z/\z<=9/\a.length<=400 /\ ∀ H',zT H H'->Q (.str (T (gr z.toNat m a))) H'
theorem zCp {a:List Nat} (h1:0<=z) (h2:z<=9) (h5:a.length<=400) (q : ∀ H',zT H H'->Q (.str (T (gr z.toNat m a))) H'):YC K ([.str (T a),.int z,.str (T [m])]++[]) H Q E:=⟨a,z,m,rfl,h1,h2,h5,q⟩
local macro_rules | `(tactic| walk_at "rdc")=>`(tactic| ((with_reducible refine' zCp ?h1 ?h2 ?h5 ?_);(case h1|h2|h5=>omega);intro H' g'))
def zHi (n b p:Int):Prop:=0<=n/\2<=b/\b<=16/\0<=p/\p<=6/\n.toNat < b.toNat ^ (40+p.toNat)
def bdI (n b p:Int) (pt:Nat) (z:Int) (m:Nat):List Nat:=bdy b.toNat p.toNat pt z.toNat m n.toNat
theorem zHi.big {n p:Int} (h:zHi n b p):n < 1766847064778384329583297500742918515827483896875618958121606201292619776:=by
 obtain ⟨h1,h2,h3,h4,h5,h6⟩:=h
 have e1:b.toNat ^ (40+p.toNat)<=16 ^ (40+p.toNat):=Nat.pow_le_pow_left (by omega) _
 have e2:(16:Nat) ^ (40+p.toNat)<=16 ^ 46:=pow_le_pow_right (by decide) (by omega)
 have e3:(16:Nat) ^ 46 < 1766847064778384329583297500742918515827483896875618958121606201292619776:=by decide +kernel
 omega
def YU (K:W.Frag):Sp:=fun vs H Q _=>∃ (n b p z:Int) (pt m:Nat),vs=[.int n,.int b,.int p,.str (T [pt]),.int z,.str (T [m])]/\zHi n b p/\0<=z/\z<=9 /\ ∀ H',zT H H'->Q (.str (T (bdI n b p pt z m))) H'
theorem Vw {n p:Int} {pt:Nat} (h1:zHi n b p) (h2:0<=z) (h3:z<=9) (q : ∀ H',zT H H'->Q (.str (T (bdI n b p pt z m))) H'):YU K ([.int n,.int b,.int p,.str (T [pt]),.int z,.str (T [m])]++[]) H Q E:=⟨n,b,p,z,pt,m,rfl,h1,h2,h3,q⟩
local macro_rules | `(tactic| walk_at "rdc")=>`(tactic| ((with_reducible refine' Vw ?h1 ?h2 ?h3 ?_);(case h1=>assumption);(case h2|h3=>omega);intro H' g'))
def YT (K:W.Frag):Sp:=fun vs H Q _=>∃ (x:Str) (b:Bool),vs=[.str x,.bl b]/\xw x /\ ∀ p,SqT K H p [.str (T (stL x b)),.str (T (stT x b))]->Q (.ref p) H
theorem zDF {b:Bool} (h:xw x) (q : ∀ p,SqT K H p [.str (T (stL x b)),.str (T (stT x b))]->Q (.ref p) H):YT K ([.str x,.bl b]++[]) H Q E:=⟨x,b,rfl,h,q⟩
local macro_rules | `(tactic| walk_at "rdc")=>`(tactic| ((with_reducible refine' zDF ?h ?_);(case h=>assumption);intro p' e'))
def sg (x:Str) (b:Bool) (l:List Nat):List Nat:=stL x b++l++stT x b
theorem zFD (h:xw x) (b:Bool) (l:List Nat):l.length<=(sg x b l).length/\(sg x b l).length<=l.length+2:=by
 have:=JE h b
 unfold sg;simp only [length_append];omega
def V9 (K:W.Frag):Sp:=fun vs H Q _=>∃ (l:List Nat) (x:Str) (b:Bool),vs=[.str (T l),.str x,.bl b]/\xw x/\l.length<=1000/\Q (.str (T (sg x b l))) H
theorem zES {l:List Nat} {b:Bool} (h:xw x) (h2:l.length<=1000) (q:Q (.str (T (sg x b l))) H):V9 K ([.str (T l),.str x,.bl b]++[]) H Q E:=⟨l,x,b,rfl,h,h2,q⟩
local macro_rules | `(tactic| walk_at "rdc")=>`(tactic| ((with_reducible refine' zES ?h ?h2 ?_);(case h=>assumption);(case h2=>omega)))
def jO (K:W.Frag):Sp:=fun vs H Q _=>∃ l:List Nat,vs=[.str (T l)]/\Asc l/\l.length<=1000/\(Fg l->Q (.bl true) H)/\(¬ Fg l->Q (.bl false) H)
theorem zEg {l:List Nat} (h1:Asc l) (h2:l.length<=1000) (q1:Fg l->Q (.bl true) H) (q2 : ¬ Fg l->Q (.bl false) H):jO K ([.str (T l)]++[]) H Q E:=⟨l,rfl,h1,h2,q1,q2⟩
local macro_rules | `(tactic| walk_at "rdc")=>`(tactic| ((with_reducible refine' zEg ?h1 ?h2 (fun fg'=>?_) (fun fg'=>?_));(case h1=>assumption);(case h2=>omega)))
def XU (K:W.Frag):Sp:=fun vs H Q E=>∃ (t:List Nat) (x:Str),vs=[.str (T t),.str x]/\xw x/\Asc t/\t.length<=1000/\(∀ b,Sgd x b t -> ∀ p H',zT H H'->H' p=some (.tup [.bl b,.str (T (bod x b t))])->Q (.ref p) H')/\((¬ Sgd x false t)->(¬ Sgd x true t) -> ∀ C H',Nm K "NoCore" C->zT H H'->E (.ref C) none H')
theorem zAY {t:List Nat} {b:Bool} (h1:xw x) (h2:Asc t) (h3:t.length<=1000) (g:Sgd x b t) (q : ∀ p H',zT H H'->H' p=some (.tup [.bl b,.str (T (bod x b t))])->Q (.ref p) H'):spc (XU K) ([.str (T t),.str x]++[]) H Q E:=by
 refine ⟨t,x,rfl,h1,h2,h3,fun b' g' p H' gg e=>?_,fun n0 n1=>?_⟩
 ·have e2:b'=b:=by
   cases b' <;> cases b
   ·rfl
   ·exact (yr h1 g' g).elim
   ·exact (yr h1 g g').elim
   ·rfl
  subst e2
  exact q p H' gg e
 ·cases b
  ·exact absurd g n0
  ·exact absurd g n1
def Ve (K:W.Frag):Sp:=fun vs H Q E=>∃ (t:List Nat) (z:Int) (m:Nat),vs=[.str (T t),.int z,.str (T [m])]/\0<=z/\z<=9/\t.length<=400/\(GG z.toNat m t -> ∀ H',zT H H'->Q (.str (T (ug z.toNat t))) H')/\(¬ GG z.toNat m t -> ∀ C H',Nm K "NoGroups" C->zT H H'->E (.ref C) none H')
def KG (K:W.Frag):Sp:=fun vs H Q E=>∃ (l:List Nat) (b:Int),vs=[.str (T l),.int b]/\Asc l/\1<=l.length/\l.length<=240/\2<=b/\b<=16/\(j8 b l->Q (.int (val b l)) H)/\(¬ j8 b l -> ∀ C,Nm K "NoFigures" C->E (.ref C) none H)
def Vm (K:W.Frag):Sp:=fun vs H Q E=>∃ (t:List Nat) (p:Int) (pt:Nat),vs=[.str (T t),.int p,.str (T [pt])]/\0<=p/\p<=6/\t.length<=400/\(WE p.toNat pt t->Q (.int (jo p.toNat t).length) H)/\(¬ WE p.toNat pt t -> ∀ C,Nm K "NoBody" C->E (.ref C) none H)
def Kb (K:W.Frag):Sp:=fun vs H Q E=>∃ (t:List Nat) (b p z:Int) (pt m:Nat),vs=[.str (T t),.int b,.int p,.str (T [pt]),.int z,.str (T [m])]/\2<=b/\b<=16/\0<=p/\p<=6/\0<=z/\z<=9/\t.length<=400/\Asc t/\(IsB b p.toNat pt z.toNat m t -> ∀ H',zT H H'->Q (.int (zAf b p.toNat z.toNat t)) H')/\(¬ IsB b p.toNat pt z.toNat m t -> ∀ C H',Nm K "NoBody" C->zT H H'->E (.ref C) none H')
inductive Sm (H:Hp):V->String->Prop where
 | non:Sm H .non "NoneType"
 | bl (b:Bool):Sm H (.bl b) "bool"
 | int (i:Int):Sm H (.int i) "int"
 | str (x:Str):Sm H (.str x) "str"
 | lst {p:Addr} {xs:List V} (e:H p=some (.lst xs)):Sm H (.ref p) "list"
 | tup {p:Addr} {xs:List V} (e:H p=some (.tup xs)):Sm H (.ref p) "tuple"
theorem Sm.same {T:String} (h:Sm H v T) (g:zT H H'):Sm H' v T:=by
 cases h with
 | non=>exact .non
 | bl b=>exact .bl b
 | int i=>exact .int i
 | str x=>exact .str x
 | lst e=>exact .lst (g _ _ e)
 | tup e=>exact .tup (g _ _ e)
theorem Sm.ty {T:String} (h:Sm H v T):K0 K H v (.type T):=by
 cases h with
 | non=>exact .non
 | bl b=>exact .bl b
 | int i=>exact .int i
 | str x=>exact .str x
 | lst e=>exact .lst e
 | tup e=>exact .tup e
def NoI (H:Hp) (v:V) (T:String):Prop:=∃ T',Sm H v T'/\zK4 T' T=some false
theorem NoI.same {T:String} (h:NoI H v T) (g:zT H H'):NoI H' v T:=let ⟨T',s,k⟩:=h;⟨T',s.same g,k⟩
theorem zH3 {T:String} (h:NoI H v T) (q:Q (.bl false) H):zDR K [v,.ty T] H Q:=let ⟨_,s,k⟩:=h;kZ s.ty ⟨_,.inl rfl⟩ (kC K _ _ k) q
local macro_rules | `(tactic| walk_at "rdc")=>`(tactic| first | ((with_reducible refine' zH3 ?h ?_);(case h=>assumption)) | with_reducible refine W2 ?_ | fail "none")
def Zp (K:W.Frag):Sp:=fun vs H Q _=>(∃ i:Int,vs=[.int i]/\Q (.bl true) H)\/(∃ b,vs=[.bl b]/\Q (.bl false) H)
theorem zA2 (q:Q (.bl true) H):Zp K ([.int i]++[]) H Q E:=.inl ⟨i,rfl,q⟩
theorem zDt {b:Bool} (q:Q (.bl false) H):Zp K ([.bl b]++[]) H Q E:=.inr ⟨b,rfl,q⟩
def yg (K:W.Frag):Sp:=fun vs H Q _=>∃ a b:Int,vs=[.int a,.int b]/\Q (.int (Int.gcd a b)) H
theorem JQ (q:Q (.int (Int.gcd a b)) H):yg K ([.int a,.int b]++[]) H Q E:=⟨a,b,rfl,q⟩
local macro_rules | `(tactic| walk_at "rdc")=>`(tactic| (with_reducible refine zDt ?_))
local macro_rules | `(tactic| walk_at "rdc")=>`(tactic| (with_reducible refine zA2 ?_))
local macro_rules | `(tactic| walk_at "rdc")=>`(tactic| (with_reducible refine JQ ?_))
inductive NF (H:Hp):V->Prop where
 | no {v:V} (h:NoI H v "tuple"):NF H v
 | top {p:Addr} {b:Bool} {v:V} (e:H p=some (.tup [.bl b,v])):NF H (.ref p)
 | bad {p:Addr} {a b:Int} (e:H p=some (.tup [.int a,.int b])) (h:b < 1\/Int.gcd a b≠1):NF H (.ref p)
theorem NF.same (h:NF H v) (g:zT H H'):NF H' v:=by
 cases h with
 | no h=>exact .no (h.same g)
 | top e=>exact .top (g _ _ e)
 | bad e h=>exact .bad (g _ _ e) h
def yU (K:W.Frag):Sp:=fun vs H Q _=>(∃ (p:Addr) (a b:Int),vs=[.ref p]/\H p=some (.tup [.int a,.int b])/\1<=b/\Int.gcd a b=1/\Q (.bl true) H)\/(∃ v,vs=[v]/\NF H v/\Q (.bl false) H)
theorem VQ (e:H p=some (.tup [.int a,.int b])) (h1:1<=b) (h2:Int.gcd a b=1) (q:Q (.bl true) H):yU K ([.ref p]++[]) H Q E:=.inl ⟨p,a,b,rfl,e,h1,h2,q⟩
theorem Y5 (h:NF H v) (q:Q (.bl false) H):yU K ([v]++[]) H Q E:=.inr ⟨v,rfl,h,q⟩
local macro_rules | `(tactic| walk_at "rdc")=>`(tactic| ((with_reducible refine' VQ ?e ?h1 ?h2 ?_);(case e=>walk_at "hp");(case h1=>first | assumption | omega);(case h2=>assumption)))
local macro_rules | `(tactic| walk_at "rdc")=>`(tactic| ((with_reducible refine' Y5 ?h ?_);(case h=>assumption)))
def Xd (x:Str):Prop:=y4 x\/x = "inside"
structure kx (fg pl b:Int) (sn:Str) (z:Int) (m pt:Nat) (wy:Str) (wd:Int) (f:Nat) (x:Str):Prop where
 fg1:1<=fg
 fg2:fg<=12
 pl1:0<=pl
 pl2:pl<=6
 b1:2<=b
 b2:b<=16
 sn:xw sn
 z1:0<=z
 z2:z<=9
 m:m < 127
 pt:pt < 127
 wy:Way wy
 wd1:0<=wd
 wd2:wd<=40
 f:f < 127
 x:Xd x
def qm (fg pl b:Int) (sn:Str) (z:Int) (m pt:Nat) (wy:Str):List (Str × V):=[("figures", .int fg),("places", .int pl),("base", .int b),("sign", .str sn),("size", .int z),("mark", .str (T [m])),("point", .str (T [pt])),("way", .str wy)]
def nns:List Str:=["figures", "places", "base", "sign", "size", "mark", "point", "way"]
section
variable {H : Hp} {a C : Addr} {wd : Int} {f : Nat} {x : Str} {st : Bool} {fg pl b : Int} {sn : Str} {z : Int} {m pt : Nat} {wy : Str}
theorem zFj {g:Str} (h:g ∉ nns):(qm fg pl b sn z m pt wy).lookup g=none:=by
 simp only [nns,mem_cons,not_mem_nil,or_false,not_or] at h
 obtain ⟨h1,h2,h3,h4,h5,h6,h7,h8⟩:=h
 exact (qF h1).trans ((qF h2).trans ((qF h3).trans ((qF h4).trans ((qF h5).trans ((qF h6).trans ((qF h7).trans ((qF h8).trans rfl)))))))
theorem Qu {g:Str} (F:zV K H a C wd f x st (qm fg pl b sn z m pt wy)) (h:g ∉ bns) (l:(qm fg pl b sn z m pt wy).lookup g=some v) (n:g ∈ nns):xx K H a g v:=F.own h l n
theorem zBI (F:zV K H a C wd f x st (qm fg pl b sn z m pt wy)):xx K H a "figures" (.int fg):=Qu F (by decide +kernel) ZU (by decide +kernel)
theorem zBj (F:zV K H a C wd f x st (qm fg pl b sn z m pt wy)):xx K H a "places" (.int pl):=Qu F (by decide +kernel) ((qF (by decide +kernel)).trans ZU) (by decide +kernel)
theorem zG2 (F:zV K H a C wd f x st (qm fg pl b sn z m pt wy)):xx K H a "base" (.int b):=Qu F (by decide +kernel) ((qF (by decide +kernel)).trans ((qF (by decide +kernel)).trans ZU)) (by decide +kernel)
theorem zGc (F:zV K H a C wd f x st (qm fg pl b sn z m pt wy)):xx K H a "sign" (.str sn):=Qu F (by decide +kernel) ((qF (by decide +kernel)).trans ((qF (by decide +kernel)).trans ((qF (by decide +kernel)).trans ZU))) (by decide +kernel)
theorem zGH (F:zV K H a C wd f x st (qm fg pl b sn z m pt wy)):xx K H a "size" (.int z):=Qu F (by decide +kernel) ((qF (by decide +kernel)).trans ((qF (by decide +kernel)).trans ((qF (by decide +kernel)).trans ((qF (by decide +kernel)).trans ZU)))) (by decide +kernel)
theorem zG7 (F:zV K H a C wd f x st (qm fg pl b sn z m pt wy)):xx K H a "mark" (.str (T [m])):=Qu F (by decide +kernel) ((qF (by decide +kernel)).trans ((qF (by decide +kernel)).trans ((qF (by decide +kernel)).trans ((qF (by decide +kernel)).trans ((qF (by decide +kernel)).trans ZU))))) (by decide +kernel)
theorem zDx (F:zV K H a C wd f x st (qm fg pl b sn z m pt wy)):xx K H a "point" (.str (T [pt])):=Qu F (by decide +kernel) ((qF (by decide +kernel)).trans ((qF (by decide +kernel)).trans ((qF (by decide +kernel)).trans ((qF (by decide +kernel)).trans ((qF (by decide +kernel)).trans ((qF (by decide +kernel)).trans ZU)))))) (by decide +kernel)
theorem zJD (F:zV K H a C wd f x st (qm fg pl b sn z m pt wy)):xx K H a "way" (.str wy):=Qu F (by decide +kernel) ((qF (by decide +kernel)).trans ((qF (by decide +kernel)).trans ((qF (by decide +kernel)).trans ((qF (by decide +kernel)).trans ((qF (by decide +kernel)).trans ((qF (by decide +kernel)).trans ((qF (by decide +kernel)).trans ZU))))))) (by decide +kernel)
theorem WD {g:Str} (F:zV K H a C wd f x st (qm fg pl b sn z m pt wy)) (h0:g ∉ bns) (h1:g ∉ nns):zFU H a C g:=F.meth h0 (zFj h1)
end
local macro_rules | `(tactic| walk_at "fld2")=>`(tactic| first | (exact zBI (by walk_at "fm")) | (exact zBj (by walk_at "fm")) | (exact zG2 (by walk_at "fm")) | (exact zGc (by walk_at "fm")) | (exact zGH (by walk_at "fm")) | (exact zG7 (by walk_at "fm")) | (exact zDx (by walk_at "fm")) | (exact zJD (by walk_at "fm")))
local macro_rules | `(tactic| walk_at "ins")=>`(tactic| exact WD (by walk_at "fm") (by decide +kernel) (by decide +kernel))
def jA (K:W.Frag) (C:Addr):Sp:=fun vs H Q _=>∃ (a:Addr) (fg pl b:Int) (sn:Str) (z:Int) (m pt:Nat) (wy:Str) (wd:Int) (f:Nat) (x:Str) (st:Bool) (n:Int),vs=[.ref a,.int n]/\zV K H a C wd f x st (qm fg pl b sn z m pt wy)/\kx fg pl b sn z m pt wy wd f x/\Q (.bl (decide (b ^ (fg+pl).toNat<=n))) H
variable {C:Addr} {fg pl wd:Int} {sn wy:Str} {st:Bool}
theorem WK {a:Addr} {pt:Nat} {n:Int} (h1:zV K H a C wd f x st (qm fg pl b sn z m pt wy)) (h2:kx fg pl b sn z m pt wy wd f x) (q:Q (.bl (decide (b ^ (fg+pl).toNat<=n))) H):jA K C (.ref a::([.int n]++[])) H Q E:=⟨a,fg,pl,b,sn,z,m,pt,wy,wd,f,x,st,n,rfl,h1,h2,q⟩
local macro_rules | `(tactic| walk_at "rdc")=>`(tactic| ((with_reducible refine' WK ?h1 ?h2 ?_);(case h1=>walk_at "fm");(case h2=>assumption)))
def jM (pl b:Int) (sn:Str) (z:Int) (m pt:Nat) (k:Int):List Nat:=sg sn (decide (k < 0)) (bdI k.natAbs b pl pt z m)
def VG (fg pl b:Int) (k:Int):Prop:=k.natAbs < b.toNat ^ (fg+pl).toNat
def Isw (sg:List Nat) (lo hi:Int) (t:List Nat):Prop:=(lo<=t.length/\(t.length:Int)<=hi) /\ ∀ c ∈ t,c ∈ sg
instance (sg:List Nat) (lo hi:Int) (t:List Nat):Decidable (Isw sg lo hi t):=by unfold Isw;infer_instance
inductive Fd where
 | num (fg pl b:Int) (sn:Str) (z:Int) (m pt:Nat) (wy:Str)
 | word (sg:List Nat) (lo hi:Int)
 | cho (ns:Ce)
def NoM (H:Hp) (v:V) (M:List Nat->Prop):Prop:=NoI H v "str" \/ ∃ t,v = .str (T t)/\t.length<=400 /\ ¬ M t
inductive Co1 (H:Hp):Fd->V->List Nat × List Nat ⊕ Bool->Prop
 | num {p:Addr} {fg pl b:Int} {sn:Str} {z:Int} {m pt:Nat} {wy:Str} {u d k:Int} (hp:H p=some (.tup [.int u,.int d])) (gb:GrB u d) (gc:Int.gcd u d=1) (gk:zBU wy u d (b ^ pl.toNat)=k) (lim:VG fg pl b k):Co1 H (.num fg pl b sn z m pt wy) (.ref p) (.inl (jM pl b sn z m pt k,stL sn (decide (k < 0))))
 | great {p:Addr} {fg pl b:Int} {sn:Str} {z:Int} {m pt:Nat} {wy:Str} {u d:Int} (hp:H p=some (.tup [.int u,.int d])) (gb:GrB u d) (gc:Int.gcd u d=1) (lim : ¬ VG fg pl b (zBU wy u d (b ^ pl.toNat))):Co1 H (.num fg pl b sn z m pt wy) (.ref p) (.inr true)
 | nonum {v:V} {fg pl b:Int} {sn:Str} {z:Int} {m pt:Nat} {wy:Str} (nf:NF H v):Co1 H (.num fg pl b sn z m pt wy) v (.inr false)
 | word {sg:List Nat} {lo hi:Int} {t:List Nat} (h0:t.length<=400) (iw:Isw sg lo hi t):Co1 H (.word sg lo hi) (.str (T t)) (.inl (t,[]))
 | noword {sg:List Nat} {lo hi:Int} {v:V} (nt:NoM H v (Isw sg lo hi)):Co1 H (.word sg lo hi) v (.inr false)
 | cho {ns:Ce} {t:List Nat} (h0:t.length<=400) (hm:t ∈ ns):Co1 H (.cho ns) (.str (T t)) (.inl (t,[]))
 | nocho {ns:Ce} {v:V} (nt:NoM H v (· ∈ ns)):Co1 H (.cho ns) v (.inr false)
theorem NoM.same {M:List Nat->Prop} (h:NoM H v M) (g:zT H H'):NoM H' v M:=h.elim (fun h=>.inl (h.same g)) .inr
variable {r:List Nat × List Nat ⊕ Bool}
theorem Co1.same {d:Fd} (g:zT H H') (h:Co1 H d v r):Co1 H' d v r:=by
 cases h with
 | num hp gb gc gk lim=>exact .num (g.at hp) gb gc gk lim
 | great hp gb gc lim=>exact .great (g.at hp) gb gc lim
 | nonum nf=>exact .nonum (nf.same g)
 | word h0 iw=>exact .word h0 iw
 | noword nt=>exact .noword (nt.same g)
 | cho h0 hm=>exact .cho h0 hm
 | nocho nt=>exact .nocho (nt.same g)
def CoQ (cV cG:Addr) (Q:VK) (E:XK) (H:Hp):List Nat × List Nat ⊕ Bool->Prop
 | .inl p=>Q (.str (T p.1)) H
 | .inr g=>E (.ref (bif g then cG else cV)) none H
def yN (K:W.Frag) (C cV cG:Addr):Sp:=fun vs H Q E=>∃ (o:Addr) (v:V) (fg pl b:Int) (sn:Str) (z:Int) (m pt:Nat) (wy:Str) (wd:Int) (f:Nat) (x:Str) (st:Bool) (r:List Nat × List Nat ⊕ Bool),vs=[.ref o,v]/\zV K H o C wd f x st (qm fg pl b sn z m pt wy)/\kx fg pl b sn z m pt wy wd f x/\Co1 H (.num fg pl b sn z m pt wy) v r /\ ∀ H',zT H H'->CoQ cV cG Q E H' r
def xI (K:W.Frag):Sp:=fun vs H Q _=>∃ (a C:Addr) (wd:Int) (f:Nat) (x:Str) (st:Bool) (more:List (Str × V)) (t:List Nat),vs=[.ref a,.str (T t)]/\zV K H a C wd f x st more/\t.length<=400/\Q (.bl (st && decide (wd < t.length))) H
def xF (K:W.Frag):Sp:=fun vs H Q _=>∃ (a C l:Addr) (wd:Int) (f:Nat) (x:Str) (st:Bool) (more:List (Str × V)) (t:Ce),vs=[.ref a,.ref l]/\zV K H a C wd f x st more/\H l=some (.lst (tsV t))/\Q (.bl (st && decide (wd < t.length))) H
variable {more:List (Str × V)}
theorem YN {a:Addr} {t:List Nat} (h1:zV K H a C wd f x st more) (h2:t.length<=400) (q:Q (.bl (st && decide (wd < t.length))) H):xI K (.ref a::([.str (T t)]++[])) H Q E:=⟨a,C,wd,f,x,st,more,t,rfl,h1,h2,q⟩
local macro_rules | `(tactic| walk_at "rdc")=>`(tactic| ((with_reducible refine' YN ?h1 ?h2 ?_);(case h1=>walk_at "fm");(case h2=>omega)))
def kR (sg:List Nat) (lo hi:Int):List (Str × V):=[("signs", .str (T sg)),("least", .int lo),("most", .int hi)]
variable {lo hi:Int}
theorem zG1 {sg:List Nat} {m:Str} (h1:m ≠ "signs") (h2:m ≠ "least") (h3:m ≠ "most"):(kR sg lo hi).lookup m=none:=(qF h1).trans ((qF h2).trans ((qF h3).trans rfl))
section
variable {H : Hp} {a C : Addr} {wd : Int} {f : Nat} {x : Str} {st : Bool} {sg : List Nat} {lo hi : Int}
theorem zEP (F:zV K H a C wd f x st (kR sg lo hi)):xx K H a "signs" (.str (T sg)):=F.own (by decide +kernel) ZU (mem_cons_self ..)
theorem zEj (F:zV K H a C wd f x st (kR sg lo hi)):xx K H a "least" (.int lo):=F.own (by decide +kernel) ((qF (by decide +kernel)).trans ZU) (mem_cons_of_mem _ (mem_cons_self ..))
theorem zGj (F:zV K H a C wd f x st (kR sg lo hi)):xx K H a "most" (.int hi):=F.own (by decide +kernel) ((qF (by decide +kernel)).trans ((qF (by decide +kernel)).trans ZU)) (mem_cons_of_mem _ (mem_cons_of_mem _ (mem_cons_self ..)))
theorem WF {m:Str} (F:zV K H a C wd f x st (kR sg lo hi)) (h0:m ∉ bns) (h1:m ≠ "signs") (h2:m ≠ "least") (h3:m ≠ "most"):zFU H a C m:=F.meth h0 (zG1 h1 h2 h3)
end
local macro_rules | `(tactic| walk_at "fld2")=>`(tactic| first | (exact zEP (by walk_at "fm")) | (exact zEj (by walk_at "fm")) | (exact zGj (by walk_at "fm")))
local macro_rules | `(tactic| walk_at "ins")=>`(tactic| exact WF (by walk_at "fm") (by decide +kernel) (by decide +kernel) (by decide +kernel) (by decide +kernel))
include Z in
theorem xj:Has P w K mg base "_law_cell_at" 1 ["_law_script", "_law_k"] (Zg K):=by
 refine jm Z.kn Z.f0 (l2N (by intros;rfl)) fun fq fd F=>?_
 refine F.ok X0 (fun vs H Q E=>?_) (fun _ _ _ s H vs Q E hr h=>?_)
 ·walk_at "ln"
 obtain ⟨a,ns,k,rfl,hS,hk,q⟩:=h
 refine ⟨_,zC (zu (zQ Wm (pv 1) (zK qj Z.ao rfl qD (zA (pv 0) (zB))) (zS _)) (zG (zL (zX zp (pv 0) (pv 1) (fun _ _=>rfl)))) (zU))
  (zG (zL (zD))),?_⟩
 walk_at "st"
 walk_at "rd"
 ·rename_i hc
  rw [length_map] at hc
  exact xR hS hk (by rw [length_map];omega) fun x hx=>by
   obtain ⟨v,_,rfl⟩:=List.mem_map.mp (mem_of_getElem? hx)
   exact q v
 ·exact q 0
include Z in
theorem zN:Has P w K mg base "_law_pick" 1 ["_law_cell", "_law_salt", "_law_many"] (Zw K):=by
 refine jm Z.kn Z.f1 (l3N (by intros;rfl)) fun fq fd F=>?_
 refine F.ok yt (fun vs H Q E=>?_) (fun _ _ _ s H vs Q E hr h=>?_)
 ·walk_at "ln"
 obtain ⟨c,t,m,rfl,ht,hm,q⟩:=h
 refine ⟨_,zC (zu (PW.pt (yC (zQ kM (pv 0) (WI (k:=1000000000000000000) (by unfold zJj;decide) (by decide +kernel)) (zS _)) (xW (zQ kM (zP VJ (pv 0) (zP qi (zD) (pv 1))) (zD) (zS _))))) (zG (zL (zP qh (zP qh (zP VJ (pv 0) (zP qi (zD) (pv 1))) (zD)) (pv 2)))) (zU))
  (zC (zM (i:=3) yt.nd rfl (Or.inl rfl) (zP qh (zP zg (zP zg (zP qh (pv 0) (zD)) (zD)) (zP qi (zD) (pv 1))) (zD)))
  (zC (zM (i:=3) yt.nd rfl (Or.inl rfl) (zP qh (zP qi (pv 3) (pv 3)) (zD)))
  (zC (zM (i:=4) yt.nd rfl (Or.inl rfl) (zP qh (zP qi (zP zg (pv 3) (zD)) (zP zg (zP zg (zP jp (pv 3) (zD)) (zD)) (pv 1))) (zD)))
  (zG (zL (zP qh (zP jp (pv 4) (zD)) (pv 2))))))),?_⟩
 walk_at "st"
 have n0 : ∀ a:Int,0<=a % m/\a % m < m:=fun a=>⟨emod_nonneg _ (by omega),emod_lt_of_pos _ hm⟩
 unfold pk pkA at q
 walk_at "rd"
 ·rename_i c1 c2
  rw [if_pos ⟨c1,c2⟩] at q
  exact q (n0 _).1 (n0 _).2
 ·rename_i c1 c2
  rw [if_neg (fun y=>c2 y.2)] at q
  exact q (n0 _).1 (n0 _).2
 ·rename_i c1
  rw [if_neg (fun y=>c1 y.1)] at q
  exact q (n0 _).1 (n0 _).2
include Z in
theorem Z4:Has P w K mg base "pads_of" 1 ["length", "width", "side"] (Yk K):=by
 refine jm Z.kn Z.f2 (l3N (by intros;rfl)) fun fq fd F=>?_
 refine F.ok YL (fun vs H Q E=>?_) (fun _ _ _ s H vs Q E hr h=>?_)
 ·walk_at "ln"
 obtain ⟨n,w,x,rfl,hs,h0,hw,q⟩:=h
 refine ⟨_,zC (zM (i:=3) YL.nd rfl (Or.inl rfl) (zK (xm rfl) Z.au rfl YF (zA (zD) (zA (zP qt (pv 1) (pv 0)) (zB)))))
  (zC (zu (zQ qb (pv 2) (zd) (zS _)) (zG (zL (ji (zA (zD) (zA (pv 3) (zB)))))) (zU))
  (zC (zu (zQ qb (pv 2) (zd) (zS _)) (zG (zL (ji (zA (pv 3) (zA (zD) (zB)))))) (zU))
  (zG (zL (ji (zA (zP jp (pv 3) (zD)) (zA (zP qt (pv 3) (zP jp (pv 3) (zD))) (zB)))))))),?_⟩
 walk_at "st"
 have b:=QY n w h0 hw
 have e:pB x n w=lk n w - pA x n w:=rfl
 rcases hs with rfl | rfl | rfl
 ·rw [pAl] at q e
  walk_at "rd"
  rename_i k hk p' H' g' e'
  exact q _ _ g' (by rw [e',show k=pB "left" n w by omega])
 ·rw [pAr] at q e
  walk_at "rd"
  rename_i k hk p' H' g' e'
  exact q _ _ g' (by rw [e',show k=lk n w by omega,show pB "right" n w=0 by omega])
 ·rw [pAm] at q e
  walk_at "rd"
  rename_i k hk p' H' g' e'
  exact q _ _ g' (by rw [e',e,show k=lk n w by omega])
include Z in
theorem VS:Has P w K mg base "padded" 2 ["text", "width", "fill", "side"] (Vh K):=by
 refine jm Z.kn Z.f3 (l4N (by intros;rfl)) fun fq fd F=>?_
 refine F.ok Kf (fun vs H Q E=>?_) (fun _ _ _ s H vs Q E hr h=>?_)
 ·walk_at "ln"
 obtain ⟨t,w,f,x,rfl,hs,h0,hw,q⟩:=h
 refine ⟨_,zC (zM (i:=4) Kf.nd rfl (Or.inl rfl) (zF (Z4 Z) hr rfl (zA (zK zr Z.ao rfl qD (zA (pv 0) (zB))) (zA (pv 1) (zA (pv 3) (zB))))))
  (zG (zL (zP jH (zP jH (zP zDD (pv 2) (zX zi (pv 4) (zD) (fun _ _=>rfl))) (pv 0)) (zP zDD (pv 2) (zX zi (pv 4) (zD) (fun _ _=>rfl)))))),?_⟩
 walk_at "st"
 have b:=x4 (n:=t.length) hs (by omega) hw
 have b':=b
 obtain ⟨b1,b2,b3,_⟩:=b'
 have bl:=QY t.length w (by omega) hw
 walk_at "rd"
 exact q _ (by assumption)
local macro_rules | `(tactic| walk_at "rdc")=>`(tactic| ((with_reducible refine' zA8 ?h1 ?h2 ?h3 ?h4 ?_);(case h1|h2|h3|h4=>omega)))
local macro_rules | `(tactic| walk_at "rdc")=>`(tactic| ((with_reducible refine' zCw ?h1 ?h2 ?h3 ?_);(case h1=>assumption);(case h2|h3=>omega)))
local macro_rules | `(tactic| walk_at "rdc")=>`(tactic| ((with_reducible refine' zCQ ?h1 ?h2 ?h3 ?h4 ?h5 ?h6 ?h7 ?_);(case h1=>walk_at "hp");(case h2=>assumption);(case h3|h4|h5|h6=>omega);(case h7=>first | assumption | exact .inl rfl | exact .inr (.inl rfl) | exact .inr (.inr (.inl rfl)) | exact .inr (.inr (.inr (.inl rfl))) | exact .inr (.inr (.inr (.inr rfl))))))
include Z in
theorem Qn:Has P w K mg base "power_of" 1 ["base", "times"] (XD K):=by
 refine jm Z.kn Z.f4 (l2N (by intros;rfl)) fun fq fd F=>?_
 refine F.ok yy (fun vs H Q E=>?_) (fun _ _ _ s H vs Q E hr h=>?_)
 ·walk_at "ln"
 obtain ⟨b,t,rfl,h1,h2,h3,h4,q⟩:=h
 refine ⟨_,zC (zM (i:=2) yy.nd rfl (Or.inl rfl) (zD))
  (zC (kG PassesOwn.never rfl (jr rfl Z.ap (zA (pv 1) (zB))) (zj (i:=3) yy.nd rfl (Or.inl rfl)) (zG (zM (i:=2) yy.nd rfl (Or.inl rfl) (zP qi (pv 2) (pv 0)))))
  (zG (zL (pv 2)))),?_⟩
 walk_at "st"
 walk_at "rd"
 refine Qm (by omega) (by omega) (fun i σ H'=>H'=H /\ ∃ r,σ=[some (.int b),some (.int t),some (.int (b ^ i)),r]) ⟨rfl,none,by rw [Int.pow_zero];rfl⟩ ?_ ?_
 ·rintro i σ H' hi ⟨rfl,r,rfl⟩
  have z:=zJ2 (n:=i) h1 h2 (by omega)
  walk_at "rd"
  exact ⟨rfl,some (.int (0+i)),by rw [pow_succ];rfl⟩
 ·rintro σ H' ⟨rfl,r,rfl⟩
  walk_at "rd"
  exact q
include Z in
theorem zCc:Has P w K mg base "goes_up" 1 ["below", "rest", "bottom", "way"] (X7 K):=by
 refine jm Z.kn Z.f5 (l4N (by intros;rfl)) fun fq fd F=>?_
 refine F.ok zAr (fun vs H Q E=>?_) (fun _ _ _ s H vs Q E hr h=>?_)
 ·walk_at "ln"
 obtain ⟨be,re,bo,w,rfl,h1,h2,h3,q⟩:=h
 refine ⟨_,zC (zu (zQ qb (pv 3) (zd) (zS _)) (zG (zL (xE))) (zU))
  (zC (zu (zQ qb (pv 3) (zd) (zS _)) (zG (zL (xE))) (zU))
  (zC (zu (zQ qb (pv 3) (zd) (zS _)) (zG (zL (qY Wm (pv 0) (zD) (zS _)))) (zU))
  (zC (zu (zQ QH (zP qi (zD) (pv 1)) (pv 2) (zS _)) (zG (zL (qY kM (zP qi (zD) (pv 1)) (pv 2) (zS _)))) (zU))
  (zG (zL (zKA (qY qb (pv 3) (zd) (zS _)) (JF (qY qb (zP qh (pv 0) (zD)) (zD) (zS _))))))))),?_⟩
 walk_at "st"
 rcases h1 with rfl | rfl | rfl | rfl | rfl
 all_goals walk_at "rd"
 ·rw [zF9] at q;exact q
 ·rw [zKa] at q;exact q
 ·rw [zId] at q;exact q
 ·rw [zG0 (by assumption)] at q;exact q
 ·rw [zDm (by assumption)] at q;exact q
 ·rw [zHe (by assumption)] at q;exact q
 ·rw [zEc (by assumption)] at q;exact q
include Z in
theorem Kj:Has P w K mg base "gridded" 2 ["value", "base", "places", "way"] (YK K):=by
 refine jm Z.kn Z.f6 (l4N (by intros;rfl)) fun fq fd F=>?_
 refine F.ok ye (fun vs H Q E=>?_) (fun _ _ _ s H vs Q E hr h=>?_)
 ·walk_at "ln"
 obtain ⟨p,a,b,c,t,w,rfl,h1,⟨g1,g2,g3,g4⟩,h3,h4,h5,h6,h7,q⟩:=h
 refine ⟨_,zC (zM (i:=4) ye.nd rfl (Or.inl rfl) (zP qi (zX zi (pv 0) (zD) (fun _ _=>rfl)) (zF (Qn Z) hr rfl (zA (pv 1) (zA (pv 2) (zB))))))
  (zC (zM (i:=5) ye.nd rfl (Or.inl rfl) (zX zi (pv 0) (zD) (fun _ _=>rfl)))
  (zC (zM (i:=6) ye.nd rfl (Or.inl rfl) (zP jp (pv 4) (pv 5)))
  (zC (zM (i:=7) ye.nd rfl (Or.inl rfl) (zP qh (pv 4) (pv 5)))
  (zC (zu (PW.pt (yC (zQ kM (pv 7) (zD) (zS _)) (xW (qH (zF (zCc Z) hr rfl (zA (pv 6) (zA (pv 7) (zA (pv 5) (zA (pv 3) (zB)))))))))) (zG (zL (zP zg (pv 6) (zD)))) (zU))
  (zG (zL (pv 6))))))),?_⟩
 walk_at "st"
 have z:=pw6 (t:=t) h3 h4 h6
 have m:=zJQ (M:=16777217) g1 g2 (show 0 < c ^ t.toNat by omega) (by omega)
 have n:=zJ3 (a*c ^ t.toNat) g3
 unfold zBU at q
 walk_at "rd"
 ·rw [if_pos ⟨by assumption,by assumption⟩] at q;exact q
 ·rename_i hc1 hc2
  rw [if_neg (fun z=>by rw [hc2] at z;exact Bool.false_ne_true z.2)] at q;exact q
 ·rename_i hc1
  rw [if_neg (fun z=>hc1 z.1)] at q;exact q
include Z in
theorem Ki:Has P w K mg base "figures_of" 1 ["number", "base"] (QB K):=by
 refine jm Z.kn Z.f7 (l2N (by intros;rfl)) fun fq fd F=>?_
 refine F.ok jx (fun vs H Q E=>?_) (fun _ _ _ s H vs Q E hr h=>?_)
 ·walk_at "ln"
 obtain ⟨n,b,rfl,h1,h2,h3,h4,q⟩:=h
 refine ⟨_,zC (zM (i:=2) jx.nd rfl (Or.inl rfl) (zX x0 (qy rfl Z.aE (v:=.str "0123456789abcdef") ⟨_,rfl⟩) (zP qh (pv 0) (pv 1)) (fun _ _=>rfl)))
  (zC (zM (i:=3) jx.nd rfl (Or.inl rfl) (zP jp (pv 0) (pv 1)))
  (zC (QC PassesOwn.never (zQ kM (pv 3) (zD) (zS _)) (zC (zM (i:=2) jx.nd rfl (Or.inl rfl) (zP jH (zX x0 (qy rfl Z.aE (v:=.str "0123456789abcdef") ⟨_,rfl⟩) (zP qh (pv 3) (pv 1)) (fun _ _=>rfl)) (pv 2)))
  (zG (zM (i:=3) jx.nd rfl (Or.inl rfl) (zP jp (pv 3) (pv 1))))))
  (zG (zL (pv 2))))),?_⟩
 walk_at "st"
 obtain ⟨N,rfl⟩:=Int.eq_ofNat_of_zero_le h1
 obtain ⟨m,rfl⟩:=Int.eq_ofNat_of_zero_le (show 0<=b by omega)
 have hz:=zDa (b:=m) (n:=N) (by omega) (by omega)
 have em : ∀ k:Nat,(k:Int) % (m:Int)=((k % m:Nat):Int):=fun k=>(Int.natCast_emod k m).symm
 have ed : ∀ k:Nat,(k:Int) / (m:Int)=((k / m:Nat):Int):=fun k=>(Int.natCast_ediv k m).symm
 have lm : ∀ k:Nat,k % m < m:=fun k=>Nat.mod_lt k (by omega)
 have sp:=ZD (b:=m) (by omega) (by omega) N N (Nat.le_refl _)
 replace q:=q _ rfl (by simp only [toNat_natCast];exact sp.1) (by simp only [toNat_natCast];exact sp.2.1) (by simp only [toNat_natCast];exact List.length_pos_iff.mpr sp.2.2.1) (by simp only [toNat_natCast];exact hz) (by
  simp only [toNat_natCast];intro z;rw [sp.2.2.2 z,Zq (by omega)];decide +kernel)
 simp only [toNat_natCast] at q
 have l0:=lm N
 have e0:=em N
 walk_at "rd"
 rw [ed N,em N,toNat_natCast]
 refine XR (fun k σ H'=>H'=H /\ ∃ l:List Nat,σ=[some (.int N),some (.int m),some (.str (T l)),some (.int k)]/\ZL m N=if k=0 then l else ZL m k++l) ⟨N / m,rfl,[fc (N % m)],rfl,?_⟩ ?_
 ·have t:=Kv (b:=m) (m:=N) (by omega) []
  rw [append_nil] at t;exact t
 ·rintro k σ H' ⟨rfl,l,rfl,e⟩
  have lk:=lm k
  have ek:=em k
  have ll:l.length<=240:=by
   have z:=congrArg List.length e
   split at z
   ·omega
   ·rw [length_append] at z;omega
  walk_at "rd"
  ·rename_i hc
   refine ⟨k / m,Nat.div_lt_self (by omega) (by omega),rfl,fc (k % m)::l,?_,?_⟩
   ·rw [em k,ed k,toNat_natCast];rfl
   ·rw [<- Kv (by omega) l,e,if_neg (by omega)]
  ·rename_i hc
   rw [if_pos (by omega)] at e
   rw [<- e];exact q
include Z in
theorem Q3:Has P w K mg base "parts_of" 1 ["text", "size", "between"] (Z8 K):=by
 refine jm Z.kn Z.f8 (l3N (by intros;rfl)) fun fq fd F=>?_
 refine F.ok qw (fun vs H Q E=>?_) (fun _ _ _ s H vs Q E hr h=>?_)
 ·walk_at "ln"
 obtain ⟨a,z,g,rfl,h1,h2,h3,h4,h5,q⟩:=h
 refine ⟨_,zC (zM (i:=3) qw.nd rfl (Or.inl rfl) (zl (zB)))
  (zC (zM (i:=4) qw.nd rfl (Or.inl rfl) (zK zr Z.ao rfl qD (zA (pv 0) (zB))))
  (zC (QC PassesOwn.never (zQ kM (pv 4) (zD) (zS _)) (zC (jB (yz PySem.F.plainAttrs_list PySem.F.slot_list_append PySem.F.type_list_append xL (pv 3) (zA (zk jL (pv 0) (zm (zK (xm rfl) Z.au rfl YF (zA (zD) (zA (zP qt (pv 4) (pv 1)) (zB))))) (zm (pv 4))) (zB))))
  (zG (zM (i:=4) qw.nd rfl (Or.inl rfl) (zP qt (zP qt (pv 4) (pv 1)) (pv 2))))))
  (zC (jB (zFW PySem.F.plainAttrs_list PySem.F.slot_list_reverse PySem.F.type_list_reverse YY (pv 3)))
  (zG (zL (pv 3)))))),?_⟩
 walk_at "st"
 refine zHb (zHE (zFh (zHK (zGS (by decide) fun l hl=>?_))))
 walk_at "rd"
 refine XR (fun k σ H'=>∃ (e:Int) (ps:List (List Nat)),σ=[some (.str (T a)),some (.int z),some (.int g),some (.ref l),some (.int e)]/\H'=upd H l (.lst (ps.map fun l=>V.str (T l)))/\k=e.toNat/\ps.length+e.toNat<=a.length/\e<=a.length/\pcs a z.toNat g.toNat a.length=pcs a z.toNat g.toNat e.toNat++ps.reverse) ⟨_,a.length,[],rfl,rfl,rfl,by simp,Int.le_refl _,by simp⟩ ?_
 rintro k σ H' ⟨e,ps,rfl,rfl,rfl,b1,b2,ep⟩
 walk_at "rd"
 ·rename_i hc k' hk'
  refine Je zR (qK (by rw [length_map];omega)) ?_
  rw [jC]
  walk_at "rd"
  refine ⟨(e - z - g).toNat,by omega,e - z - g,ps++[(a.take e.toNat).drop k'.toNat],rfl,by rw [map_append];rfl,rfl,by rw [length_append,length_singleton];omega,by omega,?_⟩
  rw [ep,yS (by omega) (by omega),List.reverse_append,tns (by omega),tns (by omega),show k'.toNat=e.toNat - z.toNat by rw [<- tns (by omega)];omega]
  simp
 ·rename_i hc
  refine Kr zR ?_
  rw [jC]
  walk_at "rd"
  refine q _ _ (qM (zT.refl _) hl) ?_
  rw [zR,ep,show e.toNat=0 by omega,qU,nil_append,List.map_reverse]
include Z in
theorem Vn:Has P w K mg base "grouped" 2 ["text", "size", "mark"] (YC K):=by
 refine jm Z.kn Z.f9 (l3N (by intros;rfl)) fun fq fd F=>?_
 refine F.ok zAi (fun vs H Q E=>?_) (fun _ _ _ s H vs Q E hr h=>?_)
 ·walk_at "ln"
 obtain ⟨a,z,m,rfl,h1,h2,h5,q⟩:=h
 refine ⟨_,zC (zu (zQ qb (pv 1) (zD) (zS _)) (zG (zL (pv 0))) (zU))
  (zG (zL (yz PySem.F.plainAttrs_str PySem.F.slot_str_join PySem.F.type_str_join JX (pv 2) (zA (zF (Q3 Z) hr rfl (zA (pv 0) (zA (pv 1) (zA (zD) (zB))))) (zB))))),?_⟩
 walk_at "st"
 have bd:=fun hz:0 < z.toNat=>Wp (a:=a) (g:=0) hz a.length a.length (Nat.le_refl _)
 walk_at "rd"
 ·rename_i hc
  subst hc
  have q':=q _ (zT.refl _)
  rw [show Int.toNat 0=0 from rfl,ZI] at q'
  exact q'
 ·rename_i hc p' H' g' e'
  have b:=bd (by omega)
  refine VL e' (by rw [VP,length_singleton,show Int.toNat 0=0 from rfl];omega) ?_
  rw [VP,show Int.toNat 0=0 from rfl,zGK (by omega)]
  exact q _ g'
include Z in
theorem zB5:Has P w K mg base "body_of" 3 ["number", "base", "places", "point", "size", "mark"] (YU K):=by
 refine jm Z.kn Z.aT (l6N (by intros;rfl)) fun fq fd F=>?_
 refine F.ok ZO (fun vs H Q E=>?_) (fun _ _ _ s H vs Q E hr h=>?_)
 ·walk_at "ln"
 obtain ⟨n,b,p,z,pt,m,rfl,hn,h2,h3,q⟩:=h
 refine ⟨_,zC (zM (i:=6) ZO.nd rfl (Or.inl rfl) (yz PySem.F.plainAttrs_str PySem.F.slot_str_rjust PySem.F.type_str_rjust zBl (zF (Ki Z) hr rfl (zA (pv 0) (zA (pv 1) (zB)))) (zA (zP zg (pv 2) (zD)) (zA (xU (l:=[48]) (by decide +kernel)) (zB)))))
  (zC (zM (i:=7) ZO.nd rfl (Or.inl rfl) (zP qt (zK zr Z.ao rfl qD (zA (pv 6) (zB))) (pv 2)))
  (zC (zM (i:=8) ZO.nd rfl (Or.inl rfl) (zF (Vn Z) hr rfl (zA (zk jL (pv 6) (qG) (zm (pv 7))) (zA (pv 4) (zA (pv 5) (zB))))))
  (zC (zu (zQ qb (pv 2) (zD) (zS _)) (zG (zL (pv 8))) (zU))
  (zG (zL (zP jH (zP jH (pv 8) (pv 3)) (zk jL (pv 6) (zm (pv 7)) (qG)))))))),?_⟩
 walk_at "st"
 have big:=hn.big
 have hn':=hn
 obtain ⟨n1,n2,n3,n4,n5,n6⟩:=hn'
 have ds:=yD (b:=b.toNat) (p:=p.toNat) (n:=n.toNat) (by omega) (by omega) (by omega) n6
 have ws:=Jd (b:=b.toNat) (p:=p.toNat) (n:=n.toNat) (by omega) (by omega) (by omega) n6
 have gl:=zCB (z:=z.toNat) (m:=m) (a:=whl b.toNat p.toNat n.toNat)
 walk_at "rd"
 rename_i l el f1 f2 f3 f4 f5
 have ed:List.replicate ((p+1).toNat - l.length) 48++l=dgs b.toNat p.toNat n.toNat:=by
  rw [el];unfold dgs;rw [show (p+1).toNat=p.toNat+1 by omega]
 have ew:(dgs b.toNat p.toNat n.toNat).take (((dgs b.toNat p.toNat n.toNat).length:Int) - p).toNat=whl b.toNat p.toNat n.toNat:=by
  unfold whl;rw [show (((dgs b.toNat p.toNat n.toNat).length:Int) - p).toNat=(dgs b.toNat p.toNat n.toNat).length - p.toNat by omega]
 have er:(dgs b.toNat p.toNat n.toNat).drop (((dgs b.toNat p.toNat n.toNat).length:Int) - p).toNat=rst b.toNat p.toNat n.toNat:=by
  unfold rst;rw [show (((dgs b.toNat p.toNat n.toNat).length:Int) - p).toNat=(dgs b.toNat p.toNat n.toNat).length - p.toNat by omega]
 rw [ed]
 walk_at "rd"
 rw [ew]
 walk_at "rd"
 ·rename_i H1 g1 hc
  have e:bdI n b p pt z m=gr z.toNat m (whl b.toNat p.toNat n.toNat):=by unfold bdI bdy;rw [if_pos (by omega)]
  have q':=q _ g1
  rw [e] at q';exact q'
 ·rename_i H1 g1 hc
  have e:bdI n b p pt z m=gr z.toNat m (whl b.toNat p.toNat n.toNat)++[pt]++rst b.toNat p.toNat n.toNat:=by unfold bdI bdy;rw [if_neg (by omega)]
  have q':=q _ g1
  rw [e] at q'
  rw [er];first|exact q'|(rw [ew];exact q')
include Z in
theorem ZF:Has P w K mg base "ends_of" 1 ["style", "below"] (YT K):=by
 have sty:Sty w K xi:=Z.aI
 refine jm Z.kn Z.aU (l2N (by intros;rfl)) fun fq fd F=>?_
 refine F.ok zAn (fun vs H Q E=>?_) (fun _ _ _ s H vs Q E hr h=>?_)
 ·walk_at "ln"
 obtain ⟨x,b,rfl,hx,q⟩:=h
 refine ⟨_,zC (zu (qH (pv 1)) (zG (zL (zX zi (zX zJe (qy rfl Z.aF (v:=.ref xi) rfl) (pv 0) (fun _ _=>rfl)) (zD) (fun _ _=>rfl)))) (zU))
  (zG (zL (zX zi (zX zJe (qy rfl Z.aF (v:=.ref xi) rfl) (pv 0) (fun _ _=>rfl)) (zD) (fun _ _=>rfl)))),?_⟩
 walk_at "st"
 obtain ⟨p,a,c,kd,sq⟩:=sty x hx
 cases b with
 | true =>
  walk_at "rd"
  refine zJY kd ?_
  walk_at "rd"
  exact zGa (sq H).1 rfl (q _ (sq H).2.2)
 | false =>
  walk_at "rd"
  refine zJY kd ?_
  walk_at "rd"
  exact zGa (sq H).1 rfl (q _ (sq H).2.1)
include Z in
theorem Wv:Has P w K mg base "signed" 2 ["body", "style", "below"] (V9 K):=by
 refine jm Z.kn Z.aV (l3N (by intros;rfl)) fun fq fd F=>?_
 refine F.ok KC (fun vs H Q E=>?_) (fun _ _ _ s H vs Q E hr h=>?_)
 ·walk_at "ln"
 obtain ⟨l,x,b,rfl,hx,hl,q⟩:=h
 refine ⟨_,zC (zM (i:=3) KC.nd rfl (Or.inl rfl) (zF (ZF Z) hr rfl (zA (pv 1) (zA (pv 2) (zB)))))
  (zG (zL (zP jH (zP jH (zX zi (pv 3) (zD) (fun _ _=>rfl)) (pv 0)) (zX zi (pv 3) (zD) (fun _ _=>rfl))))),?_⟩
 walk_at "st"
 have ln:=JE hx b
 walk_at "rd"
 exact q
include Z in
theorem yd:Has P w K mg base "stands_between_figures" 1 ["body"] (jO K):=by
 refine jm Z.kn Z.aW (l1N (by intros;rfl)) fun fq fd F=>?_
 refine F.ok yP (fun vs H Q E=>?_) (fun _ _ _ s H vs Q E hr h=>?_)
 ·walk_at "ln"
 obtain ⟨l,rfl,al,hl,q1,q2⟩:=h
 refine ⟨_,zG (zL (Q8 (qY QH (pv 0) (xU (l:=[]) (by decide +kernel)) (zS _)) (Q8 (qY W5 (zX x0 (pv 0) (zD) (fun _ _=>rfl)) (qy rfl Z.aE (v:=.str "0123456789abcdef") ⟨_,rfl⟩) (by with_unfolding_all rfl)) (JF (qY W5 (zX x0 (pv 0) (zBO YI (zD)) (fun _ _=>rfl)) (qy rfl Z.aE (v:=.str "0123456789abcdef") ⟨_,rfl⟩) (by with_unfolding_all rfl)))))),?_⟩
 walk_at "st"
 unfold Fg at q1 q2
 rcases eq_zero_or_pos l.length with p | p
 ·have e:=List.eq_nil_of_length_eq_zero p
  subst e
  walk_at "rd"
  exact q2 fun z=>z.1 rfl
 ·have c0:=zAC al (i:=0) p
  have c1:=zAC al (i:=l.length - 1) (by omega)
  have ne:l≠[]:=List.length_pos_iff.mp p
  walk_at "rd"
  ·rename_i h1 h2
   by_cases h3:0<=fv (l.getD (l.length - 1) 0)
   ·rw [decide_eq_true h3];exact q1 ⟨ne,h2,h3⟩
   ·rw [decide_eq_false h3];exact q2 fun z=>h3 z.2.2
  ·rename_i h1 h2
   exact q2 fun z=>h2 z.2.1
  ·rename_i h1
   exact absurd h1 (by rw [decide_eq_false ne];decide)
include Z in
theorem YA:zHj P w K mg base "unsigned" 3 ["core", "style"] (XU K):=by
 have Yp:Nm K "NoCore" qg:=Z.cf
 refine jm Z.kn Z.aX (l2N (by intros;rfl)) fun fq fd F=>?_
 refine F.okX yu (fun vs H Q E=>?_) (fun _ _ _ s H vs Q E hr h tk=>?_)
 ·walk_at "ln"
 refine ⟨_,zC (kG PassesOwn.leaving rfl (zIS (ji (zA (xE) (zA (xE) (zB))))) (zj (i:=2) yu.nd rfl (Or.inl rfl)) (zC (zM (i:=3) yu.nd rfl (Or.inl rfl) (zF (ZF Z) hr rfl (zA (pv 1) (zA (pv 2) (zB)))))
  (zC (zM (i:=4) yu.nd rfl (Or.inl rfl) (zk jL (pv 0) (zm (zK zr Z.ao rfl qD (zA (zX zi (pv 3) (zD) (fun _ _=>rfl)) (zB)))) (zm (zP qt (zK zr Z.ao rfl qD (zA (pv 0) (zB))) (zK zr Z.ao rfl qD (zA (zX zi (pv 3) (zD) (fun _ _=>rfl)) (zB)))))))
  (zG (zu (PW.pt (yC (qH (zF (yd Z) hr rfl (zA (pv 4) (zB)))) (xW (zQ qb (zF (Wv Z) hr rfl (zA (pv 4) (zA (pv 1) (zA (pv 2) (zB))))) (pv 0) (zS _))))) (zG (zL (ji (zA (pv 2) (zA (pv 4) (zB)))))) (zU))))))
  (zG (jQ tk rfl Z.b7 rfl Z.af (zA (zd) (zB)))),?_⟩
 obtain ⟨t,x,rfl,hx,al,hl,q1,q2⟩:=h
 all_goals walk_at "st"
 have q2':=fun n0 n1 H' g=>q2 n0 n1 qg H' Yp g
 walk_at "rd"
 rename_i p0 H0 g0 e0
 refine zFz (SqT.of e0) (fun i σ H'=>H'=H0/\(1<=i -> ¬ Sgd x false t)/\(2<=i -> ¬ Sgd x true t) /\ ∃ r1 r2 r3:Option V,σ=[some (.str (T t)),some (.str x),r1,r2,r3]) ⟨rfl,fun z=>absurd z (by omega),fun z=>absurd z (by omega),none,none,none,rfl⟩ (fun i σ H' _ z=>by rw [z.1];exact SqT.of e0) ?_ ?_
 ·rintro i y σ H' hi ⟨rfl,n0,n1,r1,r2,r3,rfl⟩
  have hm:=mem_of_getElem? hi
  simp only [mem_cons,not_mem_nil,or_false] at hm
  have hy : ∃ b:Bool,y = .bl b/\(b=false↔i=0)/\(b=true↔i=1):=by
   match i,hi with
   | 0,hi=>cases hi;exact ⟨false,rfl,by simp,by simp⟩
   | 1,hi=>cases hi;exact ⟨true,rfl,by simp,by simp⟩
   | i+2,hi=>cases hi
  obtain ⟨b,rfl,hb0,hb1⟩:=hy
  have sl:=JE hx b
  have nxt : ¬ Sgd x b t->(1<=i+1 -> ¬ Sgd x false t)/\(2<=i+1 -> ¬ Sgd x true t):=fun h=>by
   cases b
   ·have:=hb0.mp rfl;subst this
    exact ⟨fun _=>h,fun z=>absurd z (by omega)⟩
   ·have:=hb1.mp rfl;subst this
    exact ⟨fun _=>n0 (by omega),fun _=>h⟩
  have ab:Asc (bod x b t):=zGG al
  have lb:=zG4 (x:=x) (b:=b) (t:=t)
  rcases eq_zero_or_pos t.length with tz | tz
  ·have e:=List.eq_nil_of_length_eq_zero tz
   subst e
   have nb : ¬ Sgd x b []:=fun z=>by
    have:=List.length_pos_iff.mpr z.1.1
    rw [lb] at this;simp at this
   have anil:Asc []:=Asc.nil
   walk_at "rd"
   ·rename_i fg _ _ _ _ _
    exact absurd rfl fg.1
   ·rename_i fg _
    exact absurd rfl fg.1
   ·exact ⟨rfl,(nxt nb).1,(nxt nb).2,_,_,_,rfl⟩
  ·have eb:(t.take ((t.length:Int) - (stT x b).length).toNat).drop ((stL x b).length:Int).toNat=bod x b t:=by
    unfold bod;rw [toNat_natCast,show ((t.length:Int) - (stT x b).length).toNat=t.length - (stT x b).length by omega]
   walk_at "rd"
   rw [eb]
   walk_at "rd"
   ·rename_i fg hc p1 H1 g1 e1
    exact q1 b ⟨fg,hc⟩ _ _ (g0.trans g1) e1
   ·rename_i fg hc
    have n:=nxt fun z=>hc z.2
    exact ⟨rfl,n.1,n.2,_,_,_,rfl⟩
   ·rename_i fg
    have n:=nxt fun z=>fg z.1
    exact ⟨rfl,n.1,n.2,_,_,_,rfl⟩
 ·rintro σ H' ⟨rfl,n0,n1,r1,r2,r3,rfl⟩
  walk_at "rd"
  exact ⟨small (by decide),q2' (n0 (by decide)) (n1 (by decide)) _ g0⟩
include Z in
theorem ZN:Has P w K mg base "is_whole" 1 ["thing"] (Zp K):=by
 refine jm Z.kn Z.aY (l1N (by intros;rfl)) fun fq fd F=>?_
 refine F.ok WG (fun vs H Q E h=>?_) (fun _ _ _ s H vs Q E hr h=>?_)
 ·obtain ⟨i,rfl,q⟩ | ⟨b,rfl,q⟩:=h
  all_goals rfl
 refine ⟨_,zG (zL (Q8 (zK jS Z.aq rfl zf (zA (pv 0) (zA (x3 rfl Z.aw zFa (v:=.ty "int") rfl) (zB)))) (JF (zFI (zK jS Z.aq rfl zf (zA (pv 0) (zA (x3 rfl Z.ax WS (v:=.ty "bool") rfl) (zB)))))))),?_⟩
 obtain ⟨i,rfl,q⟩ | ⟨b,rfl,q⟩:=h
 all_goals walk_at "st"
 ·walk_at "rd"
  exact q
 ·walk_at "rd"
  exact q
include Z in
theorem y3:Has P w K mg base "common_divisor" 1 ["one", "other"] (yg K):=by
 refine jm Z.kn Z.aZ (l2N (by intros;rfl)) fun fq fd F=>?_
 refine F.ok qP (fun vs H Q E=>?_) (fun _ _ _ s H vs Q E hr h=>?_)
 ·walk_at "ln"
 obtain ⟨a,b,rfl,q⟩:=h
 refine ⟨_,zC (zM (i:=2) qP.nd rfl (Or.inl rfl) (zK ki Z.ay rfl KA (zA (pv 0) (zB))))
  (zC (zM (i:=3) qP.nd rfl (Or.inl rfl) (zK ki Z.ay rfl KA (zA (pv 1) (zB))))
  (zC (QC PassesOwn.never (zQ QH (pv 3) (zD) (zS _)) (zC (zM (i:=4) qP.nd rfl (Or.inl rfl) (zP qh (pv 2) (pv 3)))
  (zC (zM (i:=2) qP.nd rfl (Or.inl rfl) (pv 3))
  (zG (zM (i:=3) qP.nd rfl (Or.inl rfl) (pv 4))))))
  (zG (zL (pv 2))))),?_⟩
 walk_at "st"
 walk_at "rd"
 rename_i k1 hk1 k2 hk2
 have ha:=zGW hk1 hk2
 refine XR (fun m σ H'=>H'=H /\ ∃ (g l:Int) (r:Option V),σ=[some (.int a),some (.int b),some (.int g),some (.int l),r]/\0<=g/\0<=l/\Int.gcd g l=Int.gcd a b/\m=l.toNat) ⟨_,rfl,_,_,_,rfl,ha.1,ha.2.1,ha.2.2,rfl⟩ ?_
 rintro m σ H' ⟨rfl,g,l,r,rfl,hg,hl,hgl,rfl⟩
 walk_at "rd"
 ·rename_i hc
  have:l=0:=by omega
  subst this
  have e:g=((Int.gcd a b:Nat):Int):=by rw [<- hgl];simp;omega
  rw [e];exact q
 ·rename_i hc
  have hc':0 < l:=by omega
  have h1:=emod_nonneg g (show l≠0 by omega)
  have h2:=emod_lt_of_pos g hc'
  exact ⟨_,by omega,rfl,_,_,_,rfl,by omega,h1,by rw [zDk hg hc'];exact hgl,rfl⟩
include Z in
theorem VE:Has P w K mg base "is_fraction" 2 ["thing"] (yU K):=by
 refine jm Z.kn Z.a0 (l1N (by intros;rfl)) fun fq fd F=>?_
 refine F.ok Xy (fun vs H Q E h=>?_) (fun _ _ _ s H vs Q E hr h=>?_)
 ·obtain ⟨p,a,b,rfl,e,h1,h2,q⟩ | ⟨v,rfl,h,q⟩:=h
  all_goals rfl
 refine ⟨_,zC (zu (PW.pt (Qf (qc (qH (zK jS Z.aq rfl zf (zA (pv 0) (zA (x3 rfl Z.aA zEM (v:=.ty "tuple") rfl) (zB)))))) (y7 (zQ QH (zK qj Z.ao rfl qD (zA (pv 0) (zB))) (zD) (zS _))))) (zG (zL (xE))) (zU))
  (zC (zu (PW.pt (Qf (qc (qH (zF (ZN Z) hr rfl (zA (zX zi (pv 0) (zD) (fun _ _=>rfl)) (zB))))) (y7 (qc (qH (zF (ZN Z) hr rfl (zA (zX zi (pv 0) (zD) (fun _ _=>rfl)) (zB)))))))) (zG (zL (xE))) (zU))
  (zG (zL (Q8 (qY zHa (zX zi (pv 0) (zD) (fun _ _=>rfl)) (zD) (zS _)) (JF (qY qb (zF (y3 Z) hr rfl (zA (zX zi (pv 0) (zD) (fun _ _=>rfl)) (zA (zX zi (pv 0) (zD) (fun _ _=>rfl)) (zB)))) (zD) (zS _))))))),?_⟩
 obtain ⟨p,a,b,rfl,e,h1,h2,q⟩ | ⟨v,rfl,h,q⟩:=h
 all_goals walk_at "st"
 ·walk_at "rd"
  rw [decide_eq_true (by omega)]
  exact q
 ·cases h
  all_goals walk_at "rd"
  all_goals first | exact q | exact K | (rw [decide_eq_false (by omega)];exact q)
include Z in
theorem Wd:zAj P w K mg base "ungrouped" 3 ["text", "size", "mark"] (Ve K):=by
 have Qo:Nm K "NoGroups" z9:=Z.cd
 refine jm Z.kn Z.a1 (l3N (by intros;rfl)) fun fq fd F=>?_
 refine F.okX2 Q6 (fun vs H Q E=>?_) (fun _ _ _ s H vs Q E hr h tk=>?_)
 ·walk_at "ln"
 refine ⟨_,zC (zM (i:=3) Q6.nd rfl (Or.inl rfl) (Y0 (zQ qb (pv 1) (zD) (zS _)) (pv 0) (yz PySem.F.plainAttrs_str PySem.F.slot_str_join PySem.F.type_str_join JX (xU (l:=[]) (by decide +kernel)) (zA (zF (Q3 Z) hr rfl (zA (pv 0) (zA (pv 1) (zA (zD) (zB))))) (zB)))))
  (zC (zu (PW.pt (Qf (qc (JY K7 K7 (zD) (zK zr Z.ao rfl qD (zA (pv 3) (zB))) (qy rfl Z.aG (v:=.int 40) ⟨_,rfl⟩))) (y7 (zQ QH (zF (Vn Z) hr rfl (zA (pv 3) (zA (pv 1) (zA (pv 2) (zB))))) (pv 0) (zS _))))) (zG (jQ tk rfl Z.b5 rfl Z.ad (zA (zd) (zB)))) (zU))
  (zG (zL (pv 3)))),?_⟩
 obtain ⟨t,z,m,rfl,h1,h2,h3,q1,q2⟩:=h
 all_goals walk_at "st"
 have lu:=zJg (z:=z.toNat) (t:=t)
 have q2':=fun b H' g=>q2 b z9 H' Qo g
 rcases Decidable.em (z=0) with hz | hz
 ·subst hz
  have e:ug (Int.toNat 0) t=t:=rfl
  have eg:gr (Int.toNat 0) m t=t:=ZI
  unfold GG at q1 q2'
  rw [e,eg] at q1 q2'
  walk_at "rd"
  ·exact q1 ⟨by omega,by omega,rfl⟩ _ (by assumption)
  all_goals exact ⟨small (by decide),q2' (fun z=>by have:=z.1;have:=z.2.1;omega) _ (zT.refl _)⟩
 ·have bd:=Wp (a:=t) (g:=1) (show 0 < z.toNat by omega) t.length t.length (Nat.le_refl _)
  walk_at "rd"
  rename_i p' H' g' e'
  refine VL e' (by rw [VP,length_nil,show Int.toNat 1=1 from rfl];omega) ?_
  rw [VP,zDH,show Int.toNat 1=1 from rfl,zIy (by omega)]
  walk_at "rd"
  ·exact q1 ⟨by omega,by omega,by assumption⟩ _ (by walk_at "sm")
  ·rename_i hc
   exact ⟨small (by decide),q2' (fun z=>hc z.2.2) _ (by walk_at "sm")⟩
  all_goals exact ⟨small (by decide),q2' (fun z=>by have:=z.1;have:=z.2.1;omega) _ (by walk_at "sm")⟩
include Z in
theorem Wg:zAj P w K mg base "number_of" 1 ["text", "base"] (KG K):=by
 have Zn:Nm K "NoFigures" zw:=Z.cc
 refine jm Z.kn Z.a2 (l2N (by intros;rfl)) fun fq fd F=>?_
 refine F.okX2 xM (fun vs H Q E=>?_) (fun _ _ _ s H vs Q E hr h tk=>?_)
 ·walk_at "ln"
 refine ⟨_,zC (zu (PW.pt (Qf (qc (qH (zK jS Z.aq rfl zf (zA (pv 0) (zA (x3 rfl Z.ar zAT (v:=.ty "str") rfl) (zB)))))) (y7 (qc (JY K7 K7 (zD) (zK zr Z.ao rfl qD (zA (pv 0) (zB))) (qy rfl Z.aH (v:=.int 240) ⟨_,rfl⟩)))))) (zG (jQ tk rfl Z.b4 rfl Z.ac (zA (zd) (zB)))) (zU))
  (zC (zM (i:=2) xM.nd rfl (Or.inl rfl) (zD))
  (zC (kG PassesOwn.leaving rfl (zCA (pv 0)) (zj (i:=3) xM.nd rfl (Or.inl rfl)) (zC (zM (i:=4) xM.nd rfl (Or.inl rfl) (yz PySem.F.plainAttrs_str PySem.F.slot_str_find PySem.F.type_str_find zDq (qy rfl Z.aE (v:=.str "0123456789abcdef") ⟨_,rfl⟩) (zA (pv 3) (zB))))
  (zC (zu (PW.pt (Qf (zQ Wm (pv 4) (zD) (zS _)) (y7 (zQ zHa (pv 4) (pv 1) (zS _))))) (zG (jQ tk rfl Z.b4 rfl Z.ac (zA (zd) (zB)))) (zU))
  (zG (zM (i:=2) xM.nd rfl (Or.inl rfl) (zP zg (zP qi (pv 2) (pv 1)) (pv 4)))))))
  (zG (zL (pv 2))))),?_⟩
 obtain ⟨l,b,rfl,al,h1,h2,h3,h4,q1,q2⟩:=h
 all_goals walk_at "st"
 have q2':=fun n=>q2 n zw Zn
 walk_at "rd"
 refine zGh (fun i σ H'=>H'=H/\j8 b (l.take i) /\ ∃ r1 r2:Option V,σ=[some (.str (T l)),some (.int b),some (.int (val b (l.take i))),r1,r2]) ⟨rfl,by rw [List.take_zero];exact fun _ z=>(nomatch z),none,none,rfl⟩ ?_ ?_
 ·rintro i c σ H' hi ⟨rfl,hf,r1,r2,rfl⟩
  have hm:=mem_of_getElem? hi
  have hc1:=al c hm
  walk_at "rd"
  ·exact ⟨small (by decide),q2' (fun z=>by have:=(z c hm).2.1;omega)⟩
  ·exact ⟨small (by decide),q2' (fun z=>by have:=(z c hm).2.2;omega)⟩
  ·refine ⟨rfl,hf.snoc hi hc1 (by omega) (by omega),some (.str (T [c])),some (.int (fv c)),?_⟩
   rw [take_succ,hi,show (some c).toList=[c] from rfl,QX];rfl
 ·rintro σ H' ⟨rfl,hf,r1,r2,rfl⟩
  rw [take_length] at hf
  walk_at "rd"
  rw [take_length];exact q1 hf
include Z in
theorem WJ:zHj P w K mg base "whole_end" 1 ["body", "places", "point"] (Vm K):=by
 have ZM:Nm K "NoBody" qS:=Z.ce
 refine jm Z.kn Z.a3 (l3N (by intros;rfl)) fun fq fd F=>?_
 refine F.okX Q0 (fun vs H Q E=>?_) (fun _ _ _ s H vs Q E hr h tk=>?_)
 ·walk_at "ln"
 refine ⟨_,zC (zu (zQ qb (pv 1) (zD) (zS _)) (zG (zL (zK zr Z.ao rfl qD (zA (pv 0) (zB))))) (zU))
  (zC (zM (i:=3) Q0.nd rfl (Or.inl rfl) (zP qt (zP qt (zK zr Z.ao rfl qD (zA (pv 0) (zB))) (pv 1)) (zD)))
  (zC (zu (PW.pt (Qf (zQ Wm (pv 3) (zD) (zS _)) (y7 (zQ QH (zX x0 (pv 0) (pv 3) (fun _ _=>rfl)) (pv 2) (zS _))))) (zG (jQ tk rfl Z.b6 rfl Z.ae (zA (zd) (zB)))) (zU))
  (zG (zL (pv 3))))),?_⟩
 obtain ⟨t,p,pt,rfl,h1,h2,h3,q1,q2⟩:=h
 all_goals walk_at "st"
 have q2':=fun n=>q2 n qS ZM
 walk_at "rd"
 ·rename_i hc
  subst hc
  exact q1 (.inl rfl)
 ·exact ⟨small (by decide),q2' (fun h=>h.elim (fun h=>by omega) fun h=>by have:=h.1;omega)⟩
 ·rename_i hc
  have e1:((t.length:Int) - p - 1).toNat=t.length - p.toNat - 1:=by omega
  rw [e1] at hc
  have e2:((jo p.toNat t).length:Int)=(t.length:Int) - p - 1:=by unfold jo;rw [if_neg (by omega),length_take];omega
  have q':=q1 (.inr ⟨by omega,by simpa using hc⟩)
  rw [e2] at q';exact q'
 ·rename_i hc
  have e1:((t.length:Int) - p - 1).toNat=t.length - p.toNat - 1:=by omega
  rw [e1] at hc
  exact ⟨small (by decide),q2' (fun h=>h.elim (fun h=>by omega) fun h=>hc (by rw [h.2]))⟩
include Z in
theorem WT:zHj P w K mg base "number_in" 4 ["body", "base", "places", "point", "size", "mark"] (Kb K):=by
 have Qo:Nm K "NoGroups" z9:=Z.cd
 have Zn:Nm K "NoFigures" zw:=Z.cc
 have ZM:Nm K "NoBody" qS:=Z.ce
 have xg:W.exmAny K (.ref z9) [.ref z9,.ref zw]=some true:=Z.xg
 have xf:W.exmAny K (.ref zw) [.ref z9,.ref zw]=some true:=Z.xf
 refine jm Z.kn Z.a4 (l6N (by intros;rfl)) fun fq fd F=>?_
 refine F.okX yM (fun vs H Q E=>?_) (fun _ _ _ s H vs Q E hr h tk=>?_)
 ·walk_at "ln"
 refine ⟨_,zC (zM (i:=6) yM.nd rfl (Or.inl rfl) (zEm (WJ Z) KP hr rfl (zA (pv 0) (zA (pv 2) (zA (pv 3) (zB))))))
  (zC (zF0 rfl rfl rfl Z.b6 zHf (fun _=>PassesOwnAt.leaving) rfl Z.ad rfl Z.ac rfl Z.ae (fun _ _ _=>zC (zM (i:=7) yM.nd rfl (Or.inl rfl) (Z5 (Wd Z) hr rfl (zA (zk jL (pv 0) (qG) (zm (pv 6))) (zA (pv 4) (zA (pv 5) (zB))))))
  (zG (zM (i:=8) yM.nd rfl (Or.inl rfl) (Z5 (Wg Z) hr rfl (zA (zP jH (pv 7) (zk jL (pv 0) (zm (zP zg (pv 6) (zD))) (qG))) (zA (pv 1) (zB))))))))
  (zC (zu (PW.pt (yC (zQ kM (zK zr Z.ao rfl qD (zA (pv 7) (zB))) (zD) (zS _)) (xW (zQ qb (zX x0 (pv 7) (zD) (fun _ _=>rfl)) (xU (l:=[48]) (by decide +kernel)) (zS _))))) (zG (jQ tk rfl Z.b6 rfl Z.ae (zA (zd) (zB)))) (zU))
  (zG (zL (pv 8))))),?_⟩
 obtain ⟨t,b,p,z,pt,m,rfl,h1,h2,h3,h4,h5,h6,h7,h8,q1,q2⟩:=h
 all_goals walk_at "st"
 have q2':=fun n H' g=>q2 n qS H' ZM g
 walk_at "rd"
 refine ⟨t,p,pt,rfl,h3,h4,h7,fun we=>?_,fun nw C nC=>?_⟩
 ·have t1:t.take ((jo p.toNat t).length:Int).toNat=jo p.toNat t:=by rw [toNat_natCast];exact zBN
  have t2:t.drop (((jo p.toNat t).length:Int)+1).toNat=Z7 p.toNat t:=by rw [show (((jo p.toNat t).length:Int)+1).toNat=(jo p.toNat t).length+1 by omega];exact zAX we
  have wl:=zBZ (p:=p.toNat) (t:=t)
  have rl:=Kd we
  have pa:=zDy (p:=p.toNat) (z:=z.toNat) h8
  walk_at "rd"
  refine zIn [some (.str (T t)),some (.int b),some (.int p),some (.str (T [pt])),some (.int z),some (.str (T [m])),some (.int (jo p.toNat t).length),none,none] ?_
  walk_at "rd"
  rw [t1]
  refine ⟨jo p.toNat t,z,m,rfl,h5,h6,by omega,fun gg H1 g1=>?_,fun ng C H1 nC g1=>?_⟩
  ·have g2:=gg.1;have g3:=gg.2.1
   walk_at "rd"
   rw [t2]
   walk_at "rd"
   refine ⟨_,b,rfl,pa,by rw [length_append];omega,by rw [length_append];omega,h1,h2,fun fb=>?_,fun nf C nC=>?_⟩
   ·walk_at "rd"
    ·rename_i c1 c2
     exact ⟨small (by decide),q2' (fun h=>h.2.2.2 ⟨by omega,by simpa using c2⟩) _ g1⟩
    ·rename_i c1 c2
     exact q1 ⟨we,gg,fb,fun h=>c2 (by rw [show Int.toNat 0=0 from rfl,h.2])⟩ _ g1
    ·rename_i c1
     exact q1 ⟨we,gg,fb,fun h=>c1 (by have:=h.1;omega)⟩ _ g1
   ·have:=Nm.eq nC Zn
    subst this
    exact ⟨_,rfl,xf,q2' (fun h=>nf h.2.2.1) _ g1⟩
  ·have:=Nm.eq nC Qo
   subst this
   exact ⟨_,rfl,xg,q2' (fun h=>ng h.2.1) _ g1⟩
 ·have:=Nm.eq nC ZM
  subst this
  exact q2' (fun h=>nw h.1) _ (zT.refl _)
def Ke (L:Addr):List (Str × V):=[("names", .ref L)]
def wns:List Str:=["signs", "least", "most"]
def cns:List Str:=["names"]
theorem zGz {L:Addr} {m:Str} (h1:m ≠ "names"):(Ke L).lookup m=none:=(qF h1).trans rfl
section
variable {H : Hp} {a C L : Addr} {wd : Int} {f : Nat} {x : Str} {st : Bool}
theorem zD2 (F:zV K H a C wd f x st (Ke L)):xx K H a "names" (.ref L):=F.own (by decide +kernel) ZU (mem_cons_self ..)
theorem Wj {m:Str} (F:zV K H a C wd f x st (Ke L)) (h0:m ∉ bns) (h1:m ≠ "names"):zFU H a C m:=F.meth h0 (zGz h1)
end
local macro_rules | `(tactic| walk_at "fld2")=>`(tactic| (exact zD2 (by walk_at "fm")))
local macro_rules | `(tactic| walk_at "ins")=>`(tactic| exact Wj (by walk_at "fm") (by decide +kernel) (by decide +kernel))
def JJ (K:W.Frag):Sp:=fun vs H Q _=>∃ (C a dx:Addr) (wd:Int) (f:Nat) (x:Str) (st:Bool),vs=[.ref a,.int wd,.str (T [f]),.str x,.bl st]/\Cls K C/\jG K C bns/\H a=some (.ins C dx [])/\Q .non (upd H a (.ins C dx (bfs wd f x st [])))
include Z in
theorem xy:zJt P w K mg base CX0 kW "__init__" 1 ["self", "width", "fill", "side", "strict"] (JJ K):=by
 refine zLW Z.a5 (l5N (by intros;rfl)) fun fq fd F=>?_
 refine F.ok JS (fun vs H Q E=>?_) (fun _ _ _ s H vs Q E hr h=>?_)
 ·walk_at "ln"
 obtain ⟨C,a,dx,wd,f,x,st,rfl,cl,na,e0,q⟩:=h
 refine ⟨_,zC (xa (pv 0) (pv 1) rfl)
  (zC (xa (pv 0) (pv 2) rfl)
  (zC (xa (pv 0) (pv 3) rfl)
  (zG (xa (pv 0) (pv 4) rfl)))),?_⟩
 walk_at "st"
 walk_at "rd"
 refine xh e0 cl (na.at (by decide +kernel)) (by decide) ?_
 rw [qd]
 walk_at "rd"
 refine xh zR cl (na.at (by decide +kernel)) (by show 1 < 1000;decide) ?_
 rw [jC,zh (by decide +kernel),qd]
 walk_at "rd"
 refine xh zR cl (na.at (by decide +kernel)) (by show 2 < 1000;decide) ?_
 rw [jC,zh (by decide +kernel),zh (by decide +kernel),qd]
 walk_at "rd"
 refine xh zR cl (na.at (by decide +kernel)) (by show 3 < 1000;decide) ?_
 rw [jC,zh (by decide +kernel),zh (by decide +kernel),zh (by decide +kernel),qd]
 walk_at "rd"
 exact q
def ZX (K:W.Frag) (C:Addr):Sp:=fun vs H Q _=>∃ (a dx:Addr) (sg:List Nat) (lo hi wd:Int) (f:Nat) (x:Str) (st:Bool),vs=[.ref a,.str (T sg),.int lo,.int hi,.int wd,.str (T [f]),.str x,.bl st]/\H a=some (.ins C dx [])/\Q .non (upd H a (.ins C dx (bfs wd f x st (kR sg lo hi))))
include Z in
theorem Zt:Gx P w K mg base CX0 "__init__" [zI] 2 ["self", "signs", "least", "most", "width", "fill", "side", "strict"] (ZX K zI):=by
 have cl:Cls K zI:=Z.cj
 have na:jG K zI (bns++wns):=Z.ck
 refine zFl Z.a6 (l4N fun _ _ _ _=>l8N fun _ _ _ _ _ _ _ _ _ _ _ _ _ _ _=>⟨_,rfl,rfl⟩) fun fq fd F=>?_
 refine F.ok ZZ (fun vs H Q E=>?_) (fun _ _ _ s H vs Q E hr h=>?_)
 ·walk_at "ln"
 obtain ⟨a,dx,sg,lo,hi,wd,f,x,st,rfl,e0,q⟩:=h
 refine ⟨_,zC (jB (XI (xy Z) qu hr rfl Z.ak (zA (pv 0) (zA (pv 4) (zA (pv 5) (zA (pv 6) (zA (pv 7) (zB))))))))
  (zC (xa (pv 0) (pv 1) rfl)
  (zC (xa (pv 0) (pv 2) rfl)
  (zG (xa (pv 0) (pv 3) rfl)))),?_⟩
 walk_at "st"
 have na0:jG K zI bns:=⟨na.1,na.2.1,na.2.2.1,na.2.2.2.1,trivial⟩
 walk_at "rd"
 refine ⟨zI,a,dx,wd,f,x,st,rfl,cl,na0,e0,?_⟩
 walk_at "rd"
 refine xh zR cl (na.at (by decide +kernel)) (by show 4 < 1000;decide) ?_
 rw [jC,xP (by decide +kernel),qd]
 walk_at "rd"
 refine xh zR cl (na.at (by decide +kernel)) (by show 5 < 1000;decide) ?_
 rw [jC,xP (by decide +kernel),zh (by decide +kernel),qd]
 walk_at "rd"
 refine xh zR cl (na.at (by decide +kernel)) (by show 6 < 1000;decide) ?_
 rw [jC,xP (by decide +kernel),zh (by decide +kernel),zh (by decide +kernel),qd]
 walk_at "rd"
 exact q
def kN (K:W.Frag) (C:Addr):Sp:=fun vs H Q _=>∃ (a dx p:Addr) (ns:List (List Nat)) (wd:Int) (f:Nat) (x:Str) (st:Bool),vs=[.ref a,.ref p,.int wd,.str (T [f]),.str x,.bl st]/\H a=some (.ins C dx [])/\H p=some (.lst (tsV ns)) /\
 ∀ L H',SB a H H'->H L=none->H' L=some (.lst (tsV ns))->H' a=some (.ins C dx (bfs wd f x st (Ke L)))->Q .non H'
include Z in
theorem ky:Gx P w K mg base CX0 "__init__" [zJ] 2 ["self", "names", "width", "fill", "side", "strict"] (kN K zJ):=by
 have cl:Cls K zJ:=Z.cm
 have na:jG K zJ (bns++cns):=Z.cn
 refine zFl Z.a7 (l4N fun _ _ _ _=>l6N fun _ _ _ _ _ _ _ _ _ _ _ _ _=>⟨_,rfl,rfl⟩) fun fq fd F=>?_
 refine F.ok kO (fun vs H Q E=>?_) (fun _ _ _ s H vs Q E hr h=>?_)
 ·walk_at "ln"
 obtain ⟨a,dx,p,ns,wd,f,x,st,rfl,e0,hp,q⟩:=h
 refine ⟨_,zC (jB (XI (xy Z) qu hr rfl Z.ak (zA (pv 0) (zA (pv 2) (zA (pv 3) (zA (pv 4) (zA (pv 5) (zB))))))))
  (zG (xa (pv 0) (kr Jm rfl Z.az J9 (zA (pv 1) (zB))) rfl)),?_⟩
 walk_at "st"
 have na0:jG K zJ bns:=⟨na.1,na.2.1,na.2.2.1,na.2.2.2.1,trivial⟩
 walk_at "rd"
 refine ⟨zJ,a,dx,wd,f,x,st,rfl,cl,na0,e0,?_⟩
 walk_at "rd"
 have nap:p≠a:=fun z=>by rw [z,e0] at hp;cases hp
 refine Wu (SqL.of (show upd H a (.ins zJ dx (bfs wd f x st [])) p=some (.lst (tsV ns)) by rw [qB nap];exact hp)) fun l H1 g1 n1 e1=>?_
 have nla:l≠a:=fun z=>by rw [z,zR] at n1;cases n1
 rw [qB nla] at n1
 walk_at "rd"
 refine xh (g1.at zR) cl (na.at (by decide +kernel)) (by show 4 < 1000;decide) ?_
 rw [xP (by decide +kernel),qd]
 walk_at "rd"
 refine q l _ (fun b o hb e=>?_) n1 (by rw [qB nla];exact e1) zR
 rw [qB hb]
 exact g1.at (by rw [qB hb];exact e)
def kK (K:W.Frag) (C:Addr):Sp:=fun vs H Q _=>∃ (a dx:Addr) (fg pl b:Int) (sn:Str) (z:Int) (m pt:Nat) (wy:Str) (wd:Int) (f:Nat) (x:Str) (st:Bool),vs=[.ref a,.int fg,.int pl,.int b,.str sn,.int z,.str (T [m]),.str (T [pt]),.str wy,.int wd,.str (T [f]),.str x,.bl st]/\H a=some (.ins C dx [])/\Q .non (upd H a (.ins C dx (bfs wd f x st (qm fg pl b sn z m pt wy))))
include Z in
theorem kg:Gx P w K mg base CX0 "__init__" [zE] 2 ["self", "figures", "places", "base", "sign", "size", "mark", "point", "way", "width", "fill", "side", "strict"] (kK K zE):=by
 have cl:Cls K zE:=Z.cg
 have na:jG K zE (bns++nns):=Z.ch
 refine zFl Z.a8 (zLE fun _ _ _ _ _ _ _ _ _ _=>zLb fun _ _ _ _ _ _ _ _ _ _ _ _ _ _ _ _ _ _ _ _=>⟨_,rfl,rfl⟩) fun fq fd F=>?_
 refine F.ok kI (fun vs H Q E=>?_) (fun _ _ _ s H vs Q E hr h=>?_)
 ·walk_at "ln"
 obtain ⟨a,dx,fg,pl,b,sn,z,m,pt,wy,wd,f,x,st,rfl,e0,q⟩:=h
 refine ⟨_,zC (jB (XI (xy Z) qu hr rfl Z.ak (zA (pv 0) (zA (pv 9) (zA (pv 10) (zA (pv 11) (zA (pv 12) (zB))))))))
  (zC (xa (pv 0) (pv 1) rfl)
  (zC (xa (pv 0) (pv 2) rfl)
  (zC (xa (pv 0) (pv 3) rfl)
  (zC (xa (pv 0) (pv 4) rfl)
  (zC (xa (pv 0) (pv 5) rfl)
  (zC (xa (pv 0) (pv 6) rfl)
  (zC (xa (pv 0) (pv 7) rfl)
  (zG (xa (pv 0) (pv 8) rfl))))))))),?_⟩
 walk_at "st"
 walk_at "rd"
 refine ⟨zE,a,dx,wd,f,x,st,rfl,cl,⟨na.1,na.2.1,na.2.2.1,na.2.2.2.1,trivial⟩,e0,?_⟩
 walk_at "rd"
 refine xh zR cl (na.at (by decide +kernel)) (by show 4 < 1000;decide) ?_
 rw [jC,xP (by decide +kernel),qd]
 walk_at "rd"
 refine xh zR cl (na.at (by decide +kernel)) (by show 5 < 1000;decide) ?_
 rw [jC,xP (by decide +kernel),zh (by decide +kernel),qd]
 walk_at "rd"
 refine xh zR cl (na.at (by decide +kernel)) (by show 6 < 1000;decide) ?_
 rw [jC,xP (by decide +kernel),zh (by decide +kernel),zh (by decide +kernel),qd]
 walk_at "rd"
 refine xh zR cl (na.at (by decide +kernel)) (by show 7 < 1000;decide) ?_
 rw [jC,xP (by decide +kernel),zh (by decide +kernel),zh (by decide +kernel),zh (by decide +kernel),qd]
 walk_at "rd"
 refine xh zR cl (na.at (by decide +kernel)) (by show 8 < 1000;decide) ?_
 rw [jC,xP (by decide +kernel),zh (by decide +kernel),zh (by decide +kernel),zh (by decide +kernel),zh (by decide +kernel),qd]
 walk_at "rd"
 refine xh zR cl (na.at (by decide +kernel)) (by show 9 < 1000;decide) ?_
 rw [jC,xP (by decide +kernel),zh (by decide +kernel),zh (by decide +kernel),zh (by decide +kernel),zh (by decide +kernel),zh (by decide +kernel),qd]
 walk_at "rd"
 refine xh zR cl (na.at (by decide +kernel)) (by show 10 < 1000;decide) ?_
 rw [jC,xP (by decide +kernel),zh (by decide +kernel),zh (by decide +kernel),zh (by decide +kernel),zh (by decide +kernel),zh (by decide +kernel),zh (by decide +kernel),qd]
 walk_at "rd"
 refine xh zR cl (na.at (by decide +kernel)) (by show 11 < 1000;decide) ?_
 rw [jC,xP (by decide +kernel),zh (by decide +kernel),zh (by decide +kernel),zh (by decide +kernel),zh (by decide +kernel),zh (by decide +kernel),zh (by decide +kernel),zh (by decide +kernel),qd]
 walk_at "rd"
 exact q
include Z in
theorem jJ:Gx P w K mg base CX0 "is_too_great" [zE] 2 ["self", "number"] (jA K zE):=by
 refine KI Z.a9 (l2N (by intros;rfl)) fun fq fd F=>?_
 refine F.ok x6 (fun vs H Q E=>?_) (fun _ _ _ s H vs Q E hr h=>?_)
 ·walk_at "ln"
 obtain ⟨a,fg,pl,b,sn,z,m,pt,wy,wd,f,x,st,n,rfl,F0,ok,q⟩:=h
 refine ⟨_,zG (zL (qY zHa (pv 1) (zF (Qn Z) hr rfl (zA (ze (pv 0) rfl) (zA (zP zg (ze (pv 0) rfl) (ze (pv 0) rfl)) (zB)))) (zS _))),?_⟩
 walk_at "st"
 have o1:=ok.fg1;have o2:=ok.fg2;have o3:=ok.pl1;have o4:=ok.pl2;have o5:=ok.b1;have o6:=ok.b2
 walk_at "rd"
 exact q
theorem Jg {pt:Nat} (ok:kx fg pl b sn z m pt wy wd f x) (h:k.natAbs < b.toNat ^ (fg+pl).toNat):zHi k.natAbs b pl/\Sgd sn (decide (k < 0)) (jM pl b sn z m pt k)/\Asc (jM pl b sn z m pt k)/\(jM pl b sn z m pt k).length<=400:=by
 have o1:=ok.fg1;have o2:=ok.fg2;have o3:=ok.pl1;have o4:=ok.pl2;have o5:=ok.b1;have o6:=ok.b2
 have e1:b.toNat ^ (fg+pl).toNat<=b.toNat ^ (40+pl.toNat):=pow_le_pow_right (by omega) (by omega)
 have nb:zHi k.natAbs b pl:=⟨by omega,o5,o6,o3,o4,by omega⟩
 have bs:=JV (z:=z.toNat) (b:=b.toNat) (p:=pl.toNat) (n:=(k.natAbs:Int).toNat) (by omega) (by omega) (by omega) nb.2.2.2.2.2 ok.pt ok.m
 have e:bod sn (decide (k < 0)) (jM pl b sn z m pt k)=bdI k.natAbs b pl pt z m:=zDJ
 have sl:=zFD ok.sn (decide (k < 0)) (bdI k.natAbs b pl pt z m)
 have sa:=Kt ok.sn (decide (k < 0))
 refine ⟨nb,⟨by rw [e];exact bs.1,by rw [e];rfl⟩,(sa.1.app bs.2.1).app sa.2,?_⟩
 have:=bs.2.2
 unfold jM
 unfold bdI at sl ⊢
 omega
include Z in
theorem yh:Gx P w K mg base (X2 P w) "core" [zE] 4 ["self", "value"] (yN K zE zY zW):=by
 refine KI Z.ba (l2N (by intros;rfl)) fun fq fd F=>?_
 refine F.okX2 jt (fun vs H Q E=>?_) (fun _ _ _ s H vs Q E hr h tk pp=>?_)
 ·walk_at "ln"
 refine ⟨_,zC (zu (qc (qH (zF (VE Z) hr rfl (zA (pv 1) (zB))))) (zG (jQ tk rfl Z.b8 rfl Z.ag (zA (zd) (zB)))) (zU))
  (zC (zM (i:=2) jt.nd rfl (Or.inl rfl) (zF (Kj Z) hr rfl (zA (pv 1) (zA (ze (pv 0) rfl) (zA (ze (pv 0) rfl) (zA (ze (pv 0) rfl) (zB)))))))
  (zC (zu (qH (zc (ym (jJ Z) in0) Z.cg qu hr (pv 0) (zA (zK ki Z.ay rfl KA (zA (pv 2) (zB))) (zB)))) (zG (jQ tk rfl Z.b9 rfl Z.ah (zA (zd) (zB)))) (zU))
  (zC (zM (i:=3) jt.nd rfl (Or.inl rfl) (zF (zB5 Z) hr rfl (zA (zK ki Z.ay rfl KA (zA (pv 2) (zB))) (zA (ze (pv 0) rfl) (zA (ze (pv 0) rfl) (zA (ze (pv 0) rfl) (zA (ze (pv 0) rfl) (zA (ze (pv 0) rfl) (zB)))))))))
  (zG (zL (zF (Wv Z) hr rfl (zA (pv 3) (zA (ze (pv 0) rfl) (zA (qY Wm (pv 2) (zD) (zS _)) (zB)))))))))),?_⟩
 obtain ⟨o,w,fg,pl,b,sn,z,m,pt,wy,wd,f,x,st,r,rfl,F0,ok,C0,q⟩:=h
 all_goals walk_at "st"
 have o1:=ok.fg1;have o2:=ok.fg2;have o3:=ok.pl1;have o4:=ok.pl2;have o5:=ok.b1;have o6:=ok.b2;have o7:=ok.sn;have o8:=ok.wy;have o9:=ok.z1;have o10:=ok.z2
 have pw:((b.toNat ^ (fg+pl).toNat:Nat):Int)=b ^ (fg+pl).toNat:=by rw [Int.natCast_pow,Int.toNat_of_nonneg (by omega)]
 cases C0 with
 | @num p _ _ _ _ _ _ _ _ u v k hp gr gc gk lim =>
  have g3:=gr.2.2.1
  have hlt:k.natAbs < b.toNat ^ (fg+pl).toNat:=lim
  obtain ⟨nb,n2,n3,n4⟩:=Jg ok hlt
  have q : ∀ H',zT H H'->Q (.str (T (jM pl b sn z m pt k))) H':=q
  unfold jM at q n4
  have sl:=zFD o7 (decide (k < 0)) (bdI k.natAbs b pl pt z m)
  subst gk
  walk_at "rd"
  rename_i k1 hk1 k0 hk0
  have hk:k0=((zBU wy u v (b ^ pl.toNat)).natAbs:Int):=by omega
  subst hk
  clear hk1 hk0
  generalize zBU wy u v (b ^ pl.toNat)=kk at *
  refine Vw nb o9 o10 fun H1 g1=>?_
  have F1:=F0.same g1
  walk_at "rd"
  exact q _ g1
 | @great p _ _ _ _ _ _ _ _ u v hp gr gc lim =>
  have g3:=gr.2.2.1
  have hlt : ¬ (zBU wy u v (b ^ pl.toNat)).natAbs < b.toNat ^ (fg+pl).toNat:=lim
  walk_at "rd"
  exact ⟨small (by decide),q _ (zT.refl _)⟩
 | nonum nf =>
  walk_at "rd"
  exact ⟨small (by decide),q _ (zT.refl _)⟩
include Z in
theorem zv:Gx P w K mg base CX0 "is_too_wide" [zE,zI,zJ] 1 ["self", "core"] (xI K):=by
 refine KI Z.bb (l2N (by intros;rfl)) fun fq fd F=>?_
 refine F.ok xu (fun vs H Q E=>?_) (fun _ _ _ s H vs Q E hr h=>?_)
 ·walk_at "ln"
 obtain ⟨a,C,wd,f,x,st,more,t,rfl,F0,h0,q⟩:=h
 refine ⟨_,zG (zL (Q8 (ze (pv 0) rfl) (JF (qY kM (zK zr Z.ao rfl qD (zA (pv 1) (zB))) (ze (pv 0) rfl) (zS _))))),?_⟩
 walk_at "st"
 walk_at "rd"
 ·rename_i hc;rw [hc] at q;exact q
 ·rename_i hc;rw [hc] at q;exact q
def kD (K:W.Frag):Sp:=fun vs H Q _=>∃ (l t:List Nat) (w:Int) (f:Nat),vs=[.str (T l),.str (T t),.int w,.str (T [f])]/\l.length<=400/\t.length<=400/\w<=40 /\ ∀ H',zT H H'->Q (.str (T (l++pad t (w - l.length) f "right"))) H'
theorem J4 {l t:List Nat} {w:Int} (h1:l.length<=400) (h2:t.length<=400) (h3:w<=40) (q : ∀ H',zT H H'->Q (.str (T (l++pad t (w - l.length) f "right"))) H'):kD K ([.str (T l),.str (T t),.int w,.str (T [f])]++[]) H Q E:=⟨l,t,w,f,rfl,h1,h2,h3,q⟩
local macro_rules | `(tactic| walk_at "rdc")=>`(tactic| ((with_reducible refine' J4 ?h1 ?h2 ?h3 ?_);(case h1|h2=>walk_at "tl");(case h3=>omega);intro H' g'))
def xN (K:W.Frag) (C:Addr):Sp:=fun vs H Q _=>∃ (a:Addr) (fg pl b:Int) (sn:Str) (z:Int) (m pt:Nat) (wy:Str) (wd:Int) (f:Nat) (x:Str) (st:Bool) (t:List Nat) (bl:Bool),vs=[.ref a,.str (T t)]/\zV K H a C wd f x st (qm fg pl b sn z m pt wy)/\xw sn/\Asc t/\t.length<=400/\Sgd sn bl t /\ ∀ H',zT H H'->Q (.str (T (stL sn bl))) H'
variable {bl:Bool}
theorem zCm {a:Addr} {pt:Nat} {t:List Nat} (h1:zV K H a C wd f x st (qm fg pl b sn z m pt wy)) (h2:xw sn) (h3:Asc t) (h4:t.length<=400) (h5:Sgd sn bl t) (q : ∀ H',zT H H'->Q (.str (T (stL sn bl))) H'):xN K C (.ref a::([.str (T t)]++[])) H Q E:=⟨a,fg,pl,b,sn,z,m,pt,wy,wd,f,x,st,t,bl,rfl,h1,h2,h3,h4,h5,q⟩
def Jw (ld t:List Nat) (wd:Int) (f:Nat) (x:Str):List Nat:=if x = "inside" then ld++pad (t.drop ld.length) (wd - ld.length) f "right" else pad t wd f x
include Z in
theorem XY:Has P w K mg base "padded_inside" 3 ["lead", "rest", "width", "fill"] (kD K):=by
 refine jm Z.kn Z.bc (l4N (by intros;rfl)) fun fq fd F=>?_
 refine F.ok JM (fun vs H Q E=>?_) (fun _ _ _ s H vs Q E hr h=>?_)
 ·walk_at "ln"
 obtain ⟨l,t,w,f,rfl,h1,h2,h3,q⟩:=h
 refine ⟨_,zG (zL (zP jH (pv 0) (zF (VS Z) hr rfl (zA (pv 1) (zA (zP qt (pv 2) (zK zr Z.ao rfl qD (zA (pv 0) (zB)))) (zA (pv 3) (zA (zd) (zB)))))))),?_⟩
 walk_at "st"
 have pl:=Xa (f:=f) (x4 (x:="right") (n:=t.length) (w:=w - l.length) (.inr (.inl rfl)) (by omega) (by omega))
 have b2:=QY t.length (w - l.length) (by omega) (by omega)
 walk_at "rd"
 exact q _ (by assumption)
include Z in
theorem ZW:Gx P w K mg base CX0 "lead_of" [zE] 4 ["self", "core"] (xN K zE):=by
 refine KI Z.bd (l2N (by intros;rfl)) fun fq fd F=>?_
 refine F.ok ZB (fun vs H Q E=>?_) (fun _ _ _ s H vs Q E hr h=>?_)
 ·walk_at "ln"
 obtain ⟨a,fg,pl,b,sn,z,m,pt,wy,wd,f,x,st,t,bl,rfl,F0,hs,ha,hl,sd,q⟩:=h
 refine ⟨_,zG (zL (zX zi (zF (ZF Z) hr rfl (zA (ze (pv 0) rfl) (zA (zX zi (zF (zHN (YA Z)) hr rfl (zA (pv 1) (zA (ze (pv 0) rfl) (zB)))) (zD) (fun _ _=>rfl)) (zB)))) (zD) (fun _ _=>rfl))),?_⟩
 walk_at "st"
 walk_at "rd"
 refine zAY hs ha (by omega) sd fun p H1 g1 e1=>?_
 have F1:=F0.same g1
 walk_at "rd"
 exact q _ g1
inductive FlA (K:W.Frag) (H:Hp) (a cN:Addr) (wd:Int) (f:Nat) (x:Str) (st:Bool) (t:List Nat):List Nat->Prop
 | num {fg pl b:Int} {sn:Str} {z:Int} {m pt:Nat} {wy:Str} {bl:Bool} (F:zV K H a cN wd f x st (qm fg pl b sn z m pt wy)) (sx:Xd x) (hs:xw sn) (ha:Asc t) (sd:Sgd sn bl t):FlA K H a cN wd f x st t (stL sn bl)
 | oth {C:Addr} {more:List (Str × V)} (F:zV K H a C wd f x st more) (sx:y4 x):FlA K H a cN wd f x st t []
def Za (K:W.Frag) (cN:Addr):Sp:=fun vs H Q _=>∃ (a:Addr) (wd:Int) (f:Nat) (x:Str) (st:Bool) (t ld:List Nat),vs=[.ref a,.str (T t)]/\FlA K H a cN wd f x st t ld/\t.length<=400/\wd<=40 /\ ∀ H',zT H H'->Q (.str (T (Jw ld t wd f x))) H'
variable {cN:Addr} {ld:List Nat}
theorem zEH {a:Addr} {t:List Nat} (h1:FlA K H a cN wd f x st t ld) (h2:t.length<=400) (h4:wd<=40) (q : ∀ H',zT H H'->Q (.str (T (Jw ld t wd f x))) H'):Za K cN (.ref a::([.str (T t)]++[])) H Q E:=⟨a,wd,f,x,st,t,ld,rfl,h1,h2,h4,q⟩
theorem Y6 (h:y4 x):x ≠ "inside" := by
 rcases h with rfl | rfl | rfl <;> decide +kernel
include Z in
theorem y1:Gx P w K mg base CX0 "filled" [zE,zI,zJ] 5 ["self", "core"] (Za K zE):=by
 refine KI Z.be (l2N (by intros;rfl)) fun fq fd F=>?_
 refine F.ok Zi (fun vs H Q E=>?_) (fun _ _ _ s H vs Q E hr h=>?_)
 ·walk_at "ln"
 obtain ⟨a,wd,f,x,st,t,ld,rfl,D0,hl,hw,q⟩:=h
 refine ⟨_,zC (zu (zQ QH (ze (pv 0) rfl) (zd) (zS _)) (zG (zL (zF (VS Z) hr rfl (zA (pv 1) (zA (ze (pv 0) rfl) (zA (ze (pv 0) rfl) (zA (ze (pv 0) rfl) (zB)))))))) (zU))
  (zC (zM (i:=2) Zi.nd rfl (Or.inl rfl) (zc (ym (ZW Z) in0) Z.cg qu hr (pv 0) (zA (pv 1) (zB))))
  (zG (zL (zF (XY Z) hr rfl (zA (pv 2) (zA (zk jL (pv 1) (zm (zK zr Z.ao rfl qD (zA (pv 2) (zB)))) (qG)) (zA (ze (pv 0) rfl) (zA (ze (pv 0) rfl) (zB))))))))),?_⟩
 walk_at "st"
 cases D0 with
 | @num fg pl b sn z m pt wy bl F0 sx hs ha sd =>
  have sl:=JE hs bl
  walk_at "rd"
  ·rename_i hc
   refine zCm F0 hs ha hl sd fun H1 g1=>?_
   have F1:=F0.same g1
   walk_at "rd"
   rename_i H2 g2
   have q':=q _ (g1.trans g2)
   unfold Jw at q'
   rw [if_pos hc] at q'
   rw [toNat_natCast]
   exact q'
  ·rename_i hc
   have sx':y4 x:=sx.elim id fun z=>absurd z hc
   refine zAP sx' hl hw fun H1 g1=>?_
   have q':=q _ g1
   unfold Jw at q'
   rw [if_neg hc] at q'
   exact q'
 | oth F0 sx =>
  have hc:=Y6 sx
  walk_at "rd"
  have q':=q _ (by assumption)
  unfold Jw at q'
  rw [if_neg hc] at q'
  exact q'
def jU (K:W.Frag) (C:Addr):Sp:=fun vs H Q _=>∃ (a:Addr) (sg:List Nat) (lo hi wd:Int) (f:Nat) (x:Str) (st:Bool) (v:V),vs=[.ref a,v]/\zV K H a C wd f x st (kR sg lo hi)/\((∃ t,v = .str (T t)/\t.length<=400 /\ ∀ H',zT H H'->Q (.bl (decide (Isw sg lo hi t))) H')\/(NoI H v "str" /\ Q (.bl false) H))
theorem zDB {a:Addr} {sg:List Nat} {t:List Nat} (h1:zV K H a C wd f x st (kR sg lo hi)) (h2:t.length<=400) (q : ∀ H',zT H H'->Q (.bl (decide (Isw sg lo hi t))) H'):jU K C (.ref a::([.str (T t)]++[])) H Q E:=⟨a,sg,lo,hi,wd,f,x,st,_,rfl,h1,.inl ⟨t,rfl,h2,q⟩⟩
theorem zGL {a:Addr} {sg:List Nat} (h1:zV K H a C wd f x st (kR sg lo hi)) (h2:NoI H v "str") (q:Q (.bl false) H):jU K C (.ref a::([v]++[])) H Q E:=⟨a,sg,lo,hi,wd,f,x,st,v,rfl,h1,.inr ⟨h2,q⟩⟩
local macro_rules | `(tactic| walk_at "rdc")=>`(tactic| ((with_reducible refine' zGL ?h1 ?h2 ?_);(case h1=>walk_at "fm");(case h2=>assumption)))
local macro_rules | `(tactic| walk_at "rdc")=>`(tactic| ((with_reducible refine' zDB ?h1 ?h2 ?_);(case h1=>walk_at "fm");(case h2=>omega);intro H' g'))
include Z in
theorem yO:Gx P w K mg base CX0 "is_word" [zI] 1 ["self", "thing"] (jU K zI):=by
 refine KI Z.bf (l2N (by intros;rfl)) fun fq fd F=>?_
 refine F.ok Zm (fun vs H Q E h=>?_) (fun _ _ _ s H vs Q E hr h=>?_)
 ·obtain ⟨a,sg,lo,hi,wd,f,x,st,v,rfl,F0,⟨t,rfl,h0,q⟩ | ⟨nt,q⟩⟩:=h
  all_goals rfl
 refine ⟨_,zC (zu (PW.pt (Qf (qc (qH (zK jS Z.aq rfl zf (zA (pv 1) (zA (x3 rfl Z.ar zAT (v:=.ty "str") rfl) (zB)))))) (y7 (qc (JY K7 K7 (ze (pv 0) rfl) (zK zr Z.ao rfl qD (zA (pv 1) (zB))) (ze (pv 0) rfl)))))) (zG (zL (xE))) (zU))
  (zG (zL (zK (Vq rfl) Z.aB rfl zFT (zA (jV (cl:=[("self", s.heap.objs.size+1+0)]) (fr:=["self"]) (is:=[0]) rfl rfl ⟨rfl,trivial⟩ rfl ⟨⟨rfl,rfl,Or.inl rfl⟩,trivial⟩ (by decide) (by decide +kernel) rfl (by decide +kernel) rfl (zCA (pv 1)) (fun _ _ _ _=>qz) (fun _ _ _ _=>qY W5 (pv 0) (yT (K:=K) rfl (pv 1) rfl) (by with_unfolding_all rfl))) (zB))))),?_⟩
 obtain ⟨a,sg,lo,hi,wd,f,x,st,v,rfl,F0,⟨t,rfl,h0,q⟩ | ⟨nt,q⟩⟩:=h
 all_goals walk_at "st"
 ·walk_at "rd"
  ·rename_i c1 c2
   refine zD1 (Nat.le_of_lt (qK (by omega))) (fun i ys H'=>H'=H/\ys=((t.take i).map fun c=>decide (c ∈ sg)).map V.bl) ⟨rfl,rfl⟩ (fun i ys H' hi z=>by rw [z.2];simp;omega) ?_ ?_
   ·rintro i c ys H' hc hi ⟨rfl,rfl⟩
    walk_at "rd"
    refine nxC hi ⟨rfl,?_⟩
    rw [take_succ,hc,map_append,map_append];rfl
   ·rintro ys H' ⟨rfl,rfl⟩ p H2 g2 e2
    rw [take_length] at e2
    walk_at "rd"
    have e:(t.map fun c=>decide (c ∈ sg)).all id=decide (Isw sg lo hi t):=by
     rw [Bool.eq_iff_iff,List.all_eq_true,decide_eq_true_iff]
     constructor
     ·intro h
      exact ⟨⟨c1,c2⟩,fun c hc=>of_decide_eq_true (h _ (List.mem_map.mpr ⟨c,hc,rfl⟩))⟩
     ·rintro h b hb
      obtain ⟨c,hc,rfl⟩:=List.mem_map.mp hb
      exact decide_eq_true (h.2 c hc)
    rw [e]
    exact q _ g2
  ·rename_i c1 c2
   have q':=q _ (zT.refl _)
   rw [decide_eq_false (fun z=>c2 z.1.2)] at q';exact q'
  ·rename_i c1
   have q':=q _ (zT.refl _)
   rw [decide_eq_false (fun z=>c1 z.1.1)] at q';exact q'
 ·walk_at "rd"
  exact q
structure WdS (sg:List Nat) (lo hi wd:Int) (f:Nat) (x:Str):Prop where
 s1:1<=sg.length
 s2:sg.length<=200
 lo1:0<=lo
 lo2:lo<=hi
 hi2:hi<=24
 wd1:0<=wd
 wd2:wd<=40
 x:y4 x
 sa:Asc sg
 f:f < 127
structure ChS (ns:Ce) (wd:Int) (f:Nat) (x:Str):Prop where
 n1:1<=ns.length
 n2:ns.length<=12
 len : ∀ t ∈ ns,t.length<=13
 wd1:0<=wd
 wd2:wd<=40
 x:y4 x
 ta : ∀ t ∈ ns,Asc t
 nd:ns.Nodup
 f:f < 127
inductive xv (K:W.Frag) (H:Hp) (o cN cW cC:Addr) (wd:Int) (f:Nat) (x:Str) (st:Bool):Fd->Prop
 | num {fg pl b:Int} {sn:Str} {z:Int} {m pt:Nat} {wy:Str} (F:zV K H o cN wd f x st (qm fg pl b sn z m pt wy)) (ok:kx fg pl b sn z m pt wy wd f x):xv K H o cN cW cC wd f x st (.num fg pl b sn z m pt wy)
 | word {sg:List Nat} {lo hi:Int} (F:zV K H o cW wd f x st (kR sg lo hi)) (ok:WdS sg lo hi wd f x):xv K H o cN cW cC wd f x st (.word sg lo hi)
 | cho {L:Addr} {ns:Ce} (F:zV K H o cC wd f x st (Ke L)) (e:H L=some (.lst (tsV ns))) (ok:ChS ns wd f x):xv K H o cN cW cC wd f x st (.cho ns)
variable {cW cC:Addr}
theorem xv.same {o:Addr} {d:Fd} (g:zT H H') (h:xv K H o cN cW cC wd f x st d):xv K H' o cN cW cC wd f x st d:=by
 cases h with
 | num F ok=>exact .num (F.same g) ok
 | word F ok=>exact .word (F.same g) ok
 | cho F e ok=>exact .cho (F.same g) (g.at e) ok
theorem xv.bd {o:Addr} {d:Fd} (h:xv K H o cN cW cC wd f x st d) : ∃ C more,zV K H o C wd f x st more/\Xd x/\0<=wd/\wd<=40:=by
 cases h with
 | num F ok=>exact ⟨_,_,F,ok.x,ok.wd1,ok.wd2⟩
 | word F ok=>exact ⟨_,_,F,.inl ok.x,ok.wd1,ok.wd2⟩
 | cho F e ok=>exact ⟨_,_,F,.inl ok.x,ok.wd1,ok.wd2⟩
def kH (K:W.Frag) (C cV:Addr):Sp:=fun vs H Q E=>∃ (a:Addr) (sg:List Nat) (lo hi wd:Int) (f:Nat) (x:Str) (st:Bool) (v:V) (r:List Nat × List Nat ⊕ Bool),vs=[.ref a,v]/\zV K H a C wd f x st (kR sg lo hi)/\Co1 H (.word sg lo hi) v r /\ ∀ H',zT H H'->CoQ cV cV Q E H' r
include Z in
theorem kY:Gx P w K mg base (X2 P w) "core" [zI] 2 ["self", "value"] (kH K zI zY):=by
 refine KI Z.bg (l2N (by intros;rfl)) fun fq fd F=>?_
 refine F.okX2 JR (fun vs H Q E=>?_) (fun _ _ _ s H vs Q E hr h tk pp=>?_)
 ·walk_at "ln"
 refine ⟨_,zC (zu (qc (qH (zc (ym (yO Z) in0) Z.cj qu hr (pv 0) (zA (pv 1) (zB))))) (zG (jQ tk rfl Z.b8 rfl Z.ag (zA (zd) (zB)))) (zU))
  (zG (zL (pv 1))),?_⟩
 obtain ⟨a,sg,lo,hi,wd,f,x,st,v,r,rfl,F0,C0,q⟩:=h
 all_goals walk_at "st"
 cases C0 with
 | word h0 iw =>
  walk_at "rd"
  rename_i H' g'
  exact q _ g'
 | noword nt =>
  rcases nt with nt | ⟨t,rfl,h0,nw⟩
  ·walk_at "rd"
   exact ⟨small (by decide),q _ (zT.refl _)⟩
  ·walk_at "rd"
   rename_i H' g'
   exact ⟨small (by decide),q _ g'⟩
def yF (K:W.Frag) (C cV:Addr):Sp:=fun vs H Q E=>∃ (a L:Addr) (ns:List (List Nat)) (wd:Int) (f:Nat) (x:Str) (st:Bool) (v:V) (r:List Nat × List Nat ⊕ Bool),vs=[.ref a,v]/\zV K H a C wd f x st (Ke L)/\H L=some (.lst (tsV ns))/\Co1 H (.cho ns) v r /\ ∀ H',zT H H'->CoQ cV cV Q E H' r
include Z in
theorem yZ:Gx P w K mg base (X2 P w) "core" [zJ] 1 ["self", "value"] (yF K zJ zY):=by
 refine KI Z.bh (l2N (by intros;rfl)) fun fq fd F=>?_
 refine F.okX2 QE (fun vs H Q E=>?_) (fun _ _ _ s H vs Q E hr h tk pp=>?_)
 ·walk_at "ln"
 refine ⟨_,zC (zu (PW.pt (Qf (qc (qH (zK jS Z.aq rfl zf (zA (pv 1) (zA (x3 rfl Z.ar zAT (v:=.ty "str") rfl) (zB)))))) (y7 (zQ Vi (pv 1) (ze (pv 0) rfl) (by with_unfolding_all rfl))))) (zG (jQ tk rfl Z.b8 rfl Z.ag (zA (zd) (zB)))) (zU))
  (zG (zL (pv 1))),?_⟩
 obtain ⟨a,L,ns,wd,f,x,st,v,r,rfl,F0,e0,C0,q⟩:=h
 all_goals walk_at "st"
 cases C0 with
 | cho h0 hm =>
  walk_at "rd"
  exact q _ (zT.refl _)
 | nocho nt =>
  rcases nt with nt | ⟨t,rfl,h0,nm⟩
  ·walk_at "rd"
   exact ⟨small (by decide),q _ (zT.refl _)⟩
  ·walk_at "rd"
   exact ⟨small (by decide),q _ (zT.refl _)⟩
def CoL:Fd->List Nat->List Nat->Prop
 | .num fg pl b sn z m pt _,c,ld=>∃ k:Int,k.natAbs < b.toNat ^ (fg+pl).toNat/\c=sg sn (decide (k < 0)) (bdI k.natAbs b pl pt z m)/\ld=stL sn (decide (k < 0))
 | .word sg lo hi,c,ld=>Isw sg lo hi c/\ld=[]
 | .cho ns,c,ld=>c ∈ ns/\ld=[]
theorem Co1.col {d:Fd} {t:List Nat} (h:Co1 H d v (.inl (t,ld))):CoL d t ld:=by
 cases h with
 | num hp gb gc gk lim=>exact ⟨_,lim,rfl,rfl⟩
 | word h0 iw=>exact ⟨iw,rfl⟩
 | cho h0 hm=>exact ⟨hm,rfl⟩
def M3 (d:Fd) (a b c:Prop):Prop:=match d with
 | .num _ _ _ _ _ _ _ _=>a
 | .word _ _ _=>b
 | .cho _=>c
theorem W9 {d:Fd} {a:Prop} (h:a):M3 d a a a:=by cases d <;> exact h
variable {vs:List V} {σ:St} {ta:TE}
theorem or3 {o:Addr} {d:Fd} {m:Str} {sN sW sC:Sp} {t:TA} (D:xv K H o cN cW cC wd f x st d) (hm:m ∉ bns++(nns++(wns++cns)))
  (hta : ∀ Q':VK,Q' (.ref o) H->ta σ H Q') (ht : ∀ Q':List V->Hp->Prop,Q' vs H->t σ H Q') (h:M3 d (sN (.ref o::(vs++[])) H Q E) (sW (.ref o::(vs++[])) H Q E) (sC (.ref o::(vs++[])) H Q E)) :
  zEV (Yy cN m sN [] E ta t) (zEV (Yy cW m sW [] E ta t) (Yy cC m sC [] E ta t)) σ H Q:=by
 obtain ⟨n1,n2⟩:=not_or.mp fun z=>hm (List.mem_append.mpr z)
 obtain ⟨n2,n3⟩:=not_or.mp fun z=>n2 (List.mem_append.mpr z)
 obtain ⟨n3,n4⟩:=not_or.mp fun z=>n3 (List.mem_append.mpr z)
 cases D with
 | num F ok=>exact VY (Jr (hta _ (Zx (WD F n1 n2) (ht _ h))))
 | word F ok =>
  simp only [wns,mem_cons,not_mem_nil,or_false,not_or] at n3
  exact JP (VY (Jr (hta _ (Zx (WF F n1 n3.1 n3.2.1 n3.2.2) (ht _ h)))))
 | cho F e ok=>exact JP (JP (Jr (hta _ (Zx (Wj F n1 (fun z=>n4 (List.mem_singleton.mpr z))) (ht _ h)))))
theorem zBr {K:PySem.W.Frag} {o cV cG:Addr} {d:Fd} (D:xv K H o cN cW cC wd f x st d) (W:Co1 H d v r) (q : ∀ H',zT H H'->CoQ cV cG Q E H' r) :
  M3 d (yN K cN cV cG (.ref o::([v]++[])) H Q E) (kH K cW cV (.ref o::([v]++[])) H Q E) (yF K cC cV (.ref o::([v]++[])) H Q E):=by
 cases D with
 | num F ok=>exact ⟨o,v,_,_,_,_,_,_,_,_,_,_,_,_,r,rfl,F,ok,W,q⟩
 | word F ok =>
  refine ⟨o,_,_,_,_,_,_,_,v,r,rfl,F,W,fun H' g=>?_⟩
  have q':=q H' g
  cases W <;> exact q'
 | cho F e ok =>
  refine ⟨o,_,_,_,_,_,_,v,r,rfl,F,e,W,fun H' g=>?_⟩
  have q':=q H' g
  cases W <;> exact q'
theorem CoL.fla {o:Addr} {d:Fd} {t:List Nat} (D:xv K H o cN cW cC wd f x st d) (h:CoL d t ld):FlA K H o cN wd f x st t ld/\t.length<=400/\Asc t:=by
 cases D with
 | num F ok =>
  obtain ⟨k,lim,rfl,rfl⟩:=h
  obtain ⟨nb,n2,n3,n4⟩:=Jg ok lim
  exact ⟨.num F ok.x ok.sn n3 n2,n4,n3⟩
 | word F ok =>
  obtain ⟨iw,rfl⟩:=h
  have h1:=iw.1.2;have h2:=ok.hi2
  exact ⟨.oth F ok.x,by omega,fun c hc=>ok.sa c (iw.2 c hc)⟩
 | cho F e ok =>
  obtain ⟨hm,rfl⟩:=h
  exact ⟨.oth F ok.x,Nat.le_trans (ok.len _ hm) (by decide),ok.ta _ hm⟩
def PuQ (cT cV cG:Addr) (wd:Int) (f:Nat) (x:Str) (st:Bool) (Q:VK) (E:XK) (H:Hp):List Nat × List Nat ⊕ Bool->Prop
 | .inl p=>if (st && decide (wd < (p.1.length:Int)))=true then E (.ref cT) none H else Q (.str (T (Jw p.2 p.1 wd f x))) H
 | .inr g=>E (.ref (bif g then cG else cV)) none H
def WY (K:W.Frag) (cN cW cC cT cV cG:Addr):Sp:=fun vs H Q E=>∃ (o:Addr) (v:V) (wd:Int) (f:Nat) (x:Str) (st:Bool) (d:Fd) (r:List Nat × List Nat ⊕ Bool),vs=[.ref o,v]/\xv K H o cN cW cC wd f x st d/\Co1 H d v r /\ ∀ H',zT H H'->PuQ cT cV cG wd f x st Q E H' r
include Z in
theorem xl:Gx P w K mg base (X2 P w) "put" [zE,zI,zJ] 6 ["self", "value"] (WY K zE zI zJ za zY zW):=by
 refine KI Z.bi (l2N (by intros;rfl)) fun fq fd F=>?_
 refine F.okX2 Xo (fun vs H Q E=>?_) (fun _ _ _ s H vs Q E hr h tk pp=>?_)
 ·walk_at "ln"
 refine ⟨_,zC (zM (i:=2) Xo.nd rfl (Or.inl rfl) (j6 (zc (ym (yh Z) in0) Z.cg pp hr (pv 0) (zA (pv 1) (zB))) (j6 (zc (ym (kY Z) in0) Z.cj pp hr (pv 0) (zA (pv 1) (zB))) (zc (ym (yZ Z) in0) Z.cm pp hr (pv 0) (zA (pv 1) (zB))))))
  (zC (zu (qH (j6 (zc (ym (zv Z) in0) Z.cg qu hr (pv 0) (zA (pv 2) (zB))) (j6 (zc (ym (zv Z) in1) Z.cj qu hr (pv 0) (zA (pv 2) (zB))) (zc (ym (zv Z) in2) Z.cm qu hr (pv 0) (zA (pv 2) (zB)))))) (zG (jQ tk rfl Z.ca rfl Z.ai (zA (zd) (zB)))) (zU))
  (zG (zL (j6 (zc (ym (y1 Z) in0) Z.cg qu hr (pv 0) (zA (pv 2) (zB))) (j6 (zc (ym (y1 Z) in1) Z.cj qu hr (pv 0) (zA (pv 2) (zB))) (zc (ym (y1 Z) in2) Z.cm qu hr (pv 0) (zA (pv 2) (zB)))))))),?_⟩
 obtain ⟨o,v,wd,f,x,st,d,r,rfl,D0,V0,q⟩:=h
 all_goals walk_at "st"
 obtain ⟨_,_,_,sx,w0,w1⟩:=D0.bd
 walk_at "rd"
 refine or3 D0 (by decide +kernel) (fun Q' h=>by walk_at "rd"; exact h) (fun Q' h=>by walk_at "rd"; exact h) (zBr D0 V0 fun H1 g1=>?_)
 have D1:=D0.same g1
 cases r with
 | inr g=>exact q _ g1
 | inl p =>
  obtain ⟨fl,tl,_⟩:=V0.col.fla D1
  obtain ⟨_,_,F1,_⟩:=D1.bd
  dsimp only [CoQ]
  walk_at "rd"
  refine or3 (vs:=[.str (T p.1)]) D1 (by decide +kernel) (fun Q' h=>by walk_at "rd"; exact h) (fun Q' h=>by walk_at "rd"; exact h) (W9 (YN F1 tl ?_))
  walk_at "rd"
  ·rename_i hc
   have q':=q _ g1
   simp only [PuQ,hc,if_true] at q'
   exact ⟨small (by decide),q'⟩
  ·rename_i hc
   refine or3 (vs:=[.str (T p.1)]) D1 (by decide +kernel) (fun Q' h=>by walk_at "rd"; exact h) (fun Q' h=>by walk_at "rd"; exact h) (W9 (zEH fl tl w1 fun H2 g2=>?_))
   have q':=q _ (g1.trans g2)
   simp only [PuQ,hc] at q'
   exact q'
theorem zLj {o:Addr} {d:Fd} {m:Str} {sN sW sC:Sp} {σc:St} {t:TA} (D:xv K H o cN cW cC wd f x st d) (hm:m ∉ bns++(nns++(wns++cns))) (wk:Wk σc σ)
  (hta : ∀ Q':VK,Q' (.ref o) H->ta σ H Q') (ht : ∀ Q':List V->Hp->Prop,Q' vs H->t σ H Q') (h:M3 d (sN (.ref o::(vs++[])) H Q E) (sW (.ref o::(vs++[])) H Q E) (sC (.ref o::(vs++[])) H Q E)) :
  zEV (Wy cN m sN E σc ta t) (zEV (Wy cW m sW E σc ta t) (Wy cC m sC E σc ta t)) σ H Q:=
 or3 (sN:=fun vs H Q E=>Wk σc σ/\sN vs H Q E) (sW:=fun vs H Q E=>Wk σc σ/\sW vs H Q E) (sC:=fun vs H Q E=>Wk σc σ/\sC vs H Q E) D hm hta ht (by cases d <;> exact ⟨wk,h⟩)
def XZ (K:W.Frag):Sp:=fun vs H Q _=>∃ (t:List Nat) (w:Int) (f:Nat) (x:Str),vs=[.str (T t),.int w,.str (T [f]),.str x]/\y4 x/\t.length<=400/\w<=40 /\ -1000<=w /\ ∀ p H',zT H H'->H p=none->H' p=some (.lst (tsV (ql t w f x)))->Q (.ref p) H'
theorem zBL {t:List Nat} {w:Int} (h1:y4 x) (h2:t.length<=400) (h3:w<=40) (h4 : -1000<=w) (q : ∀ p H',zT H H'->H p=none->H' p=some (.lst (tsV (ql t w f x)))->Q (.ref p) H'):XZ K ([.str (T t),.int w,.str (T [f]),.str x]++[]) H Q E:=⟨t,w,f,x,rfl,h1,h2,h3,h4,q⟩
local macro_rules | `(tactic| walk_at "rdc")=>`(tactic| ((with_reducible refine' zBL ?h1 ?h2 ?h3 ?h4 ?_);(case h1=>first | assumption | exact .inl rfl | exact .inr (.inl rfl) | exact .inr (.inr rfl));(case h2=>walk_at "tl");(case h3|h4=>omega);intro p' H' g' n' e'))
local macro_rules | `(tactic| walk_at "rdc")=>`(tactic| ((with_reducible refine' Qe ?hz ?_);(case hz=>exact small (by simp only [length_cons,length_nil];decide));intro p' H' g' n' e'))
local macro_rules | `(tactic| walk_at "rd1")=>`(tactic| ((with_reducible refine' Qe ?hz ?_);(case hz=>exact small (by simp only [length_cons,length_nil];decide));intro p' H' g' n' e'))
include Z in
theorem YE:Has P w K mg base "stripped" 3 ["text", "width", "fill", "side"] (XZ K):=by
 refine jm Z.kn Z.bj (l4N (by intros;rfl)) fun fq fd F=>?_
 refine F.ok xr (fun vs H Q E=>?_) (fun _ _ _ s H vs Q E hr h=>?_)
 ·walk_at "ln"
 obtain ⟨t,w,f,x,rfl,hs,h0,hw,hw1,q⟩:=h
 refine ⟨_,zC (zu (zQ kM (zK zr Z.ao rfl qD (zA (pv 0) (zB))) (pv 1) (zS _)) (zG (zL (zl (zA (pv 0) (zB))))) (zU))
  (zC (zM (i:=4) xr.nd rfl (Or.inl rfl) (zl (zB)))
  (zC (kG PassesOwn.never rfl (jr rfl Z.ap (zA (zP zg (pv 1) (zD)) (zB))) (zj (i:=5) xr.nd rfl (Or.inl rfl)) (zC (zM (i:=6) xr.nd rfl (Or.inl rfl) (zX zi (zF (Z4 Z) hr rfl (zA (pv 5) (zA (pv 1) (zA (pv 3) (zB))))) (zD) (fun _ _=>rfl)))
  (zC (zM (i:=7) xr.nd rfl (Or.inl rfl) (zk jL (pv 0) (zm (pv 6)) (zm (zP zg (pv 6) (pv 5)))))
  (zG (zu (zQ qb (zF (VS Z) hr rfl (zA (pv 7) (zA (pv 1) (zA (pv 2) (zA (pv 3) (zB)))))) (pv 0) (zS _)) (zG (jB (yz PySem.F.plainAttrs_list PySem.F.slot_list_append PySem.F.type_list_append xL (pv 4) (zA (pv 7) (zB))))) (zU))))))
  (zG (zL (pv 4))))),?_⟩
 walk_at "st"
 walk_at "rd"
 ·rename_i hc p' H' g' n' e'
  exact q _ _ g' n' (by rw [e',Zv hc];rfl)
 ·rename_i hc p' H0 g' n' e'
  refine Qm (by omega) (by omega) (fun i σ H2=>zT H H2 /\ ∃ (r1 r2 r3:Option V),H2 p'=some (.lst (tsV (((List.range i).filter (gd t w f x)).map (sl t w x))))/\σ=[some (.str (T t)),some (.int w),some (.str (T [f])),some (.str x),some (.ref p'),r1,r2,r3]) ⟨g',none,none,none,by rw [e'];rfl,rfl⟩ ?_ ?_
  ·rintro i σ H2 hi ⟨gg,r1,r2,r3,e2,rfl⟩
   obtain ⟨b1,b2,b3,_⟩:=x4 (n:=(i:Int)) hs (by omega) hw
   have bl:=QY (i:Int) w (by omega) hw
   rw [show (0+(i:Int))=(i:Int) by omega]
   have hl:(((List.range i).filter (gd t w f x)).map (sl t w x)).length<=i:=by
    rw [length_map];exact Nat.le_trans (length_filter_le _ _) (by rw [length_range];exact Nat.le_refl _)
   walk_at "rd"
   ·rename_i p1 H1 g1 e1 H3 g3 hc3
    refine Je (g3.at (g1.at e2)) (qK (by rw [length_map];omega)) ?_
    refine ⟨qM (gg.trans (g1.trans g3)) n',_,_,_,?_,rfl⟩
    rw [zR,range_succ,filter_append,filter_cons,if_pos (show gd t w f x i=true from decide_eq_true hc3),filter_nil,map_append]
    unfold tsV
    rw [map_append];rfl
   ·rename_i p1 H1 g1 e1 H3 g3 hc3
    refine ⟨gg.trans (g1.trans g3),_,_,_,?_,rfl⟩
    rw [g3.at (g1.at e2),range_succ,filter_append,filter_cons,if_neg (show ¬ gd t w f x i=true from fun z=>hc3 (of_decide_eq_true z)),filter_nil,append_nil]
  ·rintro σ H2 ⟨gg,r1,r2,r3,e2,rfl⟩
   walk_at "rd"
   refine q _ _ gg n' ?_
   rw [e2];unfold ql;rw [if_neg hc]
theorem zIH {t:List Nat} {w:Int}:(sl t w x n).length<=t.length/\(Asc t->Asc (sl t w x n)):=by
 unfold sl
 exact ⟨by rw [length_drop,length_take];omega,fun h=>(h.take _).drop _⟩
theorem kP {t:List Nat} {w:Int} : ∀ c ∈ ql t w f x,c.length<=t.length/\(Asc t->Asc c):=fun c hc=>by
 unfold ql at hc
 split at hc
 ·rw [List.mem_singleton.mp hc];exact ⟨Nat.le_refl _,id⟩
 ·obtain ⟨n,_,rfl⟩:=List.mem_map.mp hc
  exact zIH
theorem QV {t:List Nat} {w:Int} (h:w<=40):(ql t w f x).length<=41:=by
 unfold ql
 split
 ·simp
 ·rw [length_map]
  refine Nat.le_trans (length_filter_le _ _) ?_
  rw [length_range];omega
def nwd (wd:Int) (st:Bool) (c:List Nat):Bool:=!(st && decide (wd < (c.length:Int)))
def ucs (t:List Nat) (wd:Int) (f:Nat) (x:Str) (st:Bool):List (List Nat):=(ql t wd f x).filter (nwd wd st)
theorem W0 {t:List Nat} (h:wd<=40):(ucs t wd f x st).length<=41 /\ ∀ c ∈ ucs t wd f x st,c.length<=t.length/\(Asc t->Asc c):=
 ⟨Nat.le_trans (length_filter_le _ _) (QV h),fun c hc=>kP c (List.mem_filter.mp hc).1⟩
theorem K1 {α:Type} {p:α->Bool} {cs:List α} {i:Nat} {c:α} (hc:cs[i]? = some c):(cs.take (i+1)).filter p=(cs.take i).filter p++[c].filter p:=by rw [take_succ,hc,filter_append];rfl
inductive UnA (K:W.Frag) (H:Hp) (a cN cW cC:Addr) (wd:Int) (f:Nat) (x:Str) (st:Bool):Prop
 | num {fg pl b:Int} {sn:Str} {z:Int} {m pt:Nat} {wy:Str} (F:zV K H a cN wd f x st (qm fg pl b sn z m pt wy)):UnA K H a cN cW cC wd f x st
 | word {sg:List Nat} {lo hi:Int} (F:zV K H a cW wd f x st (kR sg lo hi)):UnA K H a cN cW cC wd f x st
 | cho {L:Addr} (F:zV K H a cC wd f x st (Ke L)):UnA K H a cN cW cC wd f x st
def y2 (K:W.Frag) (cN cW cC:Addr):Sp:=fun vs H Q _=>∃ (a:Addr) (wd:Int) (f:Nat) (x:Str) (st:Bool) (t:List Nat),vs=[.ref a,.str (T t)]/\UnA K H a cN cW cC wd f x st/\y4 x/\t.length<=400/\0<=wd/\wd<=40 /\ ∀ l H',zT H H'->H' l=some (.lst (tsV (ucs t wd f x st)))->Q (.ref l) H'
theorem Qb {a:Addr} {t:List Nat} (h1:UnA K H a cN cW cC wd f x st) (h2:y4 x) (h3:t.length<=400) (h4:0<=wd) (h5:wd<=40) (q : ∀ l H',zT H H'->H' l=some (.lst (tsV (ucs t wd f x st)))->Q (.ref l) H'):y2 K cN cW cC (.ref a::([.str (T t)]++[])) H Q E:=⟨a,wd,f,x,st,t,rfl,h1,h2,h3,h4,h5,q⟩
include Z in
theorem xo:Gx P w K mg base CX0 "unfilled" [zE,zJ,zI] 4 ["self", "text"] (y2 K zE zI zJ):=by
 refine KI Z.bk (l2N (by intros;rfl)) fun fq fd F=>?_
 refine F.ok JN (fun vs H Q E=>?_) (fun _ _ _ s H vs Q E hr h=>?_)
 ·walk_at "ln"
 obtain ⟨a,wd,f,x,st,t,rfl,D0,hs,h3,w0,w1,q⟩:=h
 refine ⟨_,zG (zL (jV (cl:=[("self", s.heap.objs.size+1+0)]) (fr:=["self"]) (is:=[0]) rfl rfl ⟨rfl,trivial⟩ rfl ⟨⟨rfl,rfl,Or.inl rfl⟩,trivial⟩ (by decide) (by decide +kernel) rfl (by decide +kernel) rfl (jF (zF (YE Z :) hr rfl (zA (pv 1) (zA (ze (pv 0) rfl) (zA (ze (pv 0) rfl) (zA (ze (pv 0) rfl) (zB))))))) (fun _ _ _ _=>yw (qc (qH (j6 (zc (ym (zv Z) in0 :) Z.cg qu hr (pv 1) (zA (pv 0) (zB))) (j6 (zc (ym (zv Z) in1 :) Z.cj qu hr (pv 1) (zA (pv 0) (zB))) (zc (ym (zv Z) in2 :) Z.cm qu hr (pv 1) (zA (pv 0) (zB)))))))) (fun _ _ _ _=>pv 0))),?_⟩
 walk_at "st"
 have sl:=QV (t:=t) (f:=f) (x:=x) w1
 have sb:=kP (t:=t) (w:=wd) (f:=f) (x:=x)
 cases D0 with
 | num F0 =>
  walk_at "rd"
  rename_i l1 H1 g1 n1 e1
  have F1:=F0.same g1
  refine z8 (SqL.of e1) (small (by rw [zo];omega)) (fun i ys H'=>zT H1 H'/\ys=tsV (((ql t wd f x).take i).filter (nwd wd st))) ⟨zT.refl _,rfl⟩ (fun i ys H' hi h=>⟨SqL.of (h.1.at e1),by rw [h.2,zo];exact Nat.le_trans (length_filter_le _ _) (by rw [length_take];omega)⟩) ?_ ?_
  ·rintro i v ys H2 hv hi ⟨g2,rfl⟩
   obtain ⟨c,hc,rfl⟩:=yR hv
   have F2:=F1.same g2
   have cb:=sb c (mem_of_getElem? hc)
   walk_at "rd"
   refine VY ?_
   walk_at "rd"
   ·rename_i hk
    refine nxC hi ⟨g2,?_⟩
    rw [K1 hc,filter_cons_of_pos (show nwd wd st c=true from hk),<- xz];rfl
   ·rename_i hk
    refine nxC hi ⟨g2,?_⟩
    rw [K1 hc,filter_cons_of_neg (show ¬ nwd wd st c=true by unfold nwd;rw [hk];decide),filter_nil,append_nil]
  ·rintro ys H2 ⟨g2,rfl⟩ p2 H3 g3 n3 e3
   rw [take_of_length_le (by rw [zo];exact Nat.le_refl _)] at e3
   exact q _ _ (g1.trans (g2.trans g3)) e3
 | word F0 =>
  walk_at "rd"
  rename_i l1 H1 g1 n1 e1
  have F1:=F0.same g1
  refine z8 (SqL.of e1) (small (by rw [zo];omega)) (fun i ys H'=>zT H1 H'/\ys=tsV (((ql t wd f x).take i).filter (nwd wd st))) ⟨zT.refl _,rfl⟩ (fun i ys H' hi h=>⟨SqL.of (h.1.at e1),by rw [h.2,zo];exact Nat.le_trans (length_filter_le _ _) (by rw [length_take];omega)⟩) ?_ ?_
  ·rintro i v ys H2 hv hi ⟨g2,rfl⟩
   obtain ⟨c,hc,rfl⟩:=yR hv
   have F2:=F1.same g2
   have cb:=sb c (mem_of_getElem? hc)
   walk_at "rd"
   refine JP (VY ?_)
   walk_at "rd"
   ·rename_i hk
    refine nxC hi ⟨g2,?_⟩
    rw [K1 hc,filter_cons_of_pos (show nwd wd st c=true from hk),<- xz];rfl
   ·rename_i hk
    refine nxC hi ⟨g2,?_⟩
    rw [K1 hc,filter_cons_of_neg (show ¬ nwd wd st c=true by unfold nwd;rw [hk];decide),filter_nil,append_nil]
  ·rintro ys H2 ⟨g2,rfl⟩ p2 H3 g3 n3 e3
   rw [take_of_length_le (by rw [zo];exact Nat.le_refl _)] at e3
   exact q _ _ (g1.trans (g2.trans g3)) e3
 | cho F0 =>
  walk_at "rd"
  rename_i l1 H1 g1 n1 e1
  have F1:=F0.same g1
  refine z8 (SqL.of e1) (small (by rw [zo];omega)) (fun i ys H'=>zT H1 H'/\ys=tsV (((ql t wd f x).take i).filter (nwd wd st))) ⟨zT.refl _,rfl⟩ (fun i ys H' hi h=>⟨SqL.of (h.1.at e1),by rw [h.2,zo];exact Nat.le_trans (length_filter_le _ _) (by rw [length_take];omega)⟩) ?_ ?_
  ·rintro i v ys H2 hv hi ⟨g2,rfl⟩
   obtain ⟨c,hc,rfl⟩:=yR hv
   have F2:=F1.same g2
   have cb:=sb c (mem_of_getElem? hc)
   walk_at "rd"
   refine JP (JP ?_)
   walk_at "rd"
   ·rename_i hk
    refine nxC hi ⟨g2,?_⟩
    rw [K1 hc,filter_cons_of_pos (show nwd wd st c=true from hk),<- xz];rfl
   ·rename_i hk
    refine nxC hi ⟨g2,?_⟩
    rw [K1 hc,filter_cons_of_neg (show ¬ nwd wd st c=true by unfold nwd;rw [hk];decide),filter_nil,append_nil]
  ·rintro ys H2 ⟨g2,rfl⟩ p2 H3 g3 n3 e3
   rw [take_of_length_le (by rw [zo];exact Nat.le_refl _)] at e3
   exact q _ _ (g1.trans (g2.trans g3)) e3
def XL (K:W.Frag):Sp:=fun vs H Q _=>∃ t b:Int,vs=[.int t,.int b]/\0 < b/\b < 10000000000000000000000000000000000000000000000000000000000000000000000000000000000000000000000000000000000000000000000000000000000000000000000000000000000000000000000000000000000000000000000 /\ ∀ p H',zT H H'->H' p=some (.tup [.int (ZV t b),.int (Zj t b)])->Q (.ref p) H'
theorem zA1 (h1:0 < b) (h2:b < 10000000000000000000000000000000000000000000000000000000000000000000000000000000000000000000000000000000000000000000000000000000000000000000000000000000000000000000000000000000000000000000000) (q : ∀ p H',zT H H'->H' p=some (.tup [.int (ZV t b),.int (Zj t b)])->Q (.ref p) H'):XL K ([.int t,.int b]++[]) H Q E:=⟨t,b,rfl,h1,h2,q⟩
include Z in
theorem zA0:Has P w K mg base "fraction" 2 ["top", "bottom"] (XL K):=by
 refine jm Z.kn Z.bl (l2N (by intros;rfl)) fun fq fd F=>?_
 refine F.ok Z1 (fun vs H Q E=>?_) (fun _ _ _ s H vs Q E hr h=>?_)
 ·walk_at "ln"
 obtain ⟨t,b,rfl,hb,h1,q⟩:=h
 refine ⟨_,zC (zu (PW.pt (Qf (qc (qH (zF (ZN Z) hr rfl (zA (pv 0) (zB))))) (y7 (qc (qH (zF (ZN Z) hr rfl (zA (pv 1) (zB)))))))) (zG (W7)) (zU))
  (zC (zu (zQ qb (pv 1) (zD) (zS _)) (zG (W7)) (zU))
  (zC (zM (i:=2) Z1.nd rfl (Or.inl rfl) (zF (y3 Z) hr rfl (zA (pv 0) (zA (pv 1) (zB)))))
  (zC (zu (zQ Wm (pv 1) (zD) (zS _)) (zG (zM (i:=2) Z1.nd rfl (Or.inl rfl) (zBO YI (pv 2)))) (zU))
  (zG (zL (ji (zA (zP jp (pv 0) (pv 2)) (zA (zP jp (pv 1) (pv 2)) (zB))))))))),?_⟩
 walk_at "st"
 have e0:0 < (Int.gcd t b:Int):=by have:=Int.gcd_pos_of_ne_zero_right t (show b≠0 by omega);omega
 have e1:(Int.gcd t b:Int)<=b.natAbs:=by have:=Int.gcd_le_natAbs_right (a:=t) (b:=b) (by omega);omega
 walk_at "rd"
 refine q _ _ (by walk_at "sm") ?_
 unfold ZV Zj VU;rw [if_neg (show ¬ b < 0 by omega),Int.fdiv_eq_ediv_of_nonneg _ (Int.le_of_lt e0),Int.fdiv_eq_ediv_of_nonneg _ (Int.le_of_lt e0)];assumption
local macro_rules | `(tactic| walk_at "rdc")=>`(tactic| ((with_reducible refine' zA1 ?h1 ?h2 ?_);(case h1|h2=>omega);intro p' H' g' e'))
def QF (K:W.Frag):Sp:=fun vs H Q _=>∃ k c t:Int,vs=[.int k,.int c,.int t]/\2<=c/\c<=16/\0<=t/\t<=6 /\ ∀ p H',zT H H'->H' p=some (.tup [.int (ZV k (c ^ t.toNat)),.int (Zj k (c ^ t.toNat))])->Q (.ref p) H'
theorem Vu (h1:2<=c) (h2:c<=16) (h3:0<=t) (h4:t<=6) (q : ∀ p H',zT H H'->H' p=some (.tup [.int (ZV k (c ^ t.toNat)),.int (Zj k (c ^ t.toNat))])->Q (.ref p) H'):QF K ([.int k,.int c,.int t]++[]) H Q E:=⟨k,c,t,rfl,h1,h2,h3,h4,q⟩
include Z in
theorem Qy:Has P w K mg base "grid_value" 3 ["k", "base", "places"] (QF K):=by
 refine jm Z.kn Z.bm (l3N (by intros;rfl)) fun fq fd F=>?_
 refine F.ok Yw (fun vs H Q E=>?_) (fun _ _ _ s H vs Q E hr h=>?_)
 ·walk_at "ln"
 obtain ⟨k,c,t,rfl,h1,h2,h3,h4,q⟩:=h
 refine ⟨_,zG (zL (zF (zA0 Z) hr rfl (zA (pv 0) (zA (zF (Qn Z) hr rfl (zA (pv 1) (zA (pv 2) (zB)))) (zB))))),?_⟩
 walk_at "st"
 have z:=pw6 (t:=t) h1 h2 h4
 walk_at "rd"
 exact q _ _ (by walk_at "sm") (by assumption)
local macro_rules | `(tactic| walk_at "rdc")=>`(tactic| ((with_reducible refine' Vu ?h1 ?h2 ?h3 ?h4 ?_);(case h1|h2|h3|h4=>omega);intro p' H' g' e'))
variable {X:Cx}
theorem j7 (e:X.K=K):IxR X (zJz K):=e ▸ zi
open Classical in
noncomputable def qO (fg pl b:Int) (sn:Str) (z:Int) (m pt:Nat) (bl:Bool) (t:List Nat):Option Int:=
 if Sgd sn bl t/\IsB b pl.toNat pt z.toNat m (bod sn bl t)/\zAf b pl.toNat z.toNat (bod sn bl t) < b ^ (fg+pl).toNat/\(bl=true->0 < zAf b pl.toNat z.toNat (bod sn bl t)) then some (if bl=true then -zAf b pl.toNat z.toNat (bod sn bl t) else zAf b pl.toNat z.toNat (bod sn bl t)) else none
def oV:Option Int->V
 | some k=>.int k
 | none=>.non
def jK (K:W.Frag) (C:Addr):Sp:=fun vs H Q _=>∃ (a:Addr) (fg pl b:Int) (sn:Str) (z:Int) (m pt:Nat) (wy:Str) (wd:Int) (f:Nat) (x:Str) (st:Bool) (t:List Nat) (bl:Bool),vs=[.ref a,.str (T t),.bl bl]/\zV K H a C wd f x st (qm fg pl b sn z m pt wy)/\kx fg pl b sn z m pt wy wd f x/\Asc t/\t.length<=400 /\ ∀ H',zT H H'->Q (oV (qO fg pl b sn z m pt bl t)) H'
include Z in
theorem yW:Gx P w K mg base CX0 "number_with" [zE] 5 ["self", "core", "below"] (jK K zE):=by
 have Yp:Nm K "NoCore" qg:=Z.cf
 have ZM:Nm K "NoBody" qS:=Z.ce
 have xc:W.exmAny K (.ref qg) [.ref qg,.ref qS]=some true:=Z.xc
 have xb:W.exmAny K (.ref qS) [.ref qg,.ref qS]=some true:=Z.xb
 refine KI Z.bn (l3N (by intros;rfl)) fun fq fd F=>?_
 refine F.ok qa (fun vs H Q E=>?_) (fun _ _ _ s H vs Q E hr h=>?_)
 ·walk_at "ln"
 obtain ⟨a,fg,pl,b,sn,z,m,pt,wy,wd,f,x,st,t,bl,rfl,F0,ok,at',ht,q⟩:=h
 refine ⟨_,zC (zGI rfl rfl (fun _ _ _=>zC (zM (i:=3) qa.nd rfl (Or.inl rfl) (zAB (YA Z) hr rfl (zA (pv 1) (zA (yT (K:=K) rfl (pv 0) rfl) (zB)))))
  (zG (zM (i:=4) qa.nd rfl (Or.inl rfl) (zAB (WT Z) hr rfl (zA (zX (j7 (K:=K) rfl) (pv 3) (zD) (fun _ _=>rfl)) (zA (yT (K:=K) rfl (pv 0) rfl) (zA (yT (K:=K) rfl (pv 0) rfl) (zA (yT (K:=K) rfl (pv 0) rfl) (zA (yT (K:=K) rfl (pv 0) rfl) (zA (yT (K:=K) rfl (pv 0) rfl) (zB))))))))))) (zET rfl Z.af rfl Z.ae (fun _=>zG (zL (Kp)))))
  (zC (zu (PW.pt (Qf (zQ QH (zX zi (pv 3) (zD) (fun _ _=>rfl)) (pv 2) (zS _)) (y7 (qH (zc (ym (jJ Z) in0) Z.cg qu hr (pv 0) (zA (pv 4) (zB))))))) (zG (zL (Kp))) (zU))
  (zC (zu (qc (qH (pv 2))) (zG (zL (pv 4))) (zU))
  (zG (zL (Y0 (zQ kM (pv 4) (zD) (zS _)) (zBO YI (pv 4)) (Kp)))))),?_⟩
 walk_at "st"
 have o1:=ok.fg1;have o2:=ok.fg2;have o3:=ok.pl1;have o4:=ok.pl2;have o5:=ok.b1;have o6:=ok.b2;have o9:=ok.z1;have o10:=ok.z2
 walk_at "rd"
 refine zIp [some (.ref a),some (.str (T t)),some (.bl bl),none,none] ?_
 walk_at "rd"
 refine ⟨t,sn,rfl,ok.sn,at',by omega,fun b' sd p1 H1 g1 e1=>?_,fun n0 n1 C H1 nC g1=>?_⟩
 ·have F1:=F0.same g1
  have hl:(bod sn b' t).length<=t.length:=by unfold bod;rw [length_drop,length_take];omega
  have ha:Asc (bod sn b' t):=(at'.take _).drop _
  walk_at "rd"
  refine ⟨bod sn b' t,b,pl,z,pt,m,rfl,o5,o6,o3,o4,o9,o10,by omega,ha,fun ib H2 g2=>?_,fun ni C H2 nC g2=>?_⟩
  ·have F2:=F1.same g2
   have e2:=g2.at e1
   have fin : ∀ o,qO fg pl b sn z m pt bl t=o->Q (oV o) H2:=fun o h=>h ▸ q _ (g1.trans g2)
   walk_at "rd"
   rcases Decidable.em (b'=bl) with rfl | hb
   ·refine zJL ?_
    rw [decide_eq_true rfl]
    generalize hn:zAf b pl.toNat z.toNat (bod sn b' t)=n
    walk_at "rd"
    ·rename_i hc
     refine fin none ?_
     unfold qO
     rw [hn]
     exact if_neg fun h=>by have:=h.2.2.1;omega
    ·rename_i h1 h2
     have hb:b'=false:=by cases b' <;> simp_all
     subst hb
     refine fin (some n) ?_
     unfold qO
     rw [hn,if_pos ⟨sd,ib,by omega,fun h=>by cases h⟩,if_neg Bool.false_ne_true]
    ·rename_i h1 h2 h3
     have hb:b'=true:=by cases b' <;> simp_all
     subst hb
     refine fin (some (-n)) ?_
     unfold qO
     rw [hn,if_pos ⟨sd,ib,by omega,fun h=>h3⟩,if_pos rfl]
    ·rename_i h1 h2 h3
     have hb:b'=true:=by cases b' <;> simp_all
     subst hb
     refine fin none ?_
     unfold qO
     rw [hn]
     exact if_neg fun h=>h3 (h.2.2.2 rfl)
   ·refine zJL ?_
    rw [decide_eq_false hb]
    walk_at "rd"
    refine fin none ?_
    unfold qO
    refine if_neg fun h=>?_
    cases bl <;> cases b'
    ·exact hb rfl
    ·exact yr ok.sn h.1 sd
    ·exact yr ok.sn sd h.1
    ·exact hb rfl
  ·have:=Nm.eq nC ZM
   subst this
   refine ⟨_,rfl,zLF xb ?_⟩
   walk_at "rd"
   have q':=q _ (g1.trans g2)
   rw [show qO fg pl b sn z m pt bl t=none from ?_] at q'
   ·exact q'
   ·unfold qO
    refine if_neg fun h=>ni ?_
    obtain rfl:bl=b':=by
     cases bl <;> cases b'
     ·rfl
     ·exact (yr ok.sn h.1 sd).elim
     ·exact (yr ok.sn sd h.1).elim
     ·rfl
    exact h.2.1
 ·have:=Nm.eq nC Yp
  subst this
  refine ⟨_,rfl,zLF xc ?_⟩
  walk_at "rd"
  have q':=q _ g1
  rw [show qO fg pl b sn z m pt bl t=none from ?_] at q'
  ·exact q'
  ·unfold qO
   refine if_neg fun h=>?_
   cases bl
   ·exact n0 h.1
   ·exact n1 h.1
theorem Ys {a:Addr} {pt:Nat} {t:List Nat} (h1:zV K H a C wd f x st (qm fg pl b sn z m pt wy)) (h2:kx fg pl b sn z m pt wy wd f x) (h3:Asc t) (h4:t.length<=400) (q : ∀ H',zT H H'->Q (oV (qO fg pl b sn z m pt bl t)) H'):jK K C (.ref a::([.str (T t),.bl bl]++[])) H Q E:=⟨a,fg,pl,b,sn,z,m,pt,wy,wd,f,x,st,t,bl,rfl,h1,h2,h3,h4,q⟩
def RT (H:Hp) (S:Int) (v:V) (k:Int):Prop:=∃ p,v = .ref p/\H p=some (.tup [.int (ZV k S),.int (Zj k S)])
variable {S:Int}
theorem RT.same (g:zT H H') (h:RT H S v k):RT H' S v k:=let ⟨p,e,k⟩:=h;⟨p,e,g.at k⟩
theorem two_ways {pt:Nat} (hs:xw sn) (cs:List (List Nat)):(cs.filterMap (qO fg pl b sn z m pt false)).length+(cs.filterMap (qO fg pl b sn z m pt true)).length<=cs.length:=by
 induction cs with
 | nil=>exact Nat.le_refl _
 | cons c cs ih =>
  rw [filterMap_cons,filterMap_cons,length_cons]
  cases h0:qO fg pl b sn z m pt false c with
  | none =>
   cases h1:qO fg pl b sn z m pt true c with
   | none=>dsimp only;omega
   | some k=>dsimp only;rw [length_cons];omega
  | some j =>
   cases h1:qO fg pl b sn z m pt true c with
   | none=>dsimp only;rw [length_cons];omega
   | some k =>
    exfalso
    unfold qO at h0 h1
    split at h0
    ·rename_i a0
     split at h1
     ·rename_i a1
      exact yr hs a0.1 a1.1
     ·cases h1
    ·cases h0
def Vl (t l:List Nat) (w:Int) (f:Nat):List (List Nat):=if t.take l.length=l then ql (t.drop l.length) (w - l.length) f "right" else []
def yI (K:W.Frag):Sp:=fun vs H Q _=>∃ (t l:List Nat) (w:Int) (f:Nat),vs=[.str (T t),.str (T l),.int w,.str (T [f])]/\t.length<=1000/\l.length<=400/\t.length - l.length<=400/\w<=40/\0<=w /\ ∀ p H',zT H H'->H p=none->H' p=some (.lst (tsV (Vl t l w f)))->Q (.ref p) H'
theorem Qk {t l:List Nat} {w:Int} (h1:t.length<=1000) (h2:l.length<=400) (h5:t.length - l.length<=400) (h3:w<=40) (h4:0<=w) (q : ∀ p H',zT H H'->H p=none->H' p=some (.lst (tsV (Vl t l w f)))->Q (.ref p) H'):yI K ([.str (T t),.str (T l),.int w,.str (T [f])]++[]) H Q E:=⟨t,l,w,f,rfl,h1,h2,h5,h3,h4,q⟩
local macro_rules | `(tactic| walk_at "rdc")=>`(tactic| ((with_reducible refine' Qk ?h1 ?h2 ?h5 ?h3 ?h4 ?_);(case h1|h2|h5=>walk_at "tl");(case h3|h4=>omega);intro p' H' g' n' e'))
include Z in
theorem Qi:Has P w K mg base "stripped_inside" 4 ["text", "lead", "width", "fill"] (yI K):=by
 refine jm Z.kn Z.bo (l4N (by intros;rfl)) fun fq fd F=>?_
 refine F.ok Z9 (fun vs H Q E=>?_) (fun _ _ _ s H vs Q E hr h=>?_)
 ·walk_at "ln"
 obtain ⟨t,l,w,f,rfl,h1,h2,h5,h3,h4,q⟩:=h
 refine ⟨_,zC (zu (qc (qH (yz PySem.F.plainAttrs_str PySem.F.slot_str_startswith PySem.F.type_str_startswith X1 (pv 0) (zA (pv 1) (zB))))) (zG (zL (zl (zB)))) (zU))
  (zG (zL (zF (YE Z) hr rfl (zA (zk jL (pv 0) (zm (zK zr Z.ao rfl qD (zA (pv 1) (zB)))) (qG)) (zA (zP qt (pv 2) (zK zr Z.ao rfl qD (zA (pv 1) (zB)))) (zA (pv 3) (zA (zd) (zB)))))))),?_⟩
 walk_at "st"
 walk_at "rd"
 ·rename_i hc p' H' g' n' e'
  exact q _ _ g' n' (by rw [e'];unfold Vl;rw [if_pos hc,toNat_natCast])
 ·rename_i hc p' H' g' n' e'
  exact q _ _ g' n' (by rw [e'];unfold Vl;rw [if_neg hc];rfl)
def cin (t:List Nat) (sn:Str) (bl:Bool) (wd:Int) (f:Nat) (x:Str) (st:Bool):List (List Nat):=if x = "inside" then ((Vl t (stL sn bl) wd f).map fun r=>stL sn bl++r).filter (nwd wd st) else ucs t wd f x st
theorem W8 {t l:List Nat} {w:Int} (h:w<=40):(Vl t l w f).length<=41:=by
 unfold Vl
 split
 ·exact QV (by omega)
 ·exact Nat.zero_le _
theorem VT {t:List Nat} (h:wd<=40):(cin t sn bl wd f x st).length<=41:=by
 unfold cin
 split
 ·exact Nat.le_trans (length_filter_le _ _) (by rw [length_map];exact W8 h)
 ·exact (W0 h).1
theorem Vs {α β:Type} {g:α->Option β} {p:α->Bool} : ∀ l:List α,((l.filter p).filterMap g).length<=(l.filterMap g).length
 | []=>Nat.le_refl _
 | a::l=>by
  have ih:=Vs (g:=g) (p:=p) l
  rw [filter_cons]
  split
  ·rw [filterMap_cons,filterMap_cons]
   cases g a <;> simp <;> omega
  ·rw [filterMap_cons]
   cases g a <;> simp <;> omega
theorem zAH {pt:Nat} {u:List Nat} (hL:stL sn false=[]) (h:qO fg pl b sn z m pt false u=some k):0<=fv (u.getD 0 0):=by
 unfold qO at h
 split at h
 ·rename_i a
  obtain ⟨⟨ne,h0,_⟩,e⟩:=a.1
  rw [hL,nil_append] at e
  have:u.getD 0 0=(bod sn false u).getD 0 0:=by
   conv=>lhs;rw [<- e]
   cases hb:bod sn false u with
   | nil=>exact absurd hb ne
   | cons c r=>rfl
  rw [this];exact h0
 ·cases h
theorem zCf {a b:Nat} {u v:List Nat} (h:List.replicate a f++u=List.replicate b f++v) (l:a < b):u.getD 0 0=f/\(List.replicate b f++v).getD 0 0=f:=by
 obtain ⟨d,rfl⟩ : ∃ d,b=a+(d+1):=⟨b - a - 1,by omega⟩
 rw [<- List.replicate_append_replicate,append_assoc] at h
 constructor
 ·rw [append_cancel_left h];rfl
 ·rw [show a+(d+1)=(a+d)+1 from rfl,List.replicate_succ];rfl
theorem zEr {α β:Type} {g:α->Option β} : ∀ l:List α,l.Nodup->(∀ a ∈ l,∀ b ∈ l,∀ i j,g a=some i->g b=some j->a=b)->(l.filterMap g).length<=1
 | [],_,_=>Nat.zero_le _
 | a::l,nd,h=>by
  obtain ⟨n1,n2⟩:=List.nodup_cons.mp nd
  cases e:g a with
  | none=>rw [List.filterMap_cons_none e];exact zEr l n2 fun x hx y hy=>h x (.tail _ hx) y (.tail _ hy)
  | some i =>
   rw [List.filterMap_cons_some e,List.filterMap_eq_nil_iff.mpr fun b hb=>?_]
   ·exact Nat.le_refl _
   ·cases e2:g b with
    | none=>rfl
    | some j=>exact absurd (h a (.head _) b (.tail _ hb) i j e e2 ▸ hb) n1
theorem zEY {pt:Nat} {t:List Nat} (hL:stL sn false=[]) (hw:wd<=40) (hc:fv (t.getD 0 0) < 0):((ql t wd f "right").filterMap (qO fg pl b sn z m pt false)).length<=1:=by
 have sr:y4 "right" := .inr (.inl rfl)
 refine zEr _ (kz sr hw) fun u hu v hv i j hi hj=>?_
 have eu:=Qd sr hw hu
 have ev:=Qd sr hw hv
 have fu:=zAH hL hi
 have fv':=zAH hL hj
 unfold pad at eu ev
 have pb : ∀ n:Int,(pB "right" n wd).toNat=0:=fun n=>by unfold pB;rw [pAr,Int.sub_self];rfl
 rw [pb,List.replicate_zero,append_nil] at eu ev
 generalize (pA "right" u.length wd).toNat=a at eu
 generalize (pA "right" v.length wd).toNat=c at ev
 have e:=eu.trans ev.symm
 rcases Nat.lt_trichotomy a c with l | l | l
 ·obtain ⟨x1,x2⟩:=zCf e l
  rw [ev] at x2;rw [x2] at hc;rw [x1] at fu
  exact absurd fu (Int.not_le.mpr hc)
 ·rw [l] at e;exact append_cancel_left e
 ·obtain ⟨x1,x2⟩:=zCf e.symm l
  rw [eu] at x2;rw [x2] at hc;rw [x1] at fv'
  exact absurd fv' (Int.not_le.mpr hc)
theorem zC6 {pt:Nat} {t:List Nat} (hs:xw sn) (hw:wd<=40):((cin t sn false wd f x st).filterMap (qO fg pl b sn z m pt false)).length+((cin t sn true wd f x st).filterMap (qO fg pl b sn z m pt true)).length<=42:=by
 have l0:=Nat.le_trans (List.length_filterMap_le (qO fg pl b sn z m pt false) (cin t sn false wd f x st)) (VT (bl:=false) (f:=f) (x:=x) (st:=st) (t:=t) (sn:=sn) hw)
 have l1:=Nat.le_trans (List.length_filterMap_le (qO fg pl b sn z m pt true) (cin t sn true wd f x st)) (VT (bl:=true) (f:=f) (x:=x) (st:=st) (t:=t) (sn:=sn) hw)
 by_cases hx:x = "inside"
 ·have same:stL sn false=stL sn true->((cin t sn false wd f x st).filterMap (qO fg pl b sn z m pt false)).length+((cin t sn true wd f x st).filterMap (qO fg pl b sn z m pt true)).length<=42:=fun e=>by
   have e2:cin t sn true wd f x st=cin t sn false wd f x st:=by unfold cin;rw [e]
   rw [e2]
   have tw:=two_ways (fg:=fg) (pl:=pl) (b:=b) (z:=z) (m:=m) (pt:=pt) hs (cin t sn false wd f x st)
   have:=VT (bl:=false) (f:=f) (x:=x) (st:=st) (t:=t) (sn:=sn) hw
   omega
  have zero : ∀ bl c,stL sn bl=[c]->t.take 1≠[c]->cin t sn bl wd f x st=[]:=fun bl c e h=>by
   unfold cin
   rw [if_pos hx,e]
   unfold Vl
   rw [if_neg (show ¬ t.take [c].length=[c] from h)];rfl
  have apart : ∀ c d,stL sn false=[c]->stL sn true=[d]->c≠d->((cin t sn false wd f x st).filterMap (qO fg pl b sn z m pt false)).length+((cin t sn true wd f x st).filterMap (qO fg pl b sn z m pt true)).length<=42:=fun c d e0 e1 hn=>by
   by_cases h0:t.take 1=[c]
   ·rw [zero true d e1 (fun h=>hn (List.singleton_inj.mp (h0.symm.trans h))),List.filterMap_nil,length_nil];omega
   ·rw [zero false c e0 h0,List.filterMap_nil,length_nil];omega
  have ahead : ∀ c,stL sn false=[]->stL sn true=[c]->fv c < 0->((cin t sn false wd f x st).filterMap (qO fg pl b sn z m pt false)).length+((cin t sn true wd f x st).filterMap (qO fg pl b sn z m pt true)).length<=42:=fun c e0 e1 hc=>by
   by_cases h0:t.take 1=[c]
   ·have ht:t.getD 0 0=c:=by
     cases t with
     | nil=>simp at h0
     | cons d r=>simp at h0;rw [h0];rfl
    have hone:=zEY (fg:=fg) (pl:=pl) (b:=b) (z:=z) (m:=m) (pt:=pt) (t:=t) (wd:=wd) (f:=f) e0 hw (by rw [ht];exact hc)
    have e2:cin t sn false wd f x st=(ql t wd f "right").filter (nwd wd st):=by
     unfold cin
     rw [if_pos hx,e0]
     unfold Vl
     rw [if_pos (by simp)]
     simp
    rw [e2]
    have:=Vs (g:=qO fg pl b sn z m pt false) (p:=nwd wd st) (ql t wd f "right")
    omega
   ·rw [zero true c e1 h0,List.filterMap_nil,length_nil];omega
  rcases hs with rfl | rfl | rfl | rfl | rfl
  ·exact ahead 45 (by decide +kernel) (by decide +kernel) (by decide +kernel)
  ·exact apart 43 45 (by decide +kernel) (by decide +kernel) (by decide)
  ·exact apart 32 45 (by decide +kernel) (by decide +kernel) (by decide)
  ·exact ahead 40 (by decide +kernel) (by decide +kernel) (by decide +kernel)
  ·exact same (by decide +kernel)
 ·have e : ∀ bl,cin t sn bl wd f x st=ucs t wd f x st:=fun bl=>by unfold cin;rw [if_neg hx]
  rw [e,e]
  have tw:=two_ways (fg:=fg) (pl:=pl) (b:=b) (z:=z) (m:=m) (pt:=pt) hs (ucs t wd f x st)
  have:=(W0 (t:=t) (f:=f) (x:=x) (st:=st) hw).1
  omega
theorem zH4 {t:List Nat} (hs:xw sn) : ∀ c ∈ cin t sn bl wd f x st,c.length<=t.length+2/\(Asc t->Asc c):=fun c hc=>by
 unfold cin at hc
 split at hc
 ·have hc:=(List.mem_filter.mp hc).1
  obtain ⟨r,hr,rfl⟩:=List.mem_map.mp hc
  unfold Vl at hr
  split at hr
  ·have b:=kP r hr
   have sl:=JE hs bl
   have sa:=Kt hs bl
   rw [length_drop] at b
   exact ⟨by rw [length_append];omega,fun h=>sa.1.app (b.2 (h.drop _))⟩
  ·cases hr
 ·have b:=kP c (List.mem_filter.mp hc).1
  exact ⟨by omega,b.2⟩
def kJ (K:W.Frag) (C:Addr):Sp:=fun vs H Q _=>∃ (a:Addr) (fg pl b:Int) (sn:Str) (z:Int) (m pt:Nat) (wy:Str) (wd:Int) (f:Nat) (x:Str) (st:Bool) (t:List Nat) (bl:Bool),vs=[.ref a,.str (T t),.bl bl]/\zV K H a C wd f x st (qm fg pl b sn z m pt wy)/\kx fg pl b sn z m pt wy wd f x/\t.length<=300 /\ ∀ l H',zT H H'->H' l=some (.lst (tsV (cin t sn bl wd f x st)))->Q (.ref l) H'
include Z in
theorem ku:Gx P w K mg base CX0 "cores_in" [zE] 5 ["self", "text", "below"] (kJ K zE):=by
 refine KI Z.bp (l3N (by intros;rfl)) fun fq fd F=>?_
 refine F.ok qr (fun vs H Q E=>?_) (fun _ _ _ s H vs Q E hr h=>?_)
 ·walk_at "ln"
 obtain ⟨a,fg,pl,b,sn,z,m,pt,wy,wd,f,x,st,t,bl,rfl,F0,ok,ht,q⟩:=h
 refine ⟨_,zC (zu (zQ QH (ze (pv 0) rfl) (zd) (zS _)) (zG (zL (zc (ym (xo Z) in0) Z.cg qu hr (pv 0) (zA (pv 1) (zB))))) (zU))
  (zC (zM (i:=3) qr.nd rfl (Or.inr rfl) (zX zi (zF (ZF Z) hr rfl (zA (ze (pv 0) rfl) (zA (pv 2) (zB)))) (zD) (fun _ _=>rfl)))
  (zC (yY (cl:=[("lead", s.heap.objs.size+1+1)]) (fr:=["lead"]) (is:=[3]) (i:=4) qr.nd rfl (Or.inl rfl) rfl rfl rfl ⟨rfl,trivial⟩ rfl ⟨⟨rfl,rfl,Or.inl rfl⟩,trivial⟩ (by decide) (by decide +kernel) rfl (by decide +kernel) rfl (jF (zF (Qi Z :) hr rfl (zA (pv 1) (zA (pv 3) (zA (ze (pv 0) rfl) (zA (ze (pv 0) rfl) (zB))))))) (fun _ _ _ _=>qz) (fun _ _ _ _=>zP jH (pv 1) (pv 0)))
  (zG (zL (jV (cl:=[("self", s.heap.objs.size+1+0)]) (fr:=["self"]) (is:=[0]) rfl rfl ⟨rfl,trivial⟩ rfl ⟨⟨rfl,rfl,Or.inl rfl⟩,trivial⟩ (by decide) (by decide +kernel) rfl (by decide +kernel) rfl (jF (pv 4)) (fun _ _ _ _=>yw (qc (qH (zc (ym (zv Z) in0 :) Z.cg qu hr (pv 1) (zA (pv 0) (zB)))))) (fun _ _ _ _=>pv 0)))))),?_⟩
 walk_at "st"
 have sl:=JE ok.sn bl
 have w0:=ok.wd1;have w1:=ok.wd2;have o7:=ok.sn
 have ec : ∀ b:Bool,(x = "inside")->cin t sn bl wd f x st=((Vl t (stL sn bl) wd f).map fun r=>stL sn bl++r).filter (nwd wd st):=fun _ h=>by unfold cin;rw [if_pos h]
 walk_at "rd"
 ·rename_i hc p0 s0 l1 H1 g1 n1 e1
  have F1:=F0.same g1
  have sl1:=W8 (t:=t) (l:=stL sn bl) (f:=f) w1
  have sb1 : ∀ r ∈ Vl t (stL sn bl) wd f,r.length<=t.length:=fun r hr=>by
   unfold Vl at hr
   split at hr
   ·have:=(kP r hr).1
    rw [length_drop] at this
    omega
   ·cases hr
  refine z8 (SqL.of e1) (small (by rw [zo];omega)) (fun i ys H'=>H'=H1/\ys=tsV (((Vl t (stL sn bl) wd f).take i).map fun r=>stL sn bl++r)) ⟨rfl,rfl⟩ (fun i ys H' hi h=>⟨h.1 ▸ SqL.of e1,by rw [h.2,zo,length_map,length_take];omega⟩) ?_ ?_
  ·rintro i v ys H2 hv hi ⟨rfl,rfl⟩
   obtain ⟨c,hc2,rfl⟩:=yR hv
   have cb:=sb1 c (mem_of_getElem? hc2)
   walk_at "rd"
   refine nxC hi ⟨rfl,?_⟩
   rw [take_succ,hc2,map_append,<- xz];rfl
  ·rintro ys H2 ⟨rfl,rfl⟩ p2 H3 g3 n3 e3
   rw [take_of_length_le (by rw [zo];exact Nat.le_refl _)] at e3
   have F3:=F1.same g3
   have g03:=g1.trans g3
   generalize hcs:(Vl t (stL sn bl) wd f).map (fun r=>stL sn bl++r)=cs at e3
   have lcs:cs.length<=41:=by rw [<- hcs,length_map];exact sl1
   have bcs : ∀ c ∈ cs,c.length<=400:=fun c hc=>by
    rw [<- hcs] at hc
    obtain ⟨r,hr,rfl⟩:=List.mem_map.mp hc
    have:=sb1 r hr
    rw [length_append];omega
   walk_at "rd"
   refine z8 (SqL.of e3) (small (by rw [zo];omega)) (fun i ys H'=>zT H3 H'/\ys=tsV ((cs.take i).filter (nwd wd st))) ⟨zT.refl _,rfl⟩ (fun i ys H' hi h=>⟨SqL.of (h.1.at e3),by rw [h.2,zo];exact Nat.le_trans (length_filter_le _ _) (by rw [length_take];omega)⟩) ?_ ?_
   ·rintro i v ys H4 hv hi ⟨g4,rfl⟩
    obtain ⟨c,hc2,rfl⟩:=yR hv
    have F4:=F3.same g4
    have cb:=bcs c (mem_of_getElem? hc2)
    walk_at "rd"
    ·rename_i hk
     refine nxC hi ⟨g4,?_⟩
     rw [K1 hc2,filter_cons_of_pos (show nwd wd st c=true from hk),<- xz];rfl
    ·rename_i hk
     refine nxC hi ⟨g4,?_⟩
     rw [K1 hc2,filter_cons_of_neg (show ¬ nwd wd st c=true by unfold nwd;rw [hk];decide),filter_nil,append_nil]
   ·rintro ys H4 ⟨g4,rfl⟩ p4 H5 g5 n5 e5
    rw [take_of_length_le (by rw [zo];exact Nat.le_refl _)] at e5
    exact q _ _ (g03.trans (g4.trans g5)) (by rw [ec true hc,hcs];exact e5)
 ·rename_i hc
  have sx:y4 x:=ok.x.elim id fun z=>absurd z hc
  refine Qb (.num F0) sx (by omega) w0 w1 fun l1 H1 g1 e1=>?_
  exact q _ _ g1 (by unfold cin;rw [if_neg hc];exact e1)
def jh (K:W.Frag) (C:Addr):Sp:=fun vs H Q _=>∃ (a:Addr) (fg pl b:Int) (sn:Str) (z:Int) (m pt:Nat) (wy:Str) (wd:Int) (f:Nat) (x:Str) (st:Bool) (t:List Nat) (bl:Bool),vs=[.ref a,.str (T t),.bl bl]/\zV K H a C wd f x st (qm fg pl b sn z m pt wy)/\kx fg pl b sn z m pt wy wd f x/\Asc t/\t.length<=300 /\ ∀ l H',zT H H'->H' l=some (.lst (((cin t sn bl wd f x st).filterMap (qO fg pl b sn z m pt bl)).map V.int))->Q (.ref l) H'
theorem JH {a:Addr} {pt:Nat} {t:List Nat} (h1:zV K H a C wd f x st (qm fg pl b sn z m pt wy)) (h2:kx fg pl b sn z m pt wy wd f x) (h4:Asc t) (h5:t.length<=300) (q : ∀ l H',zT H H'->H' l=some (.lst (((cin t sn bl wd f x st).filterMap (qO fg pl b sn z m pt bl)).map V.int))->Q (.ref l) H'):jh K C (.ref a::([.str (T t),.bl bl]++[])) H Q E:=⟨a,fg,pl,b,sn,z,m,pt,wy,wd,f,x,st,t,bl,rfl,h1,h2,h4,h5,q⟩
theorem zKC (g:List Nat->Option Int) (cs:List (List Nat)):((cs.map fun c=>oV (g c)).filter fun v=>decide (v ≠ .non))=(cs.filterMap g).map V.int:=by
 induction cs with
 | nil=>rfl
 | cons c cs ih =>
  rw [map_cons,filterMap_cons]
  cases h:g c with
  | none=>rw [filter_cons_of_neg (by simp [oV]),ih]
  | some k=>rw [filter_cons_of_pos (by simp [oV]),ih];rfl
include Z in
theorem jq:Gx P w K mg base CX0 "numbers_in" [zE] 6 ["self", "text", "below"] (jh K zE):=by
 refine KI Z.bq (l3N (by intros;rfl)) fun fq fd F=>?_
 refine F.ok jZ (fun vs H Q E=>?_) (fun _ _ _ s H vs Q E hr h=>?_)
 ·walk_at "ln"
 obtain ⟨a,fg,pl,b,sn,z,m,pt,wy,wd,f,x,st,t,bl,rfl,F0,ok,at',ht,q⟩:=h
 refine ⟨_,zC (yY (cl:=[("self", s.heap.objs.size+1+0),("below", s.heap.objs.size+1+1)]) (fr:=["below", "self"]) (is:=[2,0]) (i:=3) jZ.nd rfl (Or.inl rfl) rfl rfl rfl ⟨rfl,⟨rfl,trivial⟩⟩ rfl ⟨⟨rfl,rfl,Or.inl rfl⟩,⟨⟨rfl,rfl,Or.inl rfl⟩,trivial⟩⟩ (by decide) (by decide +kernel) rfl (by decide +kernel) rfl (jF (zc (ym (ku Z) in0 :) Z.cg qu hr (pv 0) (zA (pv 1) (zA (pv 2) (zB))))) (fun _ _ _ _=>qz) (fun _ _ _ _=>zc (ym (yW Z) in0 :) Z.cg qu hr (pv 2) (zA (pv 0) (zA (pv 1) (zB)))))
  (zG (zL (jV (cl:=[]) (fr:=[]) (is:=[]) rfl rfl trivial rfl trivial (by decide) (by decide +kernel) rfl (by decide +kernel) rfl (jF (pv 3)) (fun _ _ _ _=>yw (zQ zEn (pv 0) (Kp) (zS _))) (fun _ _ _ _=>pv 0)))),?_⟩
 walk_at "st"
 have ul:=VT (t:=t) (sn:=sn) (bl:=bl) (f:=f) (x:=x) (st:=st) ok.wd2
 have ub:=zH4 (t:=t) (bl:=bl) (wd:=wd) (f:=f) (x:=x) (st:=st) ok.sn
 walk_at "rd"
 refine ⟨a,fg,pl,b,sn,z,m,pt,wy,wd,f,x,st,t,bl,rfl,F0,ok,ht,fun l1 H1 g1 e1=>?_⟩
 have F1:=F0.same g1
 refine z8 (SqL.of e1) (small (by rw [zo];omega)) (fun i ys H'=>zT H1 H'/\ys=((cin t sn bl wd f x st).take i).map fun c=>oV (qO fg pl b sn z m pt bl c)) ⟨zT.refl _,rfl⟩ (fun i ys H' hi h=>⟨SqL.of (h.1.at e1),by rw [h.2,length_map,length_take];omega⟩) ?_ ?_
 ·rintro i v ys H2 hv hi ⟨g2,rfl⟩
  obtain ⟨c,hc,rfl⟩:=yR hv
  have F2:=F1.same g2
  have cb:=ub c (mem_of_getElem? hc)
  walk_at "rd"
  refine Ys F2 ok (cb.2 at') (by omega) fun H3 g3=>nxC hi ⟨g2.trans g3,?_⟩
  rw [take_succ,hc,map_append];rfl
 ·rintro ys H2 ⟨g2,rfl⟩ p2 H3 g3 n3 e3
  rw [take_of_length_le (by rw [zo];exact Nat.le_refl _)] at e3
  have g03:=g1.trans (g2.trans g3)
  walk_at "rd"
  generalize hks:(cin t sn bl wd f x st).map (fun c=>oV (qO fg pl b sn z m pt bl c))=ks at e3
  have lk:ks.length<=41:=by rw [<- hks,length_map];exact ul
  refine z8 (SqL.of e3) (small (by omega)) (fun i ys H'=>zT H3 H'/\ys=(ks.take i).filter fun v=>decide (v ≠ .non)) ⟨zT.refl _,rfl⟩ (fun i ys H' hi h=>⟨SqL.of (h.1.at e3),by rw [h.2];exact Nat.le_trans (length_filter_le _ _) (by rw [length_take];omega)⟩) ?_ ?_
  ·rintro i v ys H4 hv hi ⟨g4,rfl⟩
   have hm:v ∈ (cin t sn bl wd f x st).map fun c=>oV (qO fg pl b sn z m pt bl c):=hks ▸ mem_of_getElem? hv
   obtain ⟨c,_,hov⟩:=List.mem_map.mp hm
   cases ho:qO fg pl b sn z m pt bl c with
   | none =>
    have hov:V.non=v:=by rw [ho] at hov;exact hov
    subst hov
    walk_at "rd"
    refine ⟨rfl,?_⟩
    rw [decide_eq_true rfl]
    walk_at "rd"
    refine nxC hi ⟨g4,?_⟩
    rw [K1 hv,filter_cons_of_neg (by simp),filter_nil,append_nil]
   | some k =>
    have hov:V.int k=v:=by rw [ho] at hov;exact hov
    subst hov
    walk_at "rd"
    refine zGo ?_
    walk_at "rd"
    refine nxC hi ⟨g4,?_⟩
    rw [K1 hv,filter_cons_of_pos (by simp),filter_nil]
  ·rintro ys H4 ⟨g4,rfl⟩ p4 H5 g5 n5 e5
   rw [take_length,<- hks,zKC] at e5
   exact q _ _ (g03.trans (g4.trans g5)) e5
noncomputable def nks (fg pl b:Int) (sn:Str) (z:Int) (m pt:Nat) (wd:Int) (f:Nat) (x:Str) (st:Bool) (t:List Nat):List Int:=(cin t sn false wd f x st).filterMap (qO fg pl b sn z m pt false)++(cin t sn true wd f x st).filterMap (qO fg pl b sn z m pt true)
def jY (K:W.Frag) (C:Addr):Sp:=fun vs H Q _=>∃ (a:Addr) (fg pl b:Int) (sn:Str) (z:Int) (m pt:Nat) (wy:Str) (wd:Int) (f:Nat) (x:Str) (st:Bool) (t:List Nat),vs=[.ref a,.str (T t)]/\zV K H a C wd f x st (qm fg pl b sn z m pt wy)/\kx fg pl b sn z m pt wy wd f x/\Asc t/\t.length<=300 /\ ∀ l H' us ms,zT H H'->H' l=some (.lst us)->ms.Perm (nks fg pl b sn z m pt wd f x st t)->ms.Pairwise (· <= ·)->Al (RT H' (b ^ pl.toNat)) us ms->Q (.ref l) H'
include Z in
theorem yn:Gx P w K mg base CX0 "values_for" [zE] 7 ["self", "text"] (jY K zE):=by
 refine KI Z.br (l2N (by intros;rfl)) fun fq fd F=>?_
 refine F.ok jk (fun vs H Q E=>?_) (fun _ _ _ s H vs Q E hr h=>?_)
 ·walk_at "ln"
 obtain ⟨a,fg,pl,b,sn,z,m,pt,wy,wd,f,x,st,t,rfl,F0,ok,at',ht,q⟩:=h
 refine ⟨_,zC (zM (i:=2) jk.nd rfl (Or.inl rfl) (zP jf (zc (ym (jq Z) in0) Z.cg qu hr (pv 0) (zA (pv 1) (zA (xE) (zB)))) (zc (ym (jq Z) in0) Z.cg qu hr (pv 0) (zA (pv 1) (zA (xE) (zB))))))
  (zG (zL (jV (cl:=[("self", s.heap.objs.size+1+0)]) (fr:=["self"]) (is:=[0]) rfl rfl ⟨rfl,trivial⟩ rfl ⟨⟨rfl,rfl,Or.inl rfl⟩,trivial⟩ (by decide) (by decide +kernel) rfl (by decide +kernel) rfl (jF (zK Wa Z.aC rfl Vr (zA (pv 2) (zB)))) (fun _ _ _ _=>qz) (fun _ _ _ _=>zF (Qy Z :) hr rfl (zA (pv 0) (zA (yT (K:=K) rfl (pv 1) rfl) (zA (yT (K:=K) rfl (pv 1) rfl) (zB)))))))),?_⟩
 walk_at "st"
 have tw:=zC6 (fg:=fg) (pl:=pl) (b:=b) (z:=z) (m:=m) (pt:=pt) (t:=t) (f:=f) (x:=x) (st:=st) ok.sn ok.wd2
 have o3:=ok.pl1;have o4:=ok.pl2;have o5:=ok.b1;have o6:=ok.b2
 walk_at "rd"
 refine JH F0 ok at' ht fun l1 H1 g1 e1=>?_
 have F1:=F0.same g1
 walk_at "rd"
 refine JH F1 ok at' ht fun l2 H2 g2 e2=>?_
 have F2:=F1.same g2
 have e12:=g2.at e1
 generalize hA:(cin t sn false wd f x st).filterMap (qO fg pl b sn z m pt false)=A at *
 generalize hB:(cin t sn true wd f x st).filterMap (qO fg pl b sn z m pt true)=Bs at *
 walk_at "rd"
 refine zIw e12 e2 (small (by rw [length_map,length_map];omega)) fun l3 H3 g3 e3=>?_
 rw [<- map_append] at e3
 have F3:=F2.same g3
 walk_at "rd"
 refine zDu (SqL.of e3) (by rw [length_append];omega) fun ms l4 H4 pm ps g4 e4=>?_
 have F4:=F3.same g4
 have lm:ms.length<=42:=by rw [pm.length_eq,length_append];omega
 refine z8 (SqL.of e4) (small (by rw [length_map];omega)) (fun i ys H'=>zT H4 H'/\Al (RT H' (b ^ pl.toNat)) ys (ms.take i)) ⟨zT.refl _,.nil⟩ (fun i ys H' hi h=>⟨SqL.of (h.1.at e4),by rw [h.2.len,length_take];omega⟩) ?_ ?_
 ·rintro i v ys H5 hv hi ⟨g5,al⟩
  obtain ⟨k,hk,rfl⟩ : ∃ k,ms[i]? = some k/\v = .int k:=by
   rw [getElem?_map] at hv
   cases hc:ms[i]? with
   | none=>rw [hc] at hv;cases hv
   | some c=>rw [hc] at hv;cases hv;exact ⟨c,rfl,rfl⟩
  have F5:=F4.same g5
  walk_at "rd"
  rename_i p6 H6 g6 e6
  refine nxC hi ⟨g5.trans g6,?_⟩
  rw [take_succ,hk]
  exact (al.imp fun _ _ h=>h.same g6).app (.one ⟨p6,rfl,e6⟩)
 ·rintro ys H5 ⟨g5,al⟩ p6 H6 g6 n6 e6
  rw [take_of_length_le (by rw [length_map];exact Nat.le_refl _)] at al
  refine q _ _ _ ms (by walk_at "sm") e6 ?_ ps (al.imp fun _ _ h=>h.same g6)
  unfold nks
  rw [hA,hB]
  exact pm
theorem zHp (e:X.K=K):OpR X (compareOp .In) (rIn K false):=e ▸ zC8
def cvs (ns:List (List Nat)) (t:List Nat) (wd:Int) (f:Nat) (x:Str) (st:Bool):List (List Nat):=ns.filter fun n=>decide (n ∈ ucs t wd f x st)
def jX (K:W.Frag) (C:Addr):Sp:=fun vs H Q _=>∃ (a L:Addr) (ns:List (List Nat)) (wd:Int) (f:Nat) (x:Str) (st:Bool) (t:List Nat),vs=[.ref a,.str (T t)]/\zV K H a C wd f x st (Ke L)/\H L=some (.lst (tsV ns))/\ns.length<=40/\y4 x/\0<=wd/\wd<=40/\t.length<=400 /\ ∀ l H',zT H H'->H' l=some (.lst (tsV (cvs ns t wd f x st)))->Q (.ref l) H'
include Z in
theorem yp:Gx P w K mg base CX0 "values_for" [zJ] 5 ["self", "text"] (jX K zJ):=by
 refine KI Z.bs (l2N (by intros;rfl)) fun fq fd F=>?_
 refine F.ok jj (fun vs H Q E=>?_) (fun _ _ _ s H vs Q E hr h=>?_)
 ·walk_at "ln"
 obtain ⟨a,L,ns,wd,f,x,st,t,rfl,F0,e0,nl,hs,w0,w1,ht,q⟩:=h
 refine ⟨_,zC (zM (i:=2) jj.nd rfl (Or.inr rfl) (zc (ym (xo Z) in1) Z.cm qu hr (pv 0) (zA (pv 1) (zB))))
  (zG (zL (jV (cl:=[("cores", s.heap.objs.size+1+0)]) (fr:=["cores"]) (is:=[2]) rfl rfl ⟨rfl,trivial⟩ rfl ⟨⟨rfl,rfl,Or.inl rfl⟩,trivial⟩ (by decide) (by decide +kernel) rfl (by decide +kernel) rfl (jF (ze (pv 0) rfl)) (fun _ _ _ _=>yw (zQ (zHp (K:=K) rfl) (pv 0) (pv 1) (by with_unfolding_all rfl))) (fun _ _ _ _=>pv 0)))),?_⟩
 walk_at "st"
 walk_at "rd"
 refine Qb (.cho F0) hs ht w0 w1 fun l1 H1 g1 e1=>?_
 have F1:=F0.same g1
 have e01:=g1.at e0
 walk_at "rd"
 refine z8 (SqL.of e01) (small (by rw [zo];omega)) (fun i ys H'=>zT H1 H'/\ys=tsV ((ns.take i).filter fun n=>decide (n ∈ ucs t wd f x st))) ⟨zT.refl _,rfl⟩ (fun i ys H' hi h=>⟨SqL.of (h.1.at e01),by rw [h.2,zo];exact Nat.le_trans (length_filter_le _ _) (by rw [length_take];omega)⟩) ?_ ?_
 ·rintro i v ys H2 hv hi ⟨g2,rfl⟩
  obtain ⟨c,hc,rfl⟩:=yR hv
  have e12:=g2.at e1
  walk_at "rd"
  ·rename_i hk
   refine nxC hi ⟨g2,?_⟩
   rw [K1 hc,filter_cons_of_pos (p:=fun n=>decide (n ∈ ucs t wd f x st)) (decide_eq_true hk),<- xz];rfl
  ·rename_i hk
   refine nxC hi ⟨g2,?_⟩
   rw [K1 hc,filter_cons_of_neg (p:=fun n=>decide (n ∈ ucs t wd f x st)) (by simpa using hk),filter_nil,append_nil]
 ·rintro ys H2 ⟨g2,rfl⟩ p2 H3 g3 n3 e3
  rw [take_of_length_le (by rw [zo];exact Nat.le_refl _)] at e3
  exact q _ _ (g1.trans (g2.trans g3)) e3
def wvs (sg:List Nat) (lo hi:Int) (t:List Nat) (wd:Int) (f:Nat) (x:Str) (st:Bool):List (List Nat):=(ucs t wd f x st).filter fun c=>decide (Isw sg lo hi c)
def jy (K:W.Frag) (C:Addr):Sp:=fun vs H Q _=>∃ (a:Addr) (sg:List Nat) (lo hi:Int) (wd:Int) (f:Nat) (x:Str) (st:Bool) (t:List Nat),vs=[.ref a,.str (T t)]/\zV K H a C wd f x st (kR sg lo hi)/\y4 x/\0<=wd/\wd<=40/\t.length<=400 /\ ∀ l H' ds,zT H H'->H' l=some (.lst (tsV ds))->ds.Perm (wvs sg lo hi t wd f x st)->Q (.ref l) H'
include Z in
theorem ZA:Gx P w K mg base CX0 "values_for" [zI] 5 ["self", "text"] (jy K zI):=by
 refine KI Z.bt (l2N (by intros;rfl)) fun fq fd F=>?_
 refine F.ok kL (fun vs H Q E=>?_) (fun _ _ _ s H vs Q E hr h=>?_)
 ·walk_at "ln"
 obtain ⟨a,sg,lo,hi,wd,f,x,st,t,rfl,F0,hs,w0,w1,ht,q⟩:=h
 refine ⟨_,zG (zL (zK Vo Z.aC rfl Vr (zA (jV (cl:=[("self", s.heap.objs.size+1+0)]) (fr:=["self"]) (is:=[0]) rfl rfl ⟨rfl,trivial⟩ rfl ⟨⟨rfl,rfl,Or.inl rfl⟩,trivial⟩ (by decide) (by decide +kernel) rfl (by decide +kernel) rfl (jF (zc (ym (xo Z) in2 :) Z.cj qu hr (pv 0) (zA (pv 1) (zB)))) (fun _ _ _ _=>yw (qH (zc (ym (yO Z) in0 :) Z.cj qu hr (pv 1) (zA (pv 0) (zB))))) (fun _ _ _ _=>pv 0)) (zB)))),?_⟩
 walk_at "st"
 obtain ⟨ul,ub⟩:=W0 (t:=t) (f:=f) (x:=x) (st:=st) w1
 walk_at "rd"
 refine Qb (.word F0) hs ht w0 w1 fun l1 H1 g1 e1=>?_
 have F1:=F0.same g1
 refine z8 (SqL.of e1) (small (by rw [zo];omega)) (fun i ys H'=>zT H1 H'/\ys=tsV (((ucs t wd f x st).take i).filter fun c=>decide (Isw sg lo hi c))) ⟨zT.refl _,rfl⟩ (fun i ys H' hi h=>⟨SqL.of (h.1.at e1),by rw [h.2,zo];exact Nat.le_trans (length_filter_le _ _) (by rw [length_take];omega)⟩) ?_ ?_
 ·rintro i v ys H2 hv hi' ⟨g2,rfl⟩
  obtain ⟨c,hc,rfl⟩:=yR hv
  have F2:=F1.same g2
  have cb:=(ub c (mem_of_getElem? hc)).1
  walk_at "rd"
  ·rename_i H3 g3 hk
   refine nxC hi' ⟨g2.trans g3,?_⟩
   rw [K1 hc,filter_cons_of_pos (p:=fun c=>decide (Isw sg lo hi c)) (by simpa using hk),<- xz];rfl
  ·rename_i H3 g3 hk
   refine nxC hi' ⟨g2.trans g3,?_⟩
   rw [K1 hc,filter_cons_of_neg (p:=fun c=>decide (Isw sg lo hi c)) (by simpa using hk),filter_nil,append_nil]
 ·rintro ys H2 ⟨g2,rfl⟩ p2 H3 g3 n3 e3
  rw [take_of_length_le (by rw [zo];exact Nat.le_refl _)] at e3
  walk_at "rd"
  refine zCE e3 (Nat.lt_of_le_of_lt (length_filter_le _ _) (by omega)) fun ds l4 H4 pm g4 e4=>?_
  exact q _ _ _ (g1.trans (g2.trans (g3.trans g4))) e4 pm
def RP (H:Hp) (P:Addr->Prop) (v:V) (x:Ce × Ce):Prop:=∃ t a b,v = .ref t/\(P t/\P a/\P b)/\H t=some (.tup [.ref a,.ref b])/\H a=some (.lst (tsV x.1))/\H b=some (.lst (tsV x.2))
def Tr:Addr->Prop:=fun _=>True
variable {cs:Ce}
theorem RL.same {P:Addr->Prop} (g:zT H H') (h:RL H P v cs):RL H' P v cs:=let ⟨q,e,p,k⟩:=h;⟨q,e,p,g.at k⟩
theorem RL.wk {P P':Addr->Prop} (f : ∀ a,P a->P' a) (h:RL H P v cs):RL H P' v cs:=let ⟨q,e,p,k⟩:=h;⟨q,e,f _ p,k⟩
theorem RP.same {P:Addr->Prop} {x:Ce × Ce} (g:zT H H') (h:RP H P v x):RP H' P v x:=let ⟨t,a,b,e,p,k,k1,k2⟩:=h;⟨t,a,b,e,p,g.at k,g.at k1,g.at k2⟩
theorem RP.wk {P P':Addr->Prop} {x:Ce × Ce} (f : ∀ a,P a->P' a) (h:RP H P v x):RP H P' v x:=let ⟨t,a,b,e,p,k,k1,k2⟩:=h;⟨t,a,b,e,⟨f _ p.1,f _ p.2.1,f _ p.2.2⟩,k,k1,k2⟩
theorem RL.put {P:Addr->Prop} {l:Addr} (n : ∀ a,P a->a≠l) (h:RL H P v cs):RL (upd H l o) P v cs:=let ⟨q,e,p,k⟩:=h;⟨q,e,p,by rw [qB (n _ p)];exact k⟩
theorem RP.put {P:Addr->Prop} {l:Addr} {x:Ce × Ce} (n : ∀ a,P a->a≠l) (h:RP H P v x):RP (upd H l o) P v x:=let ⟨t,a,b,e,p,k,k1,k2⟩:=h;⟨t,a,b,e,p,by rw [qB (n _ p.1)];exact k,by rw [qB (n _ p.2.1)];exact k1,by rw [qB (n _ p.2.2)];exact k2⟩
theorem zG9 (n:Nat) (c:List Nat):(List.replicate n [V.str (T c)]).flatten=tsV (List.replicate n c):=by
 induction n with
 | zero=>rfl
 | succ n ih=>rw [List.replicate_succ,flatten_cons,ih];rfl
theorem zD8 (l:Ce) (n:Nat):(tsV l).take n=tsV (l.take n):=by unfold tsV;rw [List.map_take]
theorem zEh (l:Ce) (n:Nat):(tsV l).drop n=tsV (l.drop n):=by unfold tsV;rw [List.map_drop]
section
variable {K : W.Frag} {H : Hp} {Q : VK}
theorem zG8 {c:List Nat} (q : ∀ p H',zT H H'->H p=none->H' p=some (.lst (tsV [c]))->Q (.ref p) H'):zJr Q [.str (T c)] H:=Qe (small (by simp only [length_cons,length_nil];decide)) fun p H1 g n e=>q p H1 g n e
theorem zGv (q : ∀ p H',zT H H'->H p=none->H' p=some (.lst (tsV []))->Q (.ref p) H'):zJr Q [] H:=Qe (small (by simp only [length_cons,length_nil];decide)) fun p H1 g n e=>q p H1 g n e
variable {xs:Ce}
theorem zE4 {l b:Addr} {zs:Ce} (h1:H l=some (.lst (tsV xs))) (h2:H b=some (.lst (tsV zs))) (hz:xs.length+zs.length<=900) (q : ∀ p H',zT H H'->H p=none->H' p=some (.lst (tsV (xs++zs)))->Q (.ref p) H'):zKT (.ref l) (.ref b) H Q:=
 ⟨l,b,_,_,rfl,rfl,h1,h2,Nat.le_of_lt (qK (by rw [zo,zo];omega)),fun p hp=>q p _ (qM (zT.refl _) hp) hp (by rw [zR];unfold tsV;rw [map_append])⟩
theorem zIY {l:Addr} {c:List Nat} (h1:H l=some (.lst (tsV [c]))) (h0 : -1000<=k) (hk:k<=900) (q : ∀ p H',zT H H'->H p=none->H' p=some (.lst (tsV (List.replicate k.toNat c)))->Q (.ref p) H'):zKy (.ref l) (.int k) H Q:=
 ⟨l,k,_,rfl,rfl,h1,by omega,by omega,Nat.le_of_lt (qK (by rw [zo,length_singleton];omega)),fun p hp=>q p _ (qM (zT.refl _) hp) hp (by rw [zR,<- zG9];rfl)⟩
theorem zHS {a:Addr} {ys:Ce} {lo hi:Option Int} (h:H a=some (.lst (tsV xs))) (e:(xs.drop (HT.sIx xs.length 0 lo)).take (HT.sIx xs.length xs.length hi - HT.sIx xs.length 0 lo)=ys) (q : ∀ p H',zT H H'->H p=none->H' p=some (.lst (tsV ys))->Q (.ref p) H'):zJn K (.ref a) lo hi H Q:=
 ⟨a,_,rfl,SqL.of h,fun p hp=>q p _ (qM (zT.refl _) hp) hp (by rw [zR,<- e];unfold zFE;rw [zo,zEh,zD8])⟩
theorem JW {d:Nat} {v:Int} (h:0<=v):HT.sIx n d (some v)=min v.toNat n:=by
 show (if v < 0 then (v+(n:Int)).toNat else min v.toNat n)=_
 rw [if_neg (by omega)]
theorem zKt {a:Addr} {j:Int} (h:H a=some (.lst (tsV xs))) (h0:0<=i) (h1:0<=j) (q : ∀ p H',zT H H'->H p=none->H' p=some (.lst (tsV ((xs.take j.toNat).drop i.toNat)))->Q (.ref p) H'):zJn K (.ref a) (some i) (some j) H Q:=by
 refine zHS h ?_ q
 rw [JW h0,JW h1,List.drop_take]
 rcases le_total i.toNat xs.length with z | z
 ·rw [min_eq_left z]
  rcases le_total j.toNat xs.length with y | y
  ·rw [min_eq_left y]
  ·rw [Nat.min_eq_right y,take_of_length_le (by rw [length_drop];exact Nat.le_refl _),take_of_length_le (by rw [length_drop];omega)]
 ·rw [Nat.min_eq_right z,List.drop_of_length_le (Nat.le_refl _),List.drop_of_length_le z,take_nil,take_nil]
theorem zII {a:Addr} {j:Int} (h:H a=some (.lst (tsV xs))) (h1:0<=j) (q : ∀ p H',zT H H'->H p=none->H' p=some (.lst (tsV (xs.take j.toNat)))->Q (.ref p) H'):zJn K (.ref a) none (some j) H Q:=by
 refine zHS h ?_ q
 rw [HT.sIx_none,JW h1,List.drop_zero,Nat.sub_zero]
 rcases le_total j.toNat xs.length with y | y
 ·rw [min_eq_left y]
 ·rw [Nat.min_eq_right y,take_length,take_of_length_le y]
theorem zDn {a:Addr} (h:H a=some (.lst (tsV xs))) (h0:0<=i) (q : ∀ p H',zT H H'->H p=none->H' p=some (.lst (tsV (xs.drop i.toNat)))->Q (.ref p) H'):zJn K (.ref a) (some i) none H Q:=by
 refine zHS h ?_ q
 rw [HT.sIx_none,JW h0]
 rcases le_total i.toNat xs.length with z | z
 ·rw [min_eq_left z,take_of_length_le (by rw [length_drop];exact Nat.le_refl _)]
 ·rw [Nat.min_eq_right z,List.drop_of_length_le (Nat.le_refl _),List.drop_of_length_le z,take_nil]
theorem zJP {ys:Ce} (h:H p=some (.lst (tsV ys))) (q:Q (.int ys.length) H):zDZ K [.ref p] H Q:=zFA (SqL.of h) (by rw [zo];exact q)
end
local macro_rules | `(tactic| walk_at "rd1")=>`(tactic| first | (with_reducible refine zDg ?_) | fail "none")
local macro_rules | `(tactic| walk_at "rd1")=>`(tactic| first | ((with_reducible refine' zJP ?h ?_);(case h=>walk_at "hp")) | fail "none")
local macro_rules | `(tactic| walk_at "rd1")=>`(tactic| first | ((with_reducible refine' Qe ?hz ?_);(case hz=>exact small (by simp only [length_cons,length_nil];decide));intro p' H' g' n' e') | fail "none")
local macro_rules | `(tactic| walk_at "rd1")=>`(tactic| first | ((with_reducible refine zGv ?_);intro p' H' g' n' e') | fail "none")
local macro_rules | `(tactic| walk_at "rd1")=>`(tactic| first | ((with_reducible refine zG8 ?_);intro p' H' g' n' e') | fail "none")
local macro_rules | `(tactic| walk_at "rd1")=>`(tactic| first | ((with_reducible refine' zE4 ?h1 ?h2 ?hz ?_);(case h1|h2=>walk_at "hp");(case hz=>walk_at "tl");intro p' H' g' n' e') | fail "none")
local macro_rules | `(tactic| walk_at "rd1")=>`(tactic| first | ((with_reducible refine' zIY ?h1 ?h0 ?hk ?_);(case h1=>walk_at "hp");(case h0|hk=>omega);intro p' H' g' n' e') | fail "none")
local macro_rules | `(tactic| walk_at "rd1")=>`(tactic| first | ((with_reducible refine' zKt ?h ?h0 ?h1 ?_);(case h=>walk_at "hp");(case h0|h1=>omega);intro p' H' g' n' e') | ((with_reducible refine' zII ?h ?h1 ?_);(case h=>walk_at "hp");(case h1=>omega);intro p' H' g' n' e') | ((with_reducible refine' zDn ?h ?h0 ?_);(case h=>walk_at "hp");(case h0=>omega);intro p' H' g' n' e'))
local macro_rules | `(tactic| walk_at "rd1")=>`(tactic| first | ((with_reducible refine' zHJ ?hz ?_);(case hz=>omega);intro p' H' g' n' e') | fail "none")
theorem zDs {α:Type} {R:Hp->V->α->Prop} {H0 H1:Hp} {l:Addr} {as:List α} {a:α} (st : ∀ H o v a,R H v a->R (upd H l o) v a) (n:H0 l=none) (g:zT H0 H1) (e:H1 l=some (.lst vs)) (al:Al (R H1) vs as) (hv:R H1 v a) (hz:as.length<=900)
  (q : ∀ H2 us,zT H0 H2->H2 l=some (.lst us)->Al (R H2) us (as++[a])->Q .non H2):Ym (.ref l) [v] H1 Q:=
 Je e (qK (by rw [al.len];omega)) (q _ _ (qM g n) zR ((al.app (.one hv)).imp fun v a h=>st _ _ v a h))
theorem zGD {l:Addr} : ∀ (H:Hp) (o:HO) (v:V) (cs:Ce),RL H (· ≠ l) v cs->RL (upd H l o) (· ≠ l) v cs:=fun _ _ _ _ h=>h.put fun _ z=>z
local macro_rules | `(tactic| walk_at "tl")=>`(tactic| (simp only [length_map,length_append,length_replicate,length_cons,length_nil,length_take,length_drop];first | (with_reducible refine Nat.le_trans (sub_le _ _) (Nat.le_trans (min_le_right _ _) ?_);omega) | (with_reducible refine Nat.le_trans (sub_le _ _) ?_;omega) | (with_reducible refine Nat.le_trans (min_le_right _ _) ?_;omega) | omega))
local macro_rules | `(tactic| walk_at "fm")=>`(tactic| first | assumption | (refine' zV.same ?s (by assumption);(case s=>walk_at "sm")))
include Z in
theorem KQ:Has P w K mg base "parts_of" 1 ["text", "size", "between"] (QK K):=by
 refine jm Z.kn Z.f8 (l3N (by intros;rfl)) fun fq fd F=>?_
 refine F.ok qw (fun vs H Q E=>?_) (fun _ _ _ s H vs Q E hr h=>?_)
 ·walk_at "ln"
 obtain ⟨p,a,z,rfl,hp,h1,h2,h5,q⟩:=h
 refine ⟨_,zC (zM (i:=3) qw.nd rfl (Or.inl rfl) (zl (zB)))
  (zC (zM (i:=4) qw.nd rfl (Or.inl rfl) (zK qj Z.ao rfl qD (zA (pv 0) (zB))))
  (zC (QC PassesOwn.never (zQ kM (pv 4) (zD) (zS _)) (zC (jB (yz PySem.F.plainAttrs_list PySem.F.slot_list_append PySem.F.type_list_append xL (pv 3) (zA (zk QT (pv 0) (zm (zK (xm rfl) Z.au rfl YF (zA (zD) (zA (zP qt (pv 4) (pv 1)) (zB))))) (zm (pv 4))) (zB))))
  (zG (zM (i:=4) qw.nd rfl (Or.inl rfl) (zP qt (zP qt (pv 4) (pv 1)) (pv 2))))))
  (zC (jB (zFW PySem.F.plainAttrs_list PySem.F.slot_list_reverse PySem.F.type_list_reverse YY (pv 3)))
  (zG (zL (pv 3)))))),?_⟩
 walk_at "st"
 refine zHb (zHE (zFh (zHK (Qe (by decide) fun l H1 g1 n1 e1=>?_))))
 walk_at "rd"
 refine XR (fun k σ H'=>∃ (e:Int) (qs:List V) (pss:List Ce),σ=[some (.ref p),some (.int z),some (.int 0),some (.ref l),some (.int e)]/\zT H H'/\H' l=some (.lst qs)/\Al (RL H' (fun q=>q≠l/\H q=none)) qs pss/\k=e.toNat/\pss.length+e.toNat<=a.length/\e<=a.length/\pcA a z.toNat a.length=pcA a z.toNat e.toNat++pss.reverse) ⟨_,a.length,[],[],rfl,g1,e1,.nil,rfl,by simp,Int.le_refl _,by simp⟩ ?_
 rintro k σ H2 ⟨e,qs,pss,rfl,g2,e2,al,rfl,b1,b2,ep⟩
 have hp2:=g2.at hp
 walk_at "rd"
 ·rename_i hc k' hk' p3 H3 g3 n3 e3
  refine zDs (R:=fun H'=>RL H' (fun q=>q≠l/\H q=none)) (fun _ _ _ _ h=>h.put fun _ z=>z.1) n1 (g2.trans g3) (g3.at e2) (al.imp fun _ _ h=>h.same g3) ⟨p3,rfl,⟨WZ n3 e2,none_of g2 n3⟩,e3⟩ (by omega) fun H4 us g4 e4 al4=>?_
  walk_at "rd"
  refine ⟨(e - z - 0).toNat,by omega,e - z - 0,us,_,rfl,g4,e4,al4,rfl,by rw [length_append,length_singleton];omega,by omega,?_⟩
  rw [ep,QZ (by omega) (by omega),List.reverse_append,show (e - z - 0).toNat=e.toNat - z.toNat by rw [Int.sub_zero,tns (by omega)],show k'.toNat=e.toNat - z.toNat by rw [<- tns (by omega)];omega]
  simp
 ·rename_i hc
  refine Kr e2 ?_
  walk_at "rd"
  refine q _ _ _ (qM g2 n1) n1 zR ?_
  rw [ep,show e.toNat=0 by omega,xB,nil_append]
  exact (al.rev).imp fun v a h=>(h.put fun _ z=>z.1).wk fun _ z=>z.2
theorem WQ {a:Ce} (h0:H p=some (.lst (tsV a))) (h1:0 < z) (h2:z<=9) (h5:a.length<=400) (q : ∀ l H' qs,zT H H'->H l=none->H' l=some (.lst qs)->Al (RL H' (fun q=>H q=none)) qs (pcA a z.toNat a.length)->Q (.ref l) H'):QK K ([.ref p,.int z,.int 0]++[]) H Q E:=⟨p,a,z,rfl,h0,h1,h2,h5,q⟩
local macro_rules | `(tactic| walk_at "rdc")=>`(tactic| first | ((with_reducible refine' WQ ?h0 ?h1 ?h2 ?h5 ?_);(case h0=>walk_at "hp");(case h1|h2|h5=>omega);intro l' H' qs' g' n' e' al') | fail "none")
theorem zFb {α:Type} {a:List α} {z:Nat} (hz:0 < z) : ∀ (n e:Nat),e<=n->e<=a.length->(pcA a z e).length<=e/\(pcA a z e).flatten.length=e:=by
 intro n
 induction n with
 | zero=>intro e h _;rw [show e=0 by omega,xB];exact ⟨by simp,rfl⟩
 | succ n ih =>
  intro e h h2
  by_cases he:e=0
  ·rw [he,xB];exact ⟨by simp,rfl⟩
  ·rw [QZ he (by omega)]
   have:=ih (e - z) (by omega) (by omega)
   simp only [length_append,length_singleton,List.flatten_append,flatten_cons,List.flatten_nil,length_nil,length_drop,length_take,min_eq_left h2]
   omega
theorem zH5 {α:Type} {l:List (List α)} {x:List α} (h:x ∈ l):x.length<=l.flatten.length:=by
 induction l with
 | nil=>cases h
 | cons y l ih =>
  rw [flatten_cons,length_append]
  rcases List.mem_cons.mp h with rfl | h
  ·omega
  ·have:=ih h;omega
theorem zF1 {α:Type} (l:List (List α)) : ∀ i,(l.take i).flatten.length<=l.flatten.length:=by
 induction l with
 | nil=>intro i;rw [take_nil];exact Nat.le_refl _
 | cons y l ih =>
  intro i
  cases i with
  | zero=>exact Nat.zero_le _
  | succ i=>rw [List.take_succ_cons,flatten_cons,flatten_cons,length_append,length_append];have:=ih i;omega
theorem zJa {α:Type} (m:α) (l:List (List α)):((l.map fun p=>m::p).flatten).length=l.flatten.length+l.length:=by
 induction l with
 | nil=>rfl
 | cons y l ih=>rw [map_cons,flatten_cons,length_append,ih,length_cons,flatten_cons,length_append,length_cons];omega
theorem zHv {α:Type} (m:α) (l:List (List α)) (i:Nat):(((l.take i).map fun p=>m::p).flatten).length<=l.flatten.length+l.length:=by
 rw [zJa]
 have:=zF1 l i
 have:(l.take i).length<=l.length:=by rw [length_take];omega
 omega
def gcs (z:Nat) (m:List Nat) (a:Ce):Ce:=if z=0 then a else (((pcA a z a.length).map fun p=>m::p).flatten).drop 1
def y9 (K:W.Frag):Sp:=fun vs H Q _=>∃ (p:Addr) (a:Ce) (z:Int) (m:Nat),vs=[.ref p,.int z,.str (T [m])]/\H p=some (.lst (tsV a))/\0<=z/\z<=9/\a.length<=100 /\ ∀ l H',zT H H'->H' l=some (.lst (tsV (gcs z.toNat [m] a)))->Q (.ref l) H'
theorem XM {a:Ce} (h0:H p=some (.lst (tsV a))) (h1:0<=z) (h2:z<=9) (h5:a.length<=100) (q : ∀ l H',zT H H'->H' l=some (.lst (tsV (gcs z.toNat [m] a)))->Q (.ref l) H'):y9 K ([.ref p,.int z,.str (T [m])]++[]) H Q E:=⟨p,a,z,m,rfl,h0,h1,h2,h5,q⟩
include Z in
theorem Xr:Has P w K mg base "grouped_cells" 2 ["row", "size", "mark"] (y9 K):=by
 refine jm Z.kn Z.bu (l3N (by intros;rfl)) fun fq fd F=>?_
 refine F.ok xS (fun vs H Q E=>?_) (fun _ _ _ s H vs Q E hr h=>?_)
 ·walk_at "ln"
 obtain ⟨p,a,z,m,rfl,hp,h1,h2,h5,q⟩:=h
 refine ⟨_,zC (zu (zQ qb (pv 1) (zD) (zS _)) (zG (zL (pv 0))) (zU))
  (zC (zM (i:=3) xS.nd rfl (Or.inl rfl) (zl (zB)))
  (zC (kG PassesOwn.never rfl (jF (zF (KQ Z) hr rfl (zA (pv 0) (zA (pv 1) (zA (zD) (zB)))))) (zj (i:=4) xS.nd rfl (Or.inl rfl)) (zG (jB (yz PySem.F.plainAttrs_list PySem.F.slot_list_extend PySem.F.type_list_extend zCr (pv 3) (zA (zP jf (zl (zA (pv 2) (zB))) (pv 4)) (zB))))))
  (zG (zL (zk QT (pv 3) (zm (zD)) (qG)))))),?_⟩
 walk_at "st"
 walk_at "rd"
 ·rename_i hc
  subst hc
  exact q _ _ (zT.refl _) (by rw [show gcs (Int.toNat 0) [m] a=a from if_pos rfl];exact hp)
 ·rename_i hc p1 H1 g1 n1 e1 l2 H2 qs g2 n2 e2 al
  have bd:=zFb (a:=a) (z:=z.toNat) (by omega) a.length a.length (Nat.le_refl _) (Nat.le_refl _)
  have ln:=al.len
  refine zGd (SqL.of e2) (fun i σ H'=>SB p1 H2 H'/\(∃ r:Option V,σ=[some (.ref p),some (.int z),some (.str (T [m])),some (.ref p1),r])/\H' p1=some (.lst (tsV (((pcA a z.toNat a.length).take i).map fun p=>[m]::p).flatten))) ⟨SB.refl,⟨none,rfl⟩,g2.at e1⟩ (fun i σ H' _ zz=>SqL.of (zz.1 _ _ (WZ n2 e1) e2)) ?_ ?_
  ·rintro i x σ H3 hx ⟨sb,⟨r,rfl⟩,e3⟩
   obtain ⟨cs,hcs,q3,rfl,nq,eq⟩:=al.get hx
   have eq3:=sb _ _ (WZ nq e1) eq
   have lc:cs.length<=100:=by
    have:=zH5 (mem_of_getElem? hcs)
    omega
   walk_at "rd"
   rename_i p4 H4 g4 n4 e4 p5 H5 g5 n5 e5
   have fb:=zHv [m] (pcA a z.toNat a.length) i
   refine ⟨p1,p5,_,_,rfl,rfl,g5.at (g4.at e3),e5,small (by rw [zo,zo,length_append,length_singleton];omega),?_⟩
   refine ⟨((sb.then g4).then g5).put,⟨_,rfl⟩,?_⟩
   rw [zR,take_succ,hcs,xz,map_append,List.flatten_append]
   simp
  ·rintro σ H3 ⟨sb,⟨r,rfl⟩,e3⟩
   walk_at "rd"
   rename_i p4 H4 g4 n4 e4
   refine q _ _ (SB.same (((SB.of (g1.trans g2)).trans sb).then g4) n1) ?_
   rw [e4,ln,take_length,show gcs z.toNat [m] a=_ from if_neg (by omega)]
   rfl
def chs (l:List Nat):Ce:=l.map fun c=>[c]
theorem zCO {z:Nat} {m:List Nat} {a:Ce}:(gcs z m a).length<=2*a.length:=by
 unfold gcs
 split
 ·omega
 ·have bd:=zFb (a:=a) (z:=z) (by omega) a.length a.length (Nat.le_refl _) (Nat.le_refl _)
  rw [length_drop,zJa];omega
def bcs (pl z:Int) (m pt:Nat) (row:Ce):Ce:=if pl=0 then gcs z.toNat [m] (row.take ((row.length:Int) - pl).toNat) else gcs z.toNat [m] (row.take ((row.length:Int) - pl).toNat)++[[pt]]++row.drop ((row.length:Int) - pl).toNat
variable {row:Ce}
theorem zBq {pt:Nat}:(bcs pl z m pt row).length<=3*row.length+1:=by
 have h:=zCO (z:=z.toNat) (m:=[m]) (a:=row.take ((row.length:Int) - pl).toNat)
 rw [length_take] at h
 unfold bcs
 split
 ·omega
 ·rw [length_append,length_append,length_singleton,length_drop];omega
local macro_rules | `(tactic| walk_at "rdc")=>`(tactic| first | ((with_reducible refine' XM ?h0 ?h1 ?h2 ?h5 ?_);(case h0=>walk_at "hp");(case h1|h2=>omega);(case h5=>walk_at "tl");intro l' H' g' e') | fail "none")
def QP (K:W.Frag):Sp:=fun vs H Q _=>∃ (o C r:Addr) (fg pl b:Int) (sn:Str) (z:Int) (m pt:Nat) (wy:Str) (wd:Int) (f:Nat) (x:Str) (st:Bool) (row:Ce),vs=[.ref o,.ref r]/\zV K H o C wd f x st (qm fg pl b sn z m pt wy)/\kx fg pl b sn z m pt wy wd f x/\H r=some (.lst (tsV row))/\pl<=row.length/\row.length<=40 /\ ∀ l H',zT H H'->H' l=some (.lst (tsV (bcs pl z m pt row)))->Q (.ref l) H'
theorem Kg {o r:Addr} {pt:Nat} (h1:zV K H o C wd f x st (qm fg pl b sn z m pt wy)) (h2:kx fg pl b sn z m pt wy wd f x) (h3:H r=some (.lst (tsV row))) (h4:pl<=row.length) (h5:row.length<=40) (q : ∀ l H',zT H H'->H' l=some (.lst (tsV (bcs pl z m pt row)))->Q (.ref l) H'):QP K ([.ref o,.ref r]++[]) H Q E:=⟨o,C,r,fg,pl,b,sn,z,m,pt,wy,wd,f,x,st,row,rfl,h1,h2,h3,h4,h5,q⟩
include Z in
theorem KN:Has P w K mg base "body_cells" 3 ["form", "row"] (QP K):=by
 refine jm Z.kn Z.bv (l2N (by intros;rfl)) fun fq fd F=>?_
 refine F.ok yx (fun vs H Q E=>?_) (fun _ _ _ s H vs Q E hr h=>?_)
 ·walk_at "ln"
 obtain ⟨o,C,r,fg,pl,b,sn,z,m,pt,wy,wd,f,x,st,row,rfl,F0,ok,hr0,h4,h5,q⟩:=h
 refine ⟨_,zC (zM (i:=2) yx.nd rfl (Or.inl rfl) (zP qt (zK qj Z.ao rfl qD (zA (pv 1) (zB))) (ze (pv 0) rfl)))
  (zC (zM (i:=3) yx.nd rfl (Or.inl rfl) (zF (Xr Z) hr rfl (zA (zk QT (pv 1) (qG) (zm (pv 2))) (zA (ze (pv 0) rfl) (zA (ze (pv 0) rfl) (zB))))))
  (zC (zu (zQ qb (ze (pv 0) rfl) (zD) (zS _)) (zG (zL (pv 3))) (zU))
  (zG (zL (zP jf (zP jf (pv 3) (zl (zA (ze (pv 0) rfl) (zB)))) (zk QT (pv 1) (zm (pv 2)) (qG))))))),?_⟩
 walk_at "st"
 have o3:=ok.pl1;have o4:=ok.pl2;have o9:=ok.z1;have o10:=ok.z2
 have gl:=zCO (z:=z.toNat) (m:=[m]) (a:=row.take ((row.length:Int) - pl).toNat)
 rw [length_take] at gl
 walk_at "rd"
 ·rename_i p1 H1 g1 n1 e1 l2 H2 g2 e2 hc
  refine q _ _ (g1.trans g2) ?_
  unfold bcs
  rw [if_pos hc]
  exact e2
 ·rename_i p1 H1 g1 n1 e1 l2 H2 g2 e2 hc p3 H3 g3 n3 e3 p4 H4 g4 n4 e4 p5 H5 g5 n5 e5 p6 H6 g6 n6 e6
  refine q _ _ (by walk_at "sm") ?_
  unfold bcs
  rw [if_neg hc]
  exact e6
local macro_rules | `(tactic| walk_at "rdc")=>`(tactic| first | ((with_reducible refine' Kg ?h1 ?h2 ?h3 ?h4 ?h5 ?_);(case h1=>walk_at "fm");(case h2=>assumption);(case h3=>walk_at "hp");(case h4|h5=>omega);intro l' H' g' e') | fail "none")
theorem zC2 (h:xw x) (b:Bool):(stL x b).length<=2/\(stT x b).length<=2:=by have:=JE h b;omega
def sgc (pl:Int) (sn:Str) (z:Int) (m pt:Nat) (b:Bool) (row:Ce):Ce × Ce:=(chs (stL sn b),bcs pl z m pt row++chs (stT sn b))
def k9 (K:W.Frag):Sp:=fun vs H Q _=>∃ (o C r:Addr) (fg pl b:Int) (sn:Str) (z:Int) (m pt:Nat) (wy:Str) (wd:Int) (f:Nat) (x:Str) (st:Bool) (row:Ce) (bl:Bool),vs=[.ref o,.ref r,.bl bl]/\zV K H o C wd f x st (qm fg pl b sn z m pt wy)/\kx fg pl b sn z m pt wy wd f x/\H r=some (.lst (tsV row))/\pl<=row.length/\row.length<=40 /\ ∀ v H',zT H H'->RP H' Tr v (sgc pl sn z m pt bl row)->Q v H'
theorem Zl {o r:Addr} {pt:Nat} (h1:zV K H o C wd f x st (qm fg pl b sn z m pt wy)) (h2:kx fg pl b sn z m pt wy wd f x) (h3:H r=some (.lst (tsV row))) (h4:pl<=row.length) (h5:row.length<=40) (q : ∀ v H',zT H H'->RP H' Tr v (sgc pl sn z m pt bl row)->Q v H'):k9 K ([.ref o,.ref r,.bl bl]++[]) H Q E:=⟨o,C,r,fg,pl,b,sn,z,m,pt,wy,wd,f,x,st,row,bl,rfl,h1,h2,h3,h4,h5,q⟩
include Z in
theorem Zk:Has P w K mg base "signed_cells" 4 ["form", "row", "below"] (k9 K):=by
 refine jm Z.kn Z.bw (l3N (by intros;rfl)) fun fq fd F=>?_
 refine F.ok ZG (fun vs H Q E=>?_) (fun _ _ _ s H vs Q E hr h=>?_)
 ·walk_at "ln"
 obtain ⟨o,C,r,fg,pl,b,sn,z,m,pt,wy,wd,f,x,st,row,bl,rfl,F0,ok,hr0,h4,h5,q⟩:=h
 refine ⟨_,zC (zM (i:=3) ZG.nd rfl (Or.inl rfl) (zF (ZF Z) hr rfl (zA (ze (pv 0) rfl) (zA (pv 2) (zB)))))
  (zG (zL (ji (zA (kr (Qp rfl) rfl Z.az J9 (zA (zX zi (pv 3) (zD) (fun _ _=>rfl)) (zB))) (zA (zP jf (zF (KN Z) hr rfl (zA (pv 0) (zA (pv 1) (zB)))) (kr (Qp rfl) rfl Z.az J9 (zA (zX zi (pv 3) (zD) (fun _ _=>rfl)) (zB)))) (zB)))))),?_⟩
 walk_at "st"
 have o7:=ok.sn
 have sl:=zC2 o7 bl
 have bl':=zBq (pl:=pl) (z:=z) (m:=m) (pt:=pt) (row:=row)
 walk_at "rd"
 rename_i p1 e1 p2 H2 g2 n2 e2 l3 H3 g3 e3 p4 H4 g4 n4 e4 p5 H5 g5 n5 e5 t6 H6 g6 e6
 exact q _ _ (by walk_at "sm") ⟨t6,p2,p5,rfl,⟨trivial,trivial,trivial⟩,e6,g6.at (g5.at (g4.at (g3.at e2))),g6.at e5⟩
def evs (b:Int):List Nat:=(Lt "0123456789abcdef").take b.toNat
def rwN (pl:Int) (ev:List Nat) (i:Nat):Ce:=(if i=0 then ev else ev.drop 1)::List.replicate (i+pl.toNat) ev
def rwB (pl:Int) (ev:List Nat) (i:Nat):Ce:=List.replicate (pl.toNat - i) [48]++[ev.drop 1]++List.replicate i ev
theorem Y2 {ev:List Nat} {i:Nat}:(rwN pl ev i).length=i+1+pl.toNat:=by unfold rwN;rw [length_cons,length_replicate];omega
theorem Yx {ev:List Nat} {i:Nat}:(rwB pl ev i).length=(pl.toNat - i)+1+i:=by unfold rwB;rw [length_append,length_append,length_replicate,length_replicate,length_singleton]
def Zr (K:W.Frag):Sp:=fun vs H Q _=>∃ (o C:Addr) (fg pl b:Int) (sn:Str) (z:Int) (m pt:Nat) (wy:Str) (wd:Int) (f:Nat) (x:Str) (st:Bool),vs=[.ref o]/\zV K H o C wd f x st (qm fg pl b sn z m pt wy)/\kx fg pl b sn z m pt wy wd f x /\ ∀ l H' us,zT H H'->H' l=some (.lst us)->Al (RL H' Tr) us ((List.range fg.toNat).map (rwN pl (evs b)))->Q (.ref l) H'
def ZY (K:W.Frag):Sp:=fun vs H Q _=>∃ (o C:Addr) (fg pl b:Int) (sn:Str) (z:Int) (m pt:Nat) (wy:Str) (wd:Int) (f:Nat) (x:Str) (st:Bool),vs=[.ref o]/\zV K H o C wd f x st (qm fg pl b sn z m pt wy)/\kx fg pl b sn z m pt wy wd f x /\ ∀ l H' us,zT H H'->H' l=some (.lst us)->Al (RL H' Tr) us ((List.range (fg+pl).toNat).map (rwB pl (evs b)))->Q (.ref l) H'
theorem Jf {α:Type} (f:Nat->α) (k:Nat):(List.range (k+1)).map f=(List.range k).map f++[f k]:=by rw [range_succ,map_append];rfl
include Z in
theorem Z6:Has P w K mg base "rows_from_nought" 1 ["form"] (Zr K):=by
 refine jm Z.kn Z.bx (l1N (by intros;rfl)) fun fq fd F=>?_
 refine F.ok qQ (fun vs H Q E=>?_) (fun _ _ _ s H vs Q E hr h=>?_)
 ·walk_at "ln"
 obtain ⟨o,C,fg,pl,b,sn,z,m,pt,wy,wd,f,x,st,rfl,F0,ok,q⟩:=h
 refine ⟨_,zC (zM (i:=1) qQ.nd rfl (Or.inl rfl) (zk jL (qy rfl Z.aE (v:=.str "0123456789abcdef") ⟨_,rfl⟩) (qG) (zm (ze (pv 0) rfl))))
  (zC (zM (i:=2) qQ.nd rfl (Or.inl rfl) (zl (zB)))
  (zC (kG PassesOwn.never rfl (J2 rfl Z.ap (zA (zD) (zA (zP zg (ze (pv 0) rfl) (zD)) (zB)))) (zj (i:=3) qQ.nd rfl (Or.inl rfl)) (zC (zM (i:=4) qQ.nd rfl (Or.inl rfl) (Y0 (zQ qb (pv 3) (zD) (zS _)) (pv 1) (zk jL (pv 1) (zm (zD)) (qG))))
  (zG (jB (yz PySem.F.plainAttrs_list PySem.F.slot_list_append PySem.F.type_list_append xL (pv 2) (zA (zP jf (zl (zA (pv 4) (zB))) (zP J8 (zl (zA (pv 1) (zB))) (zP zg (zP qt (pv 3) (zD)) (ze (pv 0) rfl)))) (zB)))))))
  (zG (zL (pv 2))))),?_⟩
 walk_at "st"
 have o1:=ok.fg1;have o2:=ok.fg2;have o3:=ok.pl1;have o4:=ok.pl2;have o5:=ok.b1;have o6:=ok.b2
 have l16:(Lt "0123456789abcdef").length=16:=by decide +kernel
 walk_at "rd"
 rw [<- zHG ("0123456789abcdef" : Str)]
 walk_at "rd"
 rename_i l H1 g1 n1 e1
 have e1':H1 l=some (.lst []):=e1
 have hev:(Lt "0123456789abcdef").take b.toNat=evs b:=rfl
 rw [hev]
 have el:(evs b).length<=16:=by unfold evs;rw [length_take];omega
 generalize evs b=ev at q el ⊢
 refine zAG (by omega) (fun i σ H'=>zT H H' /\ ∃ (us:List V) (r1 r2:Option V),H' l=some (.lst us)/\Al (RL H' (· ≠ l)) us ((List.range i).map (rwN pl ev))/\σ=[some (.ref o),some (.str (T ev)),some (.ref l),r1,r2]) ⟨g1,[],none,none,e1',.nil,rfl⟩ ?_ ?_
 ·rintro i σ H2 hi ⟨g2,us,r1,r2,e2,al,rfl⟩
  have lr:((List.range i).map (rwN pl ev)).length<=900:=by rw [length_map,length_range];omega
  walk_at "rd"
  ·rename_i hc p3 H3 g3 n3 e3 p4 H4 g4 n4 e4 p5 H5 g5 n5 e5 p6 H6 g6 n6 e6
   have gg:=g3.trans (g4.trans (g5.trans g6))
   refine zDs (R:=fun H=>RL H (· ≠ l)) zGD n1 (g2.trans gg) (gg.at e2) (al.imp fun _ _ h=>h.same gg) (a:=rwN pl ev i) ⟨p6,rfl,WZ (none_of (g3.trans (g4.trans g5)) n6) e2,?_⟩ lr fun H7 us7 g7 e7 al7=>?_
   ·have i0:i=0:=by omega
    subst i0
    rw [e6,show ((1+((0:Nat):Int)) - 1+pl).toNat=0+pl.toNat by omega];rfl
   ·exact ⟨g7,us7,_,_,e7,by rw [Jf];exact al7,rfl⟩
  ·rename_i hc p3 H3 g3 n3 e3 p4 H4 g4 n4 e4 p5 H5 g5 n5 e5 p6 H6 g6 n6 e6
   have gg:=g3.trans (g4.trans (g5.trans g6))
   refine zDs (R:=fun H=>RL H (· ≠ l)) zGD n1 (g2.trans gg) (gg.at e2) (al.imp fun _ _ h=>h.same gg) (a:=rwN pl ev i) ⟨p6,rfl,WZ (none_of (g3.trans (g4.trans g5)) n6) e2,?_⟩ lr fun H7 us7 g7 e7 al7=>?_
   ·have i0:i≠0:=by omega
    rw [e6,show ((1+(i:Int)) - 1+pl).toNat=i+pl.toNat by omega]
    unfold rwN
    rw [if_neg i0];rfl
   ·exact ⟨g7,us7,_,_,e7,by rw [Jf];exact al7,rfl⟩
 ·rintro σ H2 ⟨g2,us,r1,r2,e2,al,rfl⟩
  walk_at "rd"
  refine q _ _ _ g2 e2 ?_
  rw [show fg.toNat=(fg+1 - 1).toNat by omega]
  exact al.imp fun _ _ h=>h.wk fun _ _=>trivial
include Z in
theorem Zo:Has P w K mg base "rows_below_nought" 1 ["form"] (ZY K):=by
 refine jm Z.kn Z.bz (l1N (by intros;rfl)) fun fq fd F=>?_
 refine F.ok qJ (fun vs H Q E=>?_) (fun _ _ _ s H vs Q E hr h=>?_)
 ·walk_at "ln"
 obtain ⟨o,C,fg,pl,b,sn,z,m,pt,wy,wd,f,x,st,rfl,F0,ok,q⟩:=h
 refine ⟨_,zC (zM (i:=1) qJ.nd rfl (Or.inl rfl) (zk jL (qy rfl Z.aE (v:=.str "0123456789abcdef") ⟨_,rfl⟩) (qG) (zm (ze (pv 0) rfl))))
  (zC (zM (i:=2) qJ.nd rfl (Or.inl rfl) (zl (zB)))
  (zC (kG PassesOwn.never rfl (J2 rfl Z.ap (zA (zD) (zA (zP zg (zP zg (ze (pv 0) rfl) (ze (pv 0) rfl)) (zD)) (zB)))) (zj (i:=3) qJ.nd rfl (Or.inl rfl)) (zC (zM (i:=4) qJ.nd rfl (Or.inl rfl) (zP J8 (zl (zA (xU (l:=[48]) (by decide +kernel)) (zB))) (zP qt (zP zg (ze (pv 0) rfl) (zD)) (pv 3))))
  (zG (jB (yz PySem.F.plainAttrs_list PySem.F.slot_list_append PySem.F.type_list_append xL (pv 2) (zA (zP jf (zP jf (pv 4) (zl (zA (zk jL (pv 1) (zm (zD)) (qG)) (zB)))) (zP J8 (zl (zA (pv 1) (zB))) (zP qt (pv 3) (zD)))) (zB)))))))
  (zG (zL (pv 2))))),?_⟩
 walk_at "st"
 have o1:=ok.fg1;have o2:=ok.fg2;have o3:=ok.pl1;have o4:=ok.pl2;have o5:=ok.b1;have o6:=ok.b2
 have l16:(Lt "0123456789abcdef").length=16:=by decide +kernel
 walk_at "rd"
 rw [<- zHG ("0123456789abcdef" : Str)]
 walk_at "rd"
 rename_i l H1 g1 n1 e1
 have e1':H1 l=some (.lst []):=e1
 have hev:(Lt "0123456789abcdef").take b.toNat=evs b:=rfl
 rw [hev]
 have el:(evs b).length<=16:=by unfold evs;rw [length_take];omega
 generalize evs b=ev at q el ⊢
 refine zAG (by omega) (fun i σ H'=>zT H H' /\ ∃ (us:List V) (r1 r2:Option V),H' l=some (.lst us)/\Al (RL H' (· ≠ l)) us ((List.range i).map (rwB pl ev))/\σ=[some (.ref o),some (.str (T ev)),some (.ref l),r1,r2]) ⟨g1,[],none,none,e1',.nil,rfl⟩ ?_ ?_
 ·rintro i σ H2 hi ⟨g2,us,r1,r2,e2,al,rfl⟩
  have lr:((List.range i).map (rwB pl ev)).length<=900:=by rw [length_map,length_range];omega
  walk_at "rd"
  rename_i p3 H3 g3 n3 e3 p4 H4 g4 n4 e4 p5 H5 g5 n5 e5 p6 H6 g6 n6 e6 p7 H7 g7 n7 e7 p8 H8 g8 n8 e8 p9 H9 g9 n9 e9
  have gg:=g3.trans (g4.trans (g5.trans (g6.trans (g7.trans (g8.trans g9)))))
  refine zDs (R:=fun H=>RL H (· ≠ l)) zGD n1 (g2.trans gg) (gg.at e2) (al.imp fun _ _ h=>h.same gg) (a:=rwB pl ev i) ⟨p9,rfl,WZ (none_of (g3.trans (g4.trans (g5.trans (g6.trans (g7.trans g8))))) n9) e2,?_⟩ lr fun HA usA gA eA alA=>?_
  ·rw [e9,show (pl+1 - (1+(i:Int))).toNat=pl.toNat - i by omega,show ((1+(i:Int)) - 1).toNat=i by omega];rfl
  ·exact ⟨gA,usA,_,_,eA,by rw [Jf];exact alA,rfl⟩
 ·rintro σ H2 ⟨g2,us,r1,r2,e2,al,rfl⟩
  walk_at "rd"
  refine q _ _ _ g2 e2 ?_
  rw [show (fg+pl).toNat=(fg+pl+1 - 1).toNat by omega]
  exact al.imp fun _ _ h=>h.wk fun _ _=>trivial
theorem QR {α:Type} {f:Nat->α} {i:Nat} {x:α} (h:((List.range n).map f)[i]? = some x):i < n/\x=f i:=by
 rw [getElem?_map] at h
 rcases Nat.lt_or_ge i n with z | z
 ·rw [List.getElem?_range z] at h;exact ⟨z,(Option.some.inj h).symm⟩
 ·rw [List.getElem?_eq_none (by rw [length_range];exact z)] at h;cases h
def ncs (fg pl b:Int) (sn:Str) (z:Int) (m pt:Nat):List (Ce × Ce):=((List.range fg.toNat).map (rwN pl (evs b))).map (sgc pl sn z m pt false)++((List.range (fg+pl).toNat).map (rwB pl (evs b))).map (sgc pl sn z m pt true)
def XW (K:W.Frag):Sp:=fun vs H Q _=>∃ (o C:Addr) (fg pl b:Int) (sn:Str) (z:Int) (m pt:Nat) (wy:Str) (wd:Int) (f:Nat) (x:Str) (st:Bool),vs=[.ref o]/\zV K H o C wd f x st (qm fg pl b sn z m pt wy)/\kx fg pl b sn z m pt wy wd f x /\ ∀ l H' us,zT H H'->H' l=some (.lst us)->Al (RP H' Tr) us (ncs fg pl b sn z m pt)->Q (.ref l) H'
include Z in
theorem Xw:Has P w K mg base "number_cores" 5 ["form"] (XW K):=by
 refine jm Z.kn Z.bA (l1N (by intros;rfl)) fun fq fd F=>?_
 refine F.ok kq (fun vs H Q E=>?_) (fun _ _ _ s H vs Q E hr h=>?_)
 ·walk_at "ln"
 obtain ⟨o,C,fg,pl,b,sn,z,m,pt,wy,wd,f,x,st,rfl,F0,ok,q⟩:=h
 refine ⟨_,zC (yY (cl:=[("form", s.heap.objs.size+1+0)]) (fr:=["form"]) (is:=[0]) (i:=1) kq.nd rfl (Or.inl rfl) rfl rfl rfl ⟨rfl,trivial⟩ rfl ⟨⟨rfl,rfl,Or.inl rfl⟩,trivial⟩ (by decide) (by decide +kernel) rfl (by decide +kernel) rfl (jF (zF (Z6 Z :) hr rfl (zA (pv 0) (zB)))) (fun _ _ _ _=>qz) (fun _ _ _ _=>zF (Zk Z :) hr rfl (zA (pv 1) (zA (pv 0) (zA (xE) (zB))))))
  (zG (zL (zP jf (pv 1) (jV (cl:=[("form", s.heap.objs.size+1+0)]) (fr:=["form"]) (is:=[0]) rfl rfl ⟨rfl,trivial⟩ rfl ⟨⟨rfl,rfl,Or.inl rfl⟩,trivial⟩ (by decide) (by decide +kernel) rfl (by decide +kernel) rfl (jF (zF (Zo Z :) hr rfl (zA (pv 0) (zB)))) (fun _ _ _ _=>qz) (fun _ _ _ _=>zF (Zk Z :) hr rfl (zA (pv 1) (zA (pv 0) (zA (xE) (zB))))))))),?_⟩
 walk_at "st"
 have o1:=ok.fg1;have o2:=ok.fg2;have o3:=ok.pl1;have o4:=ok.pl2;have o5:=ok.b1;have o6:=ok.b2
 walk_at "rd"
 refine ⟨o,C,fg,pl,b,sn,z,m,pt,wy,wd,f,x,st,rfl,F0,ok,fun l1 H1 us1 g1 e1 al1=>?_⟩
 have ln1:=al1.len
 rw [length_map,length_range] at ln1
 refine z8 (SqL.of e1) (small (by omega)) (fun i ys H'=>zT H1 H'/\Al (RP H' Tr) ys ((((List.range fg.toNat).map (rwN pl (evs b))).take i).map (sgc pl sn z m pt false))) ⟨zT.refl _,.nil⟩ (fun i ys H' hi h=>⟨SqL.of (h.1.at e1),by rw [h.2.len,length_map,length_take];omega⟩) ?_ ?_
 ·rintro i v ys H2 hv hi ⟨g2,al⟩
  obtain ⟨row,hrow,r0,rfl,_,er⟩:=al1.get hv
  have F2:=F0.same (g1.trans g2)
  obtain ⟨hin,hre⟩:=QR hrow
  have rl:row.length=i+1+pl.toNat:=by rw [hre,Y2]
  walk_at "rd"
  refine Zl F2 ok (g2.at er) (by omega) (by omega) fun v H3 g3 hv3=>nxC hi ⟨g2.trans g3,?_⟩
  rw [take_succ,hrow,map_append]
  exact (al.imp fun _ _ h=>h.same g3).app (.one hv3)
 ·rintro ys H2 ⟨g2,al⟩ p2 H3 g3 n3 e3
  rw [take_of_length_le (by rw [length_map,length_range];omega)] at al
  have g03:=g1.trans (g2.trans g3)
  have F3:=F0.same g03
  walk_at "rd"
  refine ⟨o,C,fg,pl,b,sn,z,m,pt,wy,wd,f,x,st,rfl,F3,ok,fun l4 H4 us4 g4 e4 al4=>?_⟩
  have ln4:=al4.len
  rw [length_map,length_range] at ln4
  refine z8 (SqL.of e4) (small (by omega)) (fun i ys H'=>zT H4 H'/\Al (RP H' Tr) ys ((((List.range (fg+pl).toNat).map (rwB pl (evs b))).take i).map (sgc pl sn z m pt true))) ⟨zT.refl _,.nil⟩ (fun i ys H' hi h=>⟨SqL.of (h.1.at e4),by rw [h.2.len,length_map,length_take];omega⟩) ?_ ?_
  ·rintro i v zs H5 hv hi ⟨g5,al5⟩
   obtain ⟨row,hrow,r0,rfl,_,er⟩:=al4.get hv
   have F5:=F3.same (g4.trans g5)
   obtain ⟨hin,hre⟩:=QR hrow
   have rl:row.length=(pl.toNat - i)+1+i:=by rw [hre,Yx]
   walk_at "rd"
   refine Zl F5 ok (g5.at er) (by omega) (by omega) fun v H6 g6 hv6=>nxC hi ⟨g5.trans g6,?_⟩
   rw [take_succ,hrow,map_append]
   exact (al5.imp fun _ _ h=>h.same g6).app (.one hv6)
  ·rintro zs H5 ⟨g5,al5⟩ p6 H6 g6 n6 e6
   rw [take_of_length_le (by rw [length_map,length_range];omega)] at al5
   have l1:=al.len;have l2:=al5.len
   rw [length_map,length_map,length_range] at l1 l2
   have g36:=g4.trans (g5.trans g6)
   refine zIw (g36.at e3) e6 (Nat.le_of_lt (qK (by omega))) fun p7 H7 g7 e7=>?_
   refine q _ _ _ (g03.trans (g36.trans g7)) e7 ((al.imp fun _ _ h=>(h.same g3).same (g36.trans g7)).app (al5.imp fun _ _ h=>(h.same g6).same g7))
def flk (wd:Int) (f:Nat) (x:Str) (c:Ce × Ce):Ce:=if x = "inside" then c.1++List.replicate (pA "right" ((c.1.length:Int)+c.2.length) wd).toNat [f]++c.2 else List.replicate (pA x ((c.1.length:Int)+c.2.length) wd).toNat [f]++c.1++c.2++List.replicate (pB x ((c.1.length:Int)+c.2.length) wd).toNat [f]
def Zd (K:W.Frag):Sp:=fun vs H Q _=>∃ (o C a b:Addr) (wd:Int) (f:Nat) (x:Str) (st:Bool) (more:List (Str × V)) (c:Ce × Ce),vs=[.ref o,.ref a,.ref b]/\zV K H o C wd f x st more/\Xd x/\0<=wd/\wd<=40/\H a=some (.lst (tsV c.1))/\H b=some (.lst (tsV c.2))/\c.1.length<=200/\c.2.length<=200 /\ ∀ l H',zT H H'->H l=none->H' l=some (.lst (tsV (flk wd f x c)))->Q (.ref l) H'
theorem Y1 {o a b:Addr} {c:Ce × Ce} (h1:zV K H o C wd f x st more) (h2:Xd x) (h3:0<=wd) (h4:wd<=40) (h5:H a=some (.lst (tsV c.1))) (h6:H b=some (.lst (tsV c.2))) (h7:c.1.length<=200) (h8:c.2.length<=200) (q : ∀ l H',zT H H'->H l=none->H' l=some (.lst (tsV (flk wd f x c)))->Q (.ref l) H'):Zd K ([.ref o,.ref a,.ref b]++[]) H Q E:=⟨o,C,a,b,wd,f,x,st,more,c,rfl,h1,h2,h3,h4,h5,h6,h7,h8,q⟩
include Z in
theorem VM:Has P w K mg base "filled_look" 2 ["form", "lead", "rest"] (Zd K):=by
 refine jm Z.kn Z.bB (l3N (by intros;rfl)) fun fq fd F=>?_
 refine F.ok yV (fun vs H Q E=>?_) (fun _ _ _ s H vs Q E hr h=>?_)
 ·walk_at "ln"
 obtain ⟨o,C,a,b,wd,f,x,st,more,c,rfl,F0,sx,w0,w1,ha,hb,l1,l2,q⟩:=h
 refine ⟨_,zC (zM (i:=3) yV.nd rfl (Or.inl rfl) (zP zg (zK qj Z.ao rfl qD (zA (pv 1) (zB))) (zK qj Z.ao rfl qD (zA (pv 2) (zB)))))
  (zC (zu (zQ qb (ze (pv 0) rfl) (zd) (zS _)) (zG (zL (zP jf (zP jf (pv 1) (zP J8 (zl (zA (ze (pv 0) rfl) (zB))) (zX zi (zF (Z4 Z) hr rfl (zA (pv 3) (zA (ze (pv 0) rfl) (zA (zd) (zB))))) (zD) (fun _ _=>rfl)))) (pv 2)))) (zU))
  (zC (zM (i:=4) yV.nd rfl (Or.inl rfl) (zF (Z4 Z) hr rfl (zA (pv 3) (zA (ze (pv 0) rfl) (zA (ze (pv 0) rfl) (zB))))))
  (zG (zL (zP jf (zP jf (zP jf (zP J8 (zl (zA (ze (pv 0) rfl) (zB))) (zX zi (pv 4) (zD) (fun _ _=>rfl))) (pv 1)) (pv 2)) (zP J8 (zl (zA (ze (pv 0) rfl) (zB))) (zX zi (pv 4) (zD) (fun _ _=>rfl)))))))),?_⟩
 walk_at "st"
 have br:=pab (x:="right") (n:=(c.1.length:Int)+c.2.length) (w:=wd) (.inr (.inl rfl)) (by omega) w1
 have bx:=fun hs:y4 x=>pab (n:=(c.1.length:Int)+c.2.length) (w:=wd) hs (by omega) w1
 walk_at "rd"
 ·rename_i hc p1 H1 g1 n1 e1 p2 H2 g2 e2 p3 H3 g3 n3 e3 p4 H4 g4 n4 e4 p5 H5 g5 n5 e5
  refine q _ _ (by walk_at "sm") (none_of (g1.trans (g2.trans (g3.trans g4))) n5) ?_
  rw [e5]
  unfold flk
  rw [if_pos hc]
 ·rename_i hc
  have sx':y4 x:=sx.elim id fun z=>absurd z hc
  have b1:=bx sx'
  clear bx br
  walk_at "rd"
  rename_i p0 H0 g0 e0 p1 H1 g1 n1 e1 p2 H2 g2 n2 e2 p3 H3 g3 n3 e3 p4 H4 g4 n4 e4 p5 H5 g5 n5 e5 p6 H6 g6 n6 e6 p7 H7 g7 n7 e7
  refine q _ _ (by walk_at "sm") (none_of (g0.trans (g1.trans (g2.trans (g3.trans (g4.trans (g5.trans g6)))))) n7) ?_
  rw [e7]
  unfold flk
  rw [if_neg hc]
theorem Zz {a l:Addr} {t:Ce} (h1:zV K H a C wd f x st more) (h2:H l=some (.lst (tsV t))) (q:Q (.bl (st && decide (wd < t.length))) H):xF K (.ref a::([.ref l]++[])) H Q E:=⟨a,C,l,wd,f,x,st,more,t,rfl,h1,h2,q⟩
include Z in
theorem jD:Gx P w K mg base CX0 "is_too_wide" [zE,zI,zJ] 1 ["self", "core"] (xF K):=by
 refine KI Z.bb (l2N (by intros;rfl)) fun fq fd F=>?_
 refine F.ok xu (fun vs H Q E=>?_) (fun _ _ _ s H vs Q E hr h=>?_)
 ·walk_at "ln"
 obtain ⟨a,C,l,wd,f,x,st,more,t,rfl,F0,h0,q⟩:=h
 refine ⟨_,zG (zL (Q8 (ze (pv 0) rfl) (JF (qY kM (zK qj Z.ao rfl qD (zA (pv 1) (zB))) (ze (pv 0) rfl) (zS _))))),?_⟩
 walk_at "st"
 walk_at "rd"
 ·rename_i hc;rw [hc] at q;exact q
 ·rename_i hc;rw [hc] at q;exact q
structure IsF (K:W.Frag) (c cN cW:Addr) (b1 b2:Bool):Prop where
 cl:Cls K c
 ha:W.findIn K (.ref c) "__class__" = some (some (.builtin "object.__class__"))
 hn:W.specialIn K (.builtin "object.__class__") "__get__" = some (some (.builtin "getset_descriptor.__get__"))
 ht:W.takesIn K (.builtin "object.__class__")=some true
 hm:W.mroIn K c (.type "object")=some true
 k1:W.kitOne K (.ref c) (.ref cN)=some b1
 k2:W.kitOne K (.ref c) (.ref cW)=some b2
theorem IsF.ty {c o:Addr} {b1 b2:Bool} (n:IsF K c cN cW b1 b2) (F:zV K H o c wd f x st more):K0 K H (.ref o) (.ref c):=let ⟨_,e⟩:=F.at_;.ins e n.cl n.ha n.hn n.ht n.hm
def Ja:Fd->List (Ce × Ce)
 | .num fg pl b sn z m pt _=>ncs fg pl b sn z m pt
 | .word sg lo hi=>(List.range (hi+1 - lo).toNat).map fun i:Nat=>([],List.replicate (lo+(i:Int)).toNat sg)
 | .cho ns=>ns.map fun n=>([],chs n)
def Z2 (wd:Int) (st:Bool) (c:Ce × Ce):Bool:=!(st && decide (wd < ((c.1++c.2).length:Int)))
theorem zEp {pt:Nat} (h:xw sn) (hl:row.length<=40):(sgc pl sn z m pt bl row).1.length<=200/\(sgc pl sn z m pt bl row).2.length<=200:=by
 have sl:=zC2 h bl
 have b2:=zBq (pl:=pl) (z:=z) (m:=m) (pt:=pt) (row:=row)
 unfold sgc chs
 simp only [length_append,length_map]
 omega
theorem zFG {pt:Nat} (ok:kx fg pl b sn z m pt wy wd f x) : ∀ c ∈ ncs fg pl b sn z m pt,c.1.length<=200/\c.2.length<=200:=by
 have o1:=ok.fg1;have o2:=ok.fg2;have o3:=ok.pl1;have o4:=ok.pl2
 intro c hc
 unfold ncs at hc
 rcases List.mem_append.mp hc with hc | hc
 ·obtain ⟨r,hr,rfl⟩:=List.mem_map.mp hc
  obtain ⟨i,hi,rfl⟩:=List.mem_map.mp hr
  have:=List.mem_range.mp hi
  exact zEp ok.sn (by rw [Y2];omega)
 ·obtain ⟨r,hr,rfl⟩:=List.mem_map.mp hc
  obtain ⟨i,hi,rfl⟩:=List.mem_map.mp hr
  have:=List.mem_range.mp hi
  exact zEp ok.sn (by rw [Yx];omega)
theorem Yl {H1 H2 H3:Hp} {i:Nat} {cs:List (Ce × Ce)} {ys:List V} {c:Ce × Ce} {T1:Prop} (hi:i < n) (hc:cs[i]? = some c) (al:Al (RP H2 Tr) ys ((cs.take i).filter (Z2 wd st))) (g2:zT H1 H2) (g3:zT H2 H3) (hv:RP H2 Tr v c)
  (h1:NxC n (fun i ys H'=>zT H1 H'/\Al (RP H' Tr) ys ((cs.take i).filter (Z2 wd st))) i (ys++[v]) H3->T1):if (!(st && decide (wd < ((c.1++c.2).length:Int))))=true then T1 else NxC n (fun i ys H'=>zT H1 H'/\Al (RP H' Tr) ys ((cs.take i).filter (Z2 wd st))) i ys H3:=by
 have e:(cs.take (i+1)).filter (Z2 wd st)=(cs.take i).filter (Z2 wd st)++[c].filter (Z2 wd st):=by rw [take_succ,hc,filter_append];rfl
 have al':=al.imp fun _ _ (h:RP H2 Tr _ _)=>h.same g3
 show if Z2 wd st c=true then T1 else _
 cases hf:Z2 wd st c with
 | true =>
  rw [if_pos rfl]
  refine h1 (nxC hi ⟨g2.trans g3,?_⟩)
  rw [e,filter_cons_of_pos hf,filter_nil]
  exact al'.app (.one (hv.same g3))
 | false =>
  rw [if_neg Bool.false_ne_true]
  refine nxC hi ⟨g2.trans g3,?_⟩
  rw [e,filter_cons_of_neg (by rw [hf];exact Bool.false_ne_true),filter_nil,append_nil]
  exact al'
def Y9 (K:W.Frag) (cN cW cC:Addr):Sp:=fun vs H Q _=>∃ (o:Addr) (wd:Int) (f:Nat) (x:Str) (st:Bool) (d:Fd),vs=[.ref o]/\xv K H o cN cW cC wd f x st d /\ ∀ l H' us,zT H H'->H' l=some (.lst us)->Al (RP H' Tr) us ((Ja d).filter (Z2 wd st))->Q (.ref l) H'
include Z in
theorem Qs:Has P w K mg base "core_looks" 6 ["form"] (Y9 K zE zI zJ):=by
 have isn:IsF K zE zE zI true false:=⟨Z.cg,Z.cK,Z.cI,Z.cJ,Z.cL,Z.cM,Z.cN⟩
 have isw:IsF K zI zE zI false true:=⟨Z.cj,Z.cO,Z.cI,Z.cJ,Z.cP,Z.cQ,Z.cR⟩
 have isc:IsF K zJ zE zI false false:=⟨Z.cm,Z.cS,Z.cI,Z.cJ,Z.cT,Z.cU,Z.cV⟩
 refine jm Z.kn Z.bC (l1N (by intros;rfl)) fun fq fd F=>?_
 refine F.ok xk (fun vs H Q E=>?_) (fun _ _ _ s H vs Q E hr h=>?_)
 ·walk_at "ln"
 obtain ⟨o,wd,f,x,st,d,rfl,D0,q⟩:=h
 refine ⟨_,zC (zu (qH (zK jS Z.aq rfl zf (zA (pv 0) (zA (qy rfl Z.al (v:=.ref zE) rfl) (zB))))) (zG (zM (i:=1) xk.nd rfl (Or.inl rfl) (zF (Xw Z) hr rfl (zA (pv 0) (zB))))) (zG (zu (qH (zK jS Z.aq rfl zf (zA (pv 0) (zA (qy rfl Z.am (v:=.ref zI) rfl) (zB))))) (zG (yY (cl:=[("form", s.heap.objs.size+1+0)]) (fr:=["form"]) (is:=[0]) (i:=1) xk.nd rfl (Or.inl rfl) rfl rfl rfl ⟨rfl,trivial⟩ rfl ⟨⟨rfl,rfl,Or.inl rfl⟩,trivial⟩ (by decide) (by decide +kernel) rfl (by decide +kernel) rfl (J2 rfl Z.ap (zA (ze (pv 0) rfl) (zA (zP zg (ze (pv 0) rfl) (zD)) (zB)))) (fun _ _ _ _=>qz) (fun _ _ _ _=>ji (zA (zl (zB)) (zA (zP J8 (zl (zA (yT (K:=K) rfl (pv 1) rfl) (zB))) (pv 0)) (zB)))))) (zG (yY (cl:=[]) (fr:=[]) (is:=[]) (i:=1) xk.nd rfl (Or.inl rfl) rfl rfl rfl trivial rfl trivial (by decide) (by decide +kernel) rfl (by decide +kernel) rfl (jF (ze (pv 0) rfl)) (fun _ _ _ _=>qz) (fun _ _ _ _=>ji (zA (zl (zB)) (zA (kr (Qp rfl) rfl Z.az J9 (zA (pv 0) (zB))) (zB)))))))))
  (zG (zL (jV (cl:=[("form", s.heap.objs.size+1+0)]) (fr:=["form"]) (is:=[0]) rfl rfl ⟨rfl,trivial⟩ rfl ⟨⟨rfl,rfl,Or.inl rfl⟩,trivial⟩ (by decide) (by decide +kernel) rfl (by decide +kernel) rfl (jF (pv 1)) (fun _ _ _ _=>yw (qc (qH (j6 (zc (ym (jD Z) in0 :) Z.cg qu hr (pv 1) (zA (zP jf (zX (j7 (K:=K) rfl) (pv 0) (zD) (fun _ _=>rfl)) (zX (j7 (K:=K) rfl) (pv 0) (zD) (fun _ _=>rfl))) (zB))) (j6 (zc (ym (jD Z) in1 :) Z.cj qu hr (pv 1) (zA (zP jf (zX (j7 (K:=K) rfl) (pv 0) (zD) (fun _ _=>rfl)) (zX (j7 (K:=K) rfl) (pv 0) (zD) (fun _ _=>rfl))) (zB))) (zc (ym (jD Z) in2 :) Z.cm qu hr (pv 1) (zA (zP jf (zX (j7 (K:=K) rfl) (pv 0) (zD) (fun _ _=>rfl)) (zX (j7 (K:=K) rfl) (pv 0) (zD) (fun _ _=>rfl))) (zB)))))))) (fun _ _ _ _=>pv 0)))),?_⟩
 walk_at "st"
 cases D0 with
 | @num fg pl b sn z m pt wy F0 ok =>
  have o1:=ok.fg1;have o2:=ok.fg2;have o3:=ok.pl1;have o4:=ok.pl2
  have T0:=isn.ty F0
  have cbd:=zFG ok
  walk_at "rd"
  refine kZ T0 ⟨"", .inr ⟨_,rfl⟩⟩ isn.k1 ?_
  walk_at "rd"
  refine ⟨o,_,fg,pl,b,sn,z,m,pt,wy,wd,f,x,st,rfl,F0,ok,fun l1 H1 us1 g1 e1 al1=>?_⟩
  have lc:(ncs fg pl b sn z m pt).length<=100:=by
   unfold ncs
   rw [length_append,length_map,length_map,length_map,length_map,length_range,length_range];omega
  walk_at "rd"
  have ln1:=al1.len
  refine z8 (SqL.of e1) (small (by omega)) (fun i ys H'=>zT H1 H'/\Al (RP H' Tr) ys (((ncs fg pl b sn z m pt).take i).filter (Z2 wd st))) ⟨zT.refl _,.nil⟩ (fun i ys H' hi h=>⟨SqL.of (h.1.at e1),by rw [h.2.len];exact Nat.le_trans (length_filter_le _ _) (by rw [length_take];omega)⟩) ?_ ?_
  ·rintro i v ys H2 hv hi ⟨g2,al⟩
   obtain ⟨c,hc,t,a,b,rfl,_,et,ea,eb⟩:=al1.get hv
   have F2:=F0.same (g1.trans g2)
   have et2:=g2.at et;have ea2:=g2.at ea;have eb2:=g2.at eb
   have cl:=cbd c (mem_of_getElem? hc)
   walk_at "rd"
   refine VY ?_
   walk_at "rd"
   rename_i p3 H3 g3 n3 e3
   refine Zz (F2.same g3) e3 ⟨_,rfl,?_⟩
   exact Yl hi hc al g2 g3 ⟨t,a,b,rfl,⟨trivial,trivial,trivial⟩,et2,ea2,eb2⟩ fun k=>by walk_at "rd"; exact k
  ·rintro ys H2 ⟨g2,al⟩ p2 H3 g3 n3 e3
   rw [take_of_length_le (by omega)] at al
   exact q _ _ _ (g1.trans (g2.trans g3)) e3 (al.imp fun _ _ h=>h.same g3)
 | @word sg lo hi F0 ok =>
  have o1:=ok.s1;have o2:=ok.s2;have o3:=ok.lo1;have o4:=ok.lo2;have o5:=ok.hi2
  have T0:=isw.ty F0
  walk_at "rd"
  refine kZ T0 ⟨"", .inr ⟨_,rfl⟩⟩ isw.k1 ?_
  walk_at "rd"
  refine kZ T0 ⟨"", .inr ⟨_,rfl⟩⟩ isw.k2 ?_
  walk_at "rd"
  refine zB1 (by omega) (Nat.le_of_lt (qK (by omega))) (fun i ys H'=>zT H H'/\Al (RP H' Tr) ys ((List.range i).map fun i:Nat=>(([]:Ce),List.replicate (lo+(i:Int)).toNat sg))) ⟨zT.refl _,.nil⟩ (fun i ys H' hi h=>by rw [h.2.len,length_map,length_range];exact Nat.le_refl _) ?_ ?_
  ·rintro i ys H2 hi ⟨g2,al⟩
   have F2:=F0.same g2
   walk_at "rd"
   rename_i p3 H3 g3 n3 e3 p4 H4 g4 n4 e4 p5 H5 g5 n5 e5 p6 H6 g6 e6
   refine nxC hi ⟨by walk_at "sm", ?_⟩
   rw [Jf]
   exact (al.imp fun _ _ h=>h.same (g3.trans (g4.trans (g5.trans g6)))).app (.one ⟨p6,p3,p5,rfl,⟨trivial,trivial,trivial⟩,e6,g6.at (g5.at (g4.at e3)),g6.at e5⟩)
  rintro ys H1 ⟨g0,al0⟩ l1 H1' g1' n1 e1
  have g1:=g0.trans g1'
  have al1:=al0.imp fun _ _ (h:RP H1 Tr _ _)=>h.same g1'
  have lc:((List.range (hi+1 - lo).toNat).map fun i:Nat=>(([]:Ce),List.replicate (lo+(i:Int)).toNat sg)).length<=100:=by rw [length_map,length_range];omega
  have cbd : ∀ c ∈ (List.range (hi+1 - lo).toNat).map fun i:Nat=>(([]:Ce),List.replicate (lo+(i:Int)).toNat sg),c.1.length<=200/\c.2.length<=200:=fun c hc=>by
   obtain ⟨i,hi,rfl⟩:=List.mem_map.mp hc
   have:=List.mem_range.mp hi
   exact ⟨by simp,by rw [length_replicate];omega⟩
  walk_at "rd"
  have ln1:=al1.len
  refine z8 (SqL.of e1) (small (by omega)) (fun i ys H'=>zT H1' H'/\Al (RP H' Tr) ys ((((List.range (hi+1 - lo).toNat).map fun i:Nat=>(([]:Ce),List.replicate (lo+(i:Int)).toNat sg)).take i).filter (Z2 wd st))) ⟨zT.refl _,.nil⟩ (fun i ys H' hi h=>⟨SqL.of (h.1.at e1),by rw [h.2.len];exact Nat.le_trans (length_filter_le _ _) (by rw [length_take];omega)⟩) ?_ ?_
  ·rintro i v ys H2 hv hi ⟨g2,al⟩
   obtain ⟨c,hc,t,a,b,rfl,_,et,ea,eb⟩:=al1.get hv
   have F2:=F0.same (g1.trans g2)
   have et2:=g2.at et;have ea2:=g2.at ea;have eb2:=g2.at eb
   have cl:=cbd c (mem_of_getElem? hc)
   walk_at "rd"
   refine JP (VY ?_)
   walk_at "rd"
   rename_i p3 H3 g3 n3 e3
   refine Zz (F2.same g3) e3 ⟨_,rfl,?_⟩
   exact Yl hi hc al g2 g3 ⟨t,a,b,rfl,⟨trivial,trivial,trivial⟩,et2,ea2,eb2⟩ fun k=>by walk_at "rd"; exact k
  ·rintro ys H2 ⟨g2,al⟩ p2 H3 g3 n3 e3
   rw [take_of_length_le (by omega)] at al
   exact q _ _ _ (g1.trans (g2.trans g3)) e3 (al.imp fun _ _ h=>h.same g3)
 | @cho L ns F0 e0 ok =>
  have o1:=ok.n1;have o2:=ok.n2
  have T0:=isc.ty F0
  walk_at "rd"
  refine kZ T0 ⟨"", .inr ⟨_,rfl⟩⟩ isc.k1 ?_
  walk_at "rd"
  refine kZ T0 ⟨"", .inr ⟨_,rfl⟩⟩ isc.k2 ?_
  walk_at "rd"
  have tl:=zo ns
  refine z8 (SqL.of e0) (small (by omega)) (fun i ys H'=>zT H H'/\Al (RP H' Tr) ys ((ns.take i).map fun n=>(([]:Ce),chs n))) ⟨zT.refl _,.nil⟩ (fun i ys H' hi h=>⟨SqL.of (h.1.at e0),by rw [h.2.len,length_map,length_take];omega⟩) ?_ ?_
  ·rintro i v ys H2 hv hi ⟨g2,al⟩
   obtain ⟨nm,hn,rfl⟩:=yR hv
   have nl:=ok.len nm (mem_of_getElem? hn)
   walk_at "rd"
   rename_i p3 H3 g3 n3 e3 p4 H4 g4 n4 e4 p6 H6 g6 e6
   refine nxC hi ⟨by walk_at "sm", ?_⟩
   rw [take_succ,hn,map_append]
   exact (al.imp fun _ _ h=>h.same (g3.trans (g4.trans g6))).app (.one ⟨p6,p3,p4,rfl,⟨trivial,trivial,trivial⟩,e6,g6.at (g4.at e3),g6.at e4⟩)
  rintro ys H1 ⟨g0,al0⟩ l1 H1' g1' n1 e1
  rw [take_of_length_le (by omega)] at al0
  have g1:=g0.trans g1'
  have al1:=al0.imp fun _ _ (h:RP H1 Tr _ _)=>h.same g1'
  have lc:(ns.map fun n=>(([]:Ce),chs n)).length<=100:=by rw [length_map];omega
  have cbd : ∀ c ∈ ns.map fun n=>(([]:Ce),chs n),c.1.length<=200/\c.2.length<=200:=fun c hc=>by
   obtain ⟨n,hn,rfl⟩:=List.mem_map.mp hc
   have:=ok.len n hn
   exact ⟨by simp,by unfold chs;rw [length_map];omega⟩
  walk_at "rd"
  have ln1:=al1.len
  refine z8 (SqL.of e1) (small (by omega)) (fun i ys H'=>zT H1' H'/\Al (RP H' Tr) ys (((ns.map fun n=>(([]:Ce),chs n)).take i).filter (Z2 wd st))) ⟨zT.refl _,.nil⟩ (fun i ys H' hi h=>⟨SqL.of (h.1.at e1),by rw [h.2.len];exact Nat.le_trans (length_filter_le _ _) (by rw [length_take];omega)⟩) ?_ ?_
  ·rintro i v ys H2 hv hi ⟨g2,al⟩
   obtain ⟨c,hc,t,a,b,rfl,_,et,ea,eb⟩:=al1.get hv
   have F2:=F0.same (g1.trans g2)
   have et2:=g2.at et;have ea2:=g2.at ea;have eb2:=g2.at eb
   have cl:=cbd c (mem_of_getElem? hc)
   walk_at "rd"
   refine JP (JP ?_)
   walk_at "rd"
   rename_i p3 H3 g3 n3 e3
   refine Zz (F2.same g3) e3 ⟨_,rfl,?_⟩
   exact Yl hi hc al g2 g3 ⟨t,a,b,rfl,⟨trivial,trivial,trivial⟩,et2,ea2,eb2⟩ fun k=>by walk_at "rd"; exact k
  ·rintro ys H2 ⟨g2,al⟩ p2 H3 g3 n3 e3
   rw [take_of_length_le (by omega)] at al
   exact q _ _ _ (g1.trans (g2.trans g3)) e3 (al.imp fun _ _ h=>h.same g3)
def lks (wd:Int) (f:Nat) (x:Str) (st:Bool) (d:Fd):List Ce:=((Ja d).filter (Z2 wd st)).map (flk wd f x)
theorem WL {o:Addr} {d:Fd} (h:xv K H o cN cW cC wd f x st d):(Ja d).length<=100 /\ ∀ c ∈ Ja d,c.1.length<=200/\c.2.length<=200:=by
 cases h with
 | @num fg pl b sn z m pt wy F ok =>
  have o1:=ok.fg1;have o2:=ok.fg2;have o3:=ok.pl1;have o4:=ok.pl2
  refine ⟨?_,zFG ok⟩
  show (ncs fg pl b sn z m pt).length<=100
  unfold ncs
  rw [length_append,length_map,length_map,length_map,length_map,length_range,length_range];omega
 | @word sg lo hi F ok =>
  have o3:=ok.lo1;have o4:=ok.lo2;have o5:=ok.hi2
  refine ⟨?_,fun c hc=>?_⟩
  ·show (List.map _ (List.range (hi+1 - lo).toNat)).length<=100
   rw [length_map,length_range];omega
  ·obtain ⟨i,hi,rfl⟩:=List.mem_map.mp (show c ∈ List.map _ (List.range (hi+1 - lo).toNat) from hc)
   have:=List.mem_range.mp hi
   exact ⟨by simp,by rw [length_replicate];omega⟩
 | @cho L ns F e ok =>
  have o2:=ok.n2
  refine ⟨?_,fun c hc=>?_⟩
  ·show (List.map _ ns).length<=100
   rw [length_map];omega
  ·obtain ⟨n,hn,rfl⟩:=List.mem_map.mp (show c ∈ List.map _ ns from hc)
   have:=ok.len n hn
   exact ⟨by simp,by unfold chs;rw [length_map];omega⟩
def J6 (K:W.Frag) (cN cW cC:Addr):Sp:=fun vs H Q _=>∃ (o:Addr) (wd:Int) (f:Nat) (x:Str) (st:Bool) (d:Fd),vs=[.ref o]/\xv K H o cN cW cC wd f x st d /\ ∀ l H' us,zT H H'->H l=none->H' l=some (.lst us)->Al (RL H' (fun q=>q≠l/\H q=none)) us (lks wd f x st d)->Q (.ref l) H'
theorem X5 {o:Addr} {d:Fd} (h:xv K H o cN cW cC wd f x st d) (q : ∀ l H' us,zT H H'->H l=none->H' l=some (.lst us)->Al (RL H' (fun q=>q≠l/\H q=none)) us (lks wd f x st d)->Q (.ref l) H'):J6 K cN cW cC ([.ref o]++[]) H Q E:=⟨o,wd,f,x,st,d,rfl,h,q⟩
include Z in
theorem Yi:Has P w K mg base "looks_of" 7 ["form"] (J6 K zE zI zJ):=by
 refine jm Z.kn Z.bD (l1N (by intros;rfl)) fun fq fd F=>?_
 refine F.ok WM (fun vs H Q E=>?_) (fun _ _ _ s H vs Q E hr h=>?_)
 ·walk_at "ln"
 obtain ⟨o,wd,f,x,st,d,rfl,D0,q⟩:=h
 refine ⟨_,zG (zL (jV (cl:=[("form", s.heap.objs.size+1+0)]) (fr:=["form"]) (is:=[0]) rfl rfl ⟨rfl,trivial⟩ rfl ⟨⟨rfl,rfl,Or.inl rfl⟩,trivial⟩ (by decide) (by decide +kernel) rfl (by decide +kernel) rfl (jF (zF (Qs Z :) hr rfl (zA (pv 0) (zB)))) (fun _ _ _ _=>qz) (fun _ _ _ _=>zF (VM Z :) hr rfl (zA (pv 1) (zA (zX (j7 (K:=K) rfl) (pv 0) (zD) (fun _ _=>rfl)) (zA (zX (j7 (K:=K) rfl) (pv 0) (zD) (fun _ _=>rfl)) (zB))))))),?_⟩
 walk_at "st"
 obtain ⟨C,more,F0,sx,w0,w1⟩:=D0.bd
 obtain ⟨cl,cb⟩:=WL D0
 walk_at "rd"
 refine ⟨o,wd,f,x,st,d,rfl,D0,fun l1 H1 us1 g1 e1 al1=>?_⟩
 have fl:=length_filter_le (Z2 wd st) (Ja d)
 have ln1:=al1.len
 refine z8 (SqL.of e1) (small (by omega)) (fun i ys H'=>zT H1 H'/\Al (RL H' (fun q=>H q=none)) ys ((((Ja d).filter (Z2 wd st)).take i).map (flk wd f x))) ⟨zT.refl _,.nil⟩ (fun i ys H' hi h=>⟨SqL.of (h.1.at e1),by rw [h.2.len,length_map,length_take];omega⟩) ?_ ?_
 ·rintro i v ys H2 hv hi ⟨g2,al⟩
  obtain ⟨c,hc,t,a,b,rfl,_,et,ea,eb⟩:=al1.get hv
  have cl:=cb c (List.mem_filter.mp (mem_of_getElem? hc)).1
  have F2:=F0.same (g1.trans g2)
  have et2:=g2.at et;have ea2:=g2.at ea;have eb2:=g2.at eb
  walk_at "rd"
  refine Y1 F2 sx w0 w1 ea2 eb2 cl.1 cl.2 fun p3 H3 g3 n3 e3=>nxC hi ⟨g2.trans g3,?_⟩
  rw [take_succ,hc,map_append]
  exact (al.imp fun _ _ h=>h.same g3).app (.one ⟨p3,rfl,none_of (g1.trans g2) n3,e3⟩)
 ·rintro ys H2 ⟨g2,al⟩ p2 H3 g3 n3 e3
  rw [take_of_length_le (by omega)] at al
  refine q _ _ _ (g1.trans (g2.trans g3)) (none_of (g1.trans g2) n3) e3 (al.imp fun _ _ h=>?_)
  obtain ⟨p,e,n,k⟩:=h
  exact ⟨p,e,⟨Ne.symm (WZ n3 k),n⟩,g3.at k⟩
section
open PySem.Spec PyProof.Rows
variable {X : Cx} {H : Hp} {Q : VK} {K : W.Frag}
def zFw (K:W.Frag):V->List V->Hp->VK->Prop:=fun x vs H Q=>∃ (l:Addr) (us:List V) (v:V) (ds:List PyData) (d:PyData),x = .ref l/\vs=[v]/\H l=some (.lst us)/\Dts K H us ds/\Dt K H v d/\PyData.canLayAll0 ds=true/\d.canLay0=true/\d.depth<=18/\Q (.int (ds.countP fun y=>y.eqv d:Nat)) H
theorem zB3 (hu:X.A.units+20 < cLine):MtM X "list.count" (zFw X.K):=by
 intro pins s σ H x vs v us Q I rx rv h
 obtain ⟨l,ys,y,ds,d,rfl,rfl,hH,hds,hd,c1,c2,dp,q⟩:=h
 cases rx
 obtain ⟨u,rfl,ru⟩:=rv.one
 obtain ⟨_,its,n,r,hl,e⟩:=I.lstM hH
 obtain ⟨as,ra⟩:=y0 I hds r
 obtain ⟨bs,rb⟩:=Jb I hd ru
 have cp:(its.toArray.toList.countP fun w=>PyData.eqv (SeqAt.readOf s.heap w) d)=ds.countP fun y=>y.eqv d:=by
  rw [<- SeqAt.readsAll_map ds _ _ c1 ra,List.countP_map];rfl
 refine call_meets F.slot_list_count ⟨_,e,rfl⟩ F.entry_list_count (F.args_list_count_2 _ _) (SeqAt.list_countAt l its.toArray n none #[] u (fun w=>PyData.eqv (SeqAt.readOf s.heap w) d)) ⟨e,SeqAt.items_eqAt (as:=as) (by simpa using ra) rb c1 c2 ?_,⟨.int _,H,I.tok _,⟨_,rfl⟩,?_⟩⟩
 ·have:=min_le_right (PyData.depthAll ds) d.depth;omega
 ·rw [cp];exact q
def zGn:V->List V->Hp->VK->Prop:=fun x vs H Q=>∃ (l:Addr) (bs:List Bool) (j:Nat),x = .ref l/\vs=[.bl true]/\H l=some (.lst (bs.map V.bl))/\bs[j]? = some true/\(∀ m,m < j->bs[m]? ≠ some true)/\j < 1000/\Q (.int j) H
theorem Kw:MtM X "list.index" zGn:=by
 intro pins s σ H x vs v us Q I rx rv h
 obtain ⟨l,zs,j,rfl,rfl,hH,hj,hno,hj1,q⟩:=h
 cases rx
 obtain ⟨u,rfl,ru⟩:=rv.one
 obtain ⟨_,its,n,r,hl,e⟩:=I.lstM hH
 have fl:(zs.map V.bl).all Xz=true:=by
  rw [List.all_eq_true];intro x hx
  obtain ⟨l,_,rfl⟩:=List.mem_map.mp hx
  rfl
 have it : ∀ (m:Nat) (hm:m < its.toArray.size),∃ y:Bool,zs[m]? = some y/\its.toArray[m] = .bool y:=fun m hm=>by
  have hm':m < its.length:=by simpa using hm
  have hz:m < zs.length:=by have:=r.length;rw [length_map] at this;omega
  obtain ⟨w,hw,rw'⟩:=r.get (i:=m) (x:=.bl zs[m]) (by rw [getElem?_map,getElem?_eq_getElem hz];rfl)
  have rw2:w = .bool zs[m]:=rw'
  subst rw2
  refine ⟨zs[m],getElem?_eq_getElem hz,?_⟩
  rw [getElem?_eq_getElem hm'] at hw
  simpa using Option.some.inj hw
 have hjz:j < its.toArray.size:=by
  have:=r.length;rw [length_map] at this
  rcases Nat.lt_or_ge j zs.length with z1 | z1
  ·simp;omega
  ·rw [List.getElem?_eq_none z1] at hj;cases hj
 refine call_meets F.slot_list_index ⟨_,e,rfl⟩ F.entry_list_index (F.args_list_index_2 _ _) (SeqAt.list_indexAt l its.toArray n none #[] u (eqU (.bl true)) j hjz (by omega) ?_ fun m hm hmj=>?_) ⟨e,fun y hy=>ZK ru rfl r fl y (by simpa using hy),⟨.int j,H,I.tok _,⟨_,rfl⟩,q⟩⟩
 ·obtain ⟨y,h1,h2⟩:=it j hjz
  rw [hj] at h1;cases h1
  rw [h2];rfl
 ·obtain ⟨y,h1,h2⟩:=it m hm
  rw [h2]
  cases y with
  | true=>exact absurd h1 (hno m hmj)
  | false=>rfl
end
theorem zBS {w:Str} {P:Int} (hb:0 < b) (h:a*P=b*k):zBU w a b P=k:=by
 unfold zBU
 rw [h,Int.mul_emod_right,if_neg (fun z=>absurd z.1 (by decide)),Int.mul_ediv_cancel_left _ (by omega)]
theorem QU {w:Str} (hS:0 < S):zBU w (ZV k S) (Zj k S) S=k:=by
 refine zBS (VF hS) ?_
 have h1:=Wn k S
 have h2:=VC k S
 have e1:ZV k S*S=ZV k S*(Zj k S*VU k S):=by rw [h2]
 have e2:Zj k S*k=Zj k S*(ZV k S*VU k S):=by rw [h1]
 rw [e1,e2];ac_rfl
theorem zAM (hb:0 < b):Int.gcd (ZV t b) (Zj t b)=1:=by
 unfold ZV Zj VU
 have e0:(0:Int)<=(Int.gcd t b:Int):=by omega
 rw [if_neg (show ¬ b < 0 by omega),Int.fdiv_eq_ediv_of_nonneg _ e0,Int.fdiv_eq_ediv_of_nonneg _ e0]
 exact Int.gcd_ediv_gcd_ediv_gcd (Int.gcd_pos_of_ne_zero_right _ (show b≠0 by omega))
theorem zBi (hS:0 < S) (h1:S < 10000000000000000000000000000000000000000000000000000000000000000000000000000000000000000000000000000000000000000000000000000000000000000000000000000000000000000000000000000000000000000000000) (h2 : -10000000000000000000000000000000000000000000000000000000000000000000000000000000000000000000000000000000000000000000000000000000000000000000000000000000000000000000000000000000000000000000000 < k) (h3:k < 10000000000000000000000000000000000000000000000000000000000000000000000000000000000000000000000000000000000000000000000000000000000000000000000000000000000000000000000000000000000000000000000):GrB (ZV k S) (Zj k S):=zJV hS h1 h2 h3
def XA (pl b:Int) (sn:Str) (z:Int) (m pt:Nat) (k:Int):List Nat:=bdI k.natAbs b pl pt z m++stT sn (decide (k < 0))
theorem zIo {n:Int} (o1:1<=fg) (o2:fg<=12) (o3:0<=pl) (o4:pl<=6) (o5:2<=b) (o6:b<=16) (h0:0<=n) (h:VG fg pl b n):n < 1766847064778384329583297500742918515827483896875618958121606201292619776:=by
 unfold VG at h
 have a:=zJ2 (b:=b) (n:=(fg+pl).toNat) o5 o6 (by omega)
 have e:((b.toNat ^ (fg+pl).toNat:Nat):Int)=b ^ (fg+pl).toNat:=by rw [Int.natCast_pow,Int.toNat_of_nonneg (by omega)]
 omega
inductive VlA (H:Hp) (v:V):Fd->List Nat->List Nat->Prop
 | num {p:Addr} {fg pl b:Int} {sn:Str} {z:Int} {m pt:Nat} {wy:Str} {k:Int} (hv:v = .ref p) (hp:H p=some (.tup [.int (ZV k (b ^ pl.toNat)),.int (Zj k (b ^ pl.toNat))])) (lim:VG fg pl b k):VlA H v (.num fg pl b sn z m pt wy) (stL sn (decide (k < 0))) (XA pl b sn z m pt k)
 | word {sg:List Nat} {lo hi:Int} {t:List Nat} (hv:v = .str (T t)) (iw:Isw sg lo hi t):VlA H v (.word sg lo hi) [] t
 | cho {ns:Ce} {t:List Nat} (hv:v = .str (T t)) (hm:t ∈ ns):VlA H v (.cho ns) [] t
variable {rs:List Nat}
theorem VlA.same {d:Fd} (g:zT H H') (h:VlA H v d ld rs):VlA H' v d ld rs:=by
 cases h with
 | num hv hp lim=>exact .num hv (g.at hp) lim
 | word hv iw=>exact .word hv iw
 | cho hv hm=>exact .cho hv hm
def okS (wd:Int) (f:Nat) (x:Str):Fd->Prop
 | .num fg pl b sn z m pt wy=>kx fg pl b sn z m pt wy wd f x
 | .word sg lo hi=>WdS sg lo hi wd f x
 | .cho ns=>ChS ns wd f x
theorem xv.okS {o:Addr} {d:Fd} (h:xv K H o cN cW cC wd f x st d):okS wd f x d:=by
 cases h <;> assumption
theorem VlA.ok {d:Fd} (D:okS wd f x d) (h:VlA H v d ld rs):ld.length<=2/\rs.length<=200/\Asc ld/\Asc rs:=by
 cases h with
 | @num q fg pl b sn z m pt wy k hv hp lim =>
  have ok:kx fg pl b sn z m pt wy wd f x:=D
  obtain ⟨nb,n2,n3,n4⟩:=Jg ok lim
  have sl:=JE ok.sn (decide (k < 0))
  have sa:=Kt ok.sn (decide (k < 0))
  have bs:=JV (z:=z.toNat) (b:=b.toNat) (p:=pl.toNat) (n:=(k.natAbs:Int).toNat) (by have:=ok.b1;omega) (by have:=ok.b2;omega) (by have:=ok.pl2;omega) nb.2.2.2.2.2 ok.pt ok.m
  refine ⟨by omega,?_,sa.1,?_⟩
  ·unfold XA bdI;rw [length_append];have:=bs.2.2;omega
  ·unfold XA bdI;exact bs.2.1.app sa.2
 | @word sg lo hi t hv iw =>
  have ok:WdS sg lo hi wd f x:=D
  have h1:=iw.1.2;have h2:=ok.hi2
  exact ⟨by decide,by omega,Asc.nil,fun c hc=>ok.sa c (iw.2 c hc)⟩
 | @cho ns t hv hm =>
  have ok:ChS ns wd f x:=D
  exact ⟨by decide,Nat.le_trans (ok.len _ hm) (by decide),Asc.nil,ok.ta _ hm⟩
theorem zER {b p pt z:Nat} (h2:2<=b) (h16:b<=16) (hp:p<=6) (h:n < b ^ (40+p)):IsB b p pt z m (bdy b p pt z m n)/\zAf b p z (bdy b p pt z m n)=n:=by
 obtain ⟨d1,d2,d3,d4,d5⟩:=yD h2 h16 hp h
 have ul:(whl b p n).length=(dgs b p n).length - p:=by unfold whl;rw [length_take];omega
 have rl:(rst b p n).length=p:=by unfold rst;rw [length_drop];omega
 have ur:whl b p n++rst b p n=dgs b p n:=take_append_drop _ _
 generalize hu:whl b p n=u at *
 generalize hr:rst b p n=r at *
 generalize dgs b p n=D at *
 have key:WE p pt (bdy b p pt z m n)/\jo p (bdy b p pt z m n)=gr z m u/\Z7 p (bdy b p pt z m n)=r:=by
  unfold bdy WE jo Z7
  rw [hu,hr]
  rcases eq_zero_or_pos p with e | e
  ·subst e
   rw [if_pos rfl]
   exact ⟨.inl rfl,rfl,(List.length_eq_zero_iff.mp rl).symm⟩
  ·rw [if_neg (by omega),if_neg (by omega),if_neg (by omega)]
   have tl:(gr z m u++[pt]++r).length=(gr z m u).length+1+p:=by rw [length_append,length_append,rl];rfl
   rw [tl]
   have e1:(gr z m u).length+1+p - p - 1=(gr z m u).length:=by omega
   have e2:(gr z m u).length+1+p - p=(gr z m u++[pt]).length:=by rw [length_append,length_singleton];omega
   refine ⟨.inr ⟨by omega,?_⟩,?_,?_⟩
   ·rw [e1,append_assoc,getD_eq_getElem?_getD,List.getElem?_append_right (Nat.le_refl _),Nat.sub_self];rfl
   ·rw [e1,append_assoc,take_left]
   ·rw [e2,drop_left]
 obtain ⟨k1,k2,k3⟩:=key
 unfold IsB zAf
 rw [k2,k3,KZ,ur]
 refine ⟨⟨k1,⟨by rw [KZ];omega,by rw [KZ];omega,by rw [KZ]⟩,d1,?_⟩,d2⟩
 rintro ⟨a,c⟩
 have:D.getD 0 0=48:=by rw [<- ur,getD_eq_getElem?_getD,List.getElem?_append_left (by omega),<- getD_eq_getElem?_getD];exact c
 have:=d5 this
 omega
theorem zDJ {B:List Nat}:bod sn bl (sg sn bl B)=B:=by
 unfold bod sg
 rw [length_append,Nat.add_sub_cancel,take_left,drop_left]
theorem qX {pt:Nat}:jM pl b sn z m pt k=stL sn (decide (k < 0))++XA pl b sn z m pt k:=by unfold jM sg XA;rw [append_assoc]
theorem zAv {pt:Nat} (ok:kx fg pl b sn z m pt wy wd f x) (h:VG fg pl b k):qO fg pl b sn z m pt (decide (k < 0)) (jM pl b sn z m pt k)=some k:=by
 obtain ⟨nb,n2,n3,n4⟩:=Jg ok h
 obtain ⟨B,rfl⟩:=Int.eq_ofNat_of_zero_le (show 0<=b by have:=ok.b1;omega)
 have o5:=ok.b1;have o6:=ok.b2;have o4:=ok.pl2;have o3:=ok.pl1
 have nb6:=nb.2.2.2.2.2
 rw [toNat_natCast,toNat_natCast] at nb6
 obtain ⟨i1,i2⟩:=zER (b:=B) (p:=pl.toNat) (pt:=pt) (z:=z.toNat) (m:=m) (n:=k.natAbs) (by omega) (by omega) (by omega) nb6
 have eb:bod sn (decide (k < 0)) (jM pl B sn z m pt k)=bdy B pl.toNat pt z.toNat m k.natAbs:=by
  unfold jM;rw [zDJ];unfold bdI;rw [toNat_natCast,toNat_natCast]
 have pe:((B ^ (fg+pl).toNat:Nat):Int)=(B:Int) ^ (fg+pl).toNat:=Int.natCast_pow ..
 unfold VG at h
 rw [toNat_natCast] at h
 unfold qO
 rw [eb,i2,if_pos ⟨n2,i1,by omega,fun e=>by have:=of_decide_eq_true e;omega⟩]
 by_cases e:k < 0
 ·rw [if_pos (decide_eq_true e)];congr 1;omega
 ·rw [if_neg (by simpa using e)];congr 1;omega
theorem zCN (hf:f < 127):Asc (List.replicate n f):=fun c hc=>by rw [(List.mem_replicate.mp hc).2];exact hf
theorem zB8 {t:List Nat} (h:Asc t) (hf:f < 127):Asc (pad t wd f x):=((zCN hf).app h).app (zCN hf)
theorem zGf (sx:Xd x) (w0:0<=wd) (hw:wd<=40) (hf:f < 127) (l1:ld.length<=2) (l2:rs.length<=200) (a1:Asc ld) (a2:Asc rs):Asc (Jw ld (ld++rs) wd f x)/\(Jw ld (ld++rs) wd f x).length<=300:=by
 unfold Jw
 split
 ·rw [drop_left]
  have pl:=Xa (f:=f) (x4 (x:="right") (n:=rs.length) (w:=wd - ld.length) (.inr (.inl rfl)) (by omega) (by omega))
  have b2:=QY rs.length (wd - ld.length) (by omega) (by omega)
  exact ⟨a1.app (zB8 a2 hf),by rw [length_append];omega⟩
 ·rename_i hc
  have sx':y4 x:=sx.elim id fun z=>absurd z hc
  have pl:=Xa (f:=f) (x4 (x:=x) (n:=(ld++rs).length) (w:=wd) sx' (by omega) hw)
  have b2:=QY (ld++rs).length wd (by omega) hw
  rw [length_append] at pl b2
  exact ⟨zB8 (a1.app a2) hf,by omega⟩
def sD (t:List Nat):PyData:=.str (T t)
theorem zJJ {K:PySem.W.Frag} {o:Addr} {d:Fd} (F:xv K H o cN cW cC wd f x st d) (W:VlA H v d ld rs):Co1 H d v (.inl (ld++rs,ld)):=by
 have ok:=W.ok F.okS
 cases W with
 | @num p fg pl b sn z m pt wy k hv hp lim =>
  cases F with
  | num F ok =>
   have o1:=ok.fg1;have o2:=ok.fg2;have o3:=ok.pl1;have o4:=ok.pl2;have o5:=ok.b1;have o6:=ok.b2
   have pw:=pw6 (b:=b) (t:=pl) o5 o6 o4
   have lm:=zIo (n:=(k.natAbs:Int)) o1 o2 o3 o4 o5 o6 (by omega) (by unfold VG at *;rw [natAbs_natCast];exact lim)
   subst hv
   rw [<- qX]
   exact .num hp (zBi (by omega) (by omega) (by omega) (by omega)) (zAM (by omega)) (QU (by omega)) lim
 | @word sg lo hi t hv iw =>
  subst hv;exact .word (by omega) iw
 | @cho ns t hv hm =>
  subst hv;exact .cho (by omega) hm
def rD (S k:Int):PyData:=.tuple [.int (ZV k S),.int (Zj k S)]
theorem zEB (e:X.K=K):IxR X (zD0 K):=e ▸ zp
def zAt (c:Ce) (t:List Nat):Bool:=decide (t.length=c.length) && (List.range c.length).all fun k=>decide (t.getD k 0 ∈ c.getD k [])
def zDI (K:W.Frag):Sp:=fun vs H Q _=>∃ (l:Addr) (c:Ce) (t:List Nat),vs=[.ref l,.str (T t)]/\H l=some (.lst (tsV c))/\c.length<=500/\t.length<=600 /\ ∀ H',zT H H'->Q (.bl (zAt c t)) H'
theorem zBY {l:Addr} {c:Ce} {t:List Nat} (h1:H l=some (.lst (tsV c))) (h2:c.length<=500) (h3:t.length<=600) (q : ∀ H',zT H H'->Q (.bl (zAt c t)) H'):zDI K ([.ref l,.str (T t)]++[]) H Q E:=⟨l,c,t,rfl,h1,h2,h3,q⟩
theorem zIF {c:Ce} {t:List Nat} (h : ¬ t.length=c.length):zAt c t=false:=by unfold zAt;rw [decide_eq_false h];rfl
def fbs (c:Ce) (t:List Nat) (i:Nat):List Bool:=(List.range i).map fun k=>decide (t.getD k 0 ∈ c.getD k [])
theorem zGi {c:Ce} {t:List Nat} (h:t.length=c.length):zAt c t=(fbs c t c.length).all id:=by
 unfold zAt fbs
 rw [decide_eq_true h,Bool.true_and,List.all_map];rfl
theorem zEe {c:Ce} {t:List Nat} {i:Nat}:fbs c t (i+1)=fbs c t i++[decide (t.getD i 0 ∈ c.getD i [])]:=by
 unfold fbs;rw [range_succ,map_append];rfl
theorem zHc {c:Ce} {t:List Nat} {i:Nat}:(fbs c t i).length=i:=by unfold fbs;rw [length_map,length_range]
include Z in
theorem zCS:Has P w K mg base "fits" 1 ["look", "text"] (zDI K):=by
 refine jm Z.kn Z.bE (l2N (by intros;rfl)) fun fq fd F=>?_
 refine F.ok zHX (fun vs H Q E=>?_) (fun _ _ _ s H vs Q E hr h=>?_)
 ·walk_at "ln"
 obtain ⟨l,c,t,rfl,h1,h2,h3,q⟩:=h
 refine ⟨_,zC (zu (zQ QH (zK zr Z.ao rfl qD (zA (pv 1) (zB))) (zK qj Z.ao rfl qD (zA (pv 0) (zB))) (zS _)) (zG (zL (xE))) (zU))
  (zG (zL (zK (Vq rfl) Z.aB rfl zFT (zA (jV (cl:=[("text", s.heap.objs.size+1+1),("look", s.heap.objs.size+1+0)]) (fr:=["look", "text"]) (is:=[0,1]) rfl rfl ⟨rfl,⟨rfl,trivial⟩⟩ rfl ⟨⟨rfl,rfl,Or.inl rfl⟩,⟨⟨rfl,rfl,Or.inl rfl⟩,trivial⟩⟩ (by decide) (by decide +kernel) rfl (by decide +kernel) rfl (jr rfl Z.ap (zA (zK qj Z.ao rfl qD (zA (pv 0) (zB))) (zB))) (fun _ _ _ _=>qz) (fun _ _ _ _=>qY W5 (zX x0 (pv 2) (pv 0) (fun _ _=>rfl)) (zX (zEB (K:=K) rfl) (pv 1) (pv 0) (fun _ _=>rfl)) (by with_unfolding_all rfl))) (zB))))),?_⟩
 walk_at "st"
 walk_at "rd"
 ·rename_i hc
  refine Xg (by omega) (by omega) (Nat.le_of_lt (qK (by omega))) (fun i ys H'=>H'=H/\ys=(fbs c t i).map V.bl) ⟨rfl,rfl⟩ (fun i ys H' _ zz=>by rw [zz.2,length_map,zHc];omega) ?_ ?_
  ·rintro i ys H' hi ⟨rfl,rfl⟩
   have e0:(0+(i:Int)).toNat=i:=by omega
   walk_at "rd"
   refine nxC hi ⟨rfl,?_⟩
   rw [zEe,map_append,e0];rfl
  ·rintro ys H' ⟨rfl,rfl⟩ p H2 g2 n2 e2
   rw [toNat_natCast] at e2
   walk_at "rd"
   rw [<- zGi (by omega)]
   exact q _ g2
 ·rename_i hc
  have q':=q _ (zT.refl _)
  rw [zIF (by omega)] at q'
  exact q'
def NeC (c:Ce):Prop:=∀ t ∈ c,1<=t.length/\t.length<=200/\Asc t
theorem NeC.nil:NeC []:=fun _ h=>nomatch h
theorem NeC.app {a b:Ce} (h:NeC a) (k:NeC b):NeC (a++b):=fun t ht=>(List.mem_append.mp ht).elim (h t) (k t)
theorem NeC.one {t:List Nat} (h:1<=t.length) (h2:t.length<=200) (h3:Asc t):NeC [t]:=fun u hu=>by rw [List.mem_singleton.mp hu];exact ⟨h,h2,h3⟩
theorem NeC.rep {t:List Nat} (h:1<=t.length) (h2:t.length<=200) (h3:Asc t) (n:Nat):NeC (List.replicate n t):=fun u hu=>by rw [(List.mem_replicate.mp hu).2];exact ⟨h,h2,h3⟩
theorem NeC.chs {l:List Nat} (h:Asc l):NeC (chs l):=fun t ht=>by
 obtain ⟨c,hc,rfl⟩:=List.mem_map.mp ht
 exact ⟨by simp,by simp,Asc.one (h c hc)⟩
theorem NeC.take {a:Ce} (h:NeC a) (n:Nat):NeC (a.take n):=fun t ht=>h t (List.mem_of_mem_take ht)
theorem NeC.drop {a:Ce} (h:NeC a) (n:Nat):NeC (a.drop n):=fun t ht=>h t (List.mem_of_mem_drop ht)
theorem zHY {a:Ce} {z:Nat} (hz:z≠0) : ∀ (n e:Nat),e<=n -> ∀ p ∈ pcA a z e,∀ t ∈ p,t ∈ a:=by
 intro n
 induction n with
 | zero=>intro e h p hp;rw [show e=0 by omega,xB] at hp;cases hp
 | succ n ih =>
  intro e h p hp t ht
  by_cases he:e=0
  ·rw [he,xB] at hp;cases hp
  ·rw [QZ he hz] at hp
   rcases List.mem_append.mp hp with hp | hp
   ·exact ih (e - z) (by omega) p hp t ht
   ·rw [List.mem_singleton.mp hp] at ht
    exact List.mem_of_mem_take (List.mem_of_mem_drop ht)
theorem NeC.gcs {z:Nat} {m:List Nat} {a:Ce} (hm:1<=m.length) (hm2:m.length<=200) (hm3:Asc m) (ha:NeC a):NeC (gcs z m a):=by
 unfold Pw.gcs
 split
 ·exact ha
 ·rename_i hz
  refine NeC.drop (fun t ht=>?_) _
  obtain ⟨p,hp,ht⟩:=List.mem_flatten.mp ht
  obtain ⟨r,hr,rfl⟩:=List.mem_map.mp hp
  rcases List.mem_cons.mp ht with rfl | ht
  ·exact ⟨hm,hm2,hm3⟩
  ·exact ha t (zHY hz _ _ (Nat.le_refl _) r hr t ht)
theorem NeC.sgc {pt:Nat} {b:Bool} (hs:xw sn) (hm:m < 127) (hp:pt < 127) (h:NeC row):NeC (sgc pl sn z m pt b row).1/\NeC (sgc pl sn z m pt b row).2:=by
 refine ⟨.chs (Kt hs b).1,NeC.app ?_ (.chs (Kt hs b).2)⟩
 unfold bcs
 split
 ·exact .gcs (by simp) (by simp) (Asc.one hm) (h.take _)
 ·exact ((NeC.gcs (by simp) (by simp) (Asc.one hm) (h.take _)).app (.one (by simp) (by simp) (Asc.one hp))).app (h.drop _)
theorem zGM (h1:2<=b) (h2:b<=16):2<=(evs b).length/\(evs b).length<=16:=by
 have l16:(Lt "0123456789abcdef").length=16:=by decide +kernel
 unfold evs
 rw [length_take,l16];omega
theorem zGb {o:Addr} {d:Fd} (h:xv K H o cN cW cC wd f x st d) : ∀ c ∈ Ja d,NeC c.1/\NeC c.2:=by
 cases h with
 | @num fg pl b sn z m pt wy F ok =>
  obtain ⟨e1,e2⟩:=zGM ok.b1 ok.b2
  have ea:Asc (evs b):=Asc.take (by unfold Asc;decide +kernel) _
  have d1:1<=((evs b).drop 1).length:=by rw [length_drop];omega
  have d2:((evs b).drop 1).length<=200:=by rw [length_drop];omega
  intro c hc
  have hc:c ∈ ncs fg pl b sn z m pt:=hc
  unfold ncs at hc
  rcases List.mem_append.mp hc with hc | hc
  ·obtain ⟨r,hr,rfl⟩:=List.mem_map.mp hc
   obtain ⟨i,hi,rfl⟩:=List.mem_map.mp hr
   refine NeC.sgc ok.sn ok.m ok.pt ?_
   unfold rwN
   refine NeC.app (a:=[_]) (NeC.one ?_ ?_ ?_) (NeC.rep (by omega) (by omega) ea _)
   ·split <;> omega
   ·split <;> omega
   ·split
    ·exact ea
    ·exact ea.drop _
  ·obtain ⟨r,hr,rfl⟩:=List.mem_map.mp hc
   obtain ⟨i,hi,rfl⟩:=List.mem_map.mp hr
   refine NeC.sgc ok.sn ok.m ok.pt ?_
   unfold rwB
   exact ((NeC.rep (by simp) (by simp) (Asc.one (by decide)) _).app (NeC.one d1 d2 (ea.drop _))).app (NeC.rep (by omega) (by omega) ea _)
 | @word sg lo hi F ok =>
  intro c hc
  obtain ⟨i,hi,rfl⟩:=List.mem_map.mp (show c ∈ List.map _ (List.range (hi+1 - lo).toNat) from hc)
  exact ⟨.nil,.rep ok.s1 ok.s2 ok.sa _⟩
 | @cho L ns F e ok =>
  intro c hc
  obtain ⟨n,hn,rfl⟩:=List.mem_map.mp (show c ∈ List.map _ ns from hc)
  exact ⟨.nil,.chs (ok.ta n hn)⟩
theorem zFC {o:Addr} {d:Fd} (h:xv K H o cN cW cC wd f x st d):(lks wd f x st d).length<=100 /\ ∀ c ∈ lks wd f x st d,NeC c/\c.length<=500:=by
 obtain ⟨_,_,_,sx,w0,w1⟩:=h.bd
 have hf:f < 127:=by cases h with | num F ok=>exact ok.f | word F ok=>exact ok.f | cho F e ok=>exact ok.f
 obtain ⟨cl,cb⟩:=WL h
 have cn:=zGb h
 refine ⟨?_,fun c hc=>?_⟩
 ·unfold lks
  rw [length_map]
  exact Nat.le_trans (length_filter_le _ _) cl
 ·obtain ⟨r,hr,rfl⟩:=List.mem_map.mp hc
  have hr:=(List.mem_filter.mp hr).1
  obtain ⟨b1,b2⟩:=cb r hr
  obtain ⟨n1,n2⟩:=cn r hr
  have lr:=QY ((r.1.length:Int)+r.2.length) wd (by omega) w1
  have f1 : ∀ n,NeC (List.replicate n [f]):=fun n=>NeC.rep (by simp) (by simp) (Asc.one hf) n
  unfold flk
  split
  ·refine ⟨(n1.app (f1 _)).app n2,?_⟩
   rw [pAr]
   simp only [length_append,length_replicate];omega
  ·rename_i hx
   have sx':y4 x:=sx.elim id fun z=>absurd z hx
   obtain ⟨_,_,p5,p6⟩:=pab (n:=(r.1.length:Int)+r.2.length) sx' (by omega) w1
   clear lr
   refine ⟨(((f1 _).app n1).app n2).app (f1 _),?_⟩
   simp only [length_append,length_replicate];omega
def Fit:Ce->List Nat->Prop
 | [],[]=>True
 | c::cs,x::t=>x ∈ c/\Fit cs t
 | _,_=>False
theorem Fit.len : ∀ {cs:Ce} {t:List Nat},Fit cs t->t.length=cs.length
 | [],[],_=>rfl
 | _::_,_::_,h=>by rw [length_cons,length_cons,Fit.len h.2]
 | [],_::_,h=>h.elim
 | _::_,[],h=>h.elim
theorem qo : ∀ {a:Ce} {s:List Nat} {b:Ce} {t:List Nat},s.length=a.length->(Fit (a++b) (s++t)↔Fit a s/\Fit b t)
 | [],[],_,_,_=>⟨fun h=>⟨trivial,h⟩,fun h=>h.2⟩
 | _::a,_::s,b,t,e=>by
  have ih:=qo (a:=a) (s:=s) (b:=b) (t:=t) (Nat.succ.inj e)
  exact ⟨fun h=>⟨⟨h.1,(ih.mp h.2).1⟩,(ih.mp h.2).2⟩,fun h=>⟨h.1.1,ih.mpr ⟨h.1.2,h.2⟩⟩⟩
 | [],_::_,_,_,e=>by simp at e
 | _::_,[],_,_,e=>by simp at e
theorem Fit.cut {a b:Ce} {t:List Nat} (h:Fit (a++b) t) : ∃ s u,t=s++u/\s.length=a.length/\Fit a s/\Fit b u:=by
 have hl:=h.len
 rw [length_append] at hl
 have hs:(t.take a.length).length=a.length:=by rw [length_take];omega
 have h':Fit (a++b) (t.take a.length++t.drop a.length):=by rw [take_append_drop];exact h
 obtain ⟨h1,h2⟩:=(qo hs).mp h'
 exact ⟨_,_,(take_append_drop _ _).symm,hs,h1,h2⟩
theorem yA : ∀ {cs:Ce} {t:List Nat},zAt cs t=true↔Fit cs t
 | [],[]=>⟨fun _=>trivial,fun _=>rfl⟩
 | [],_::_=>⟨fun h=>by simp [zAt] at h,fun h=>h.elim⟩
 | _::_,[]=>⟨fun h=>by simp [zAt] at h,fun h=>h.elim⟩
 | c::cs,x::t=>by
  have ih:=yA (cs:=cs) (t:=t)
  unfold zAt at *
  rw [Bool.and_eq_true,decide_eq_true_iff,List.all_eq_true] at *
  constructor
  ·rintro ⟨h1,h2⟩
   refine ⟨?_,ih.mp ⟨by simpa using h1,fun k hk=>?_⟩⟩
   ·have:=h2 0 (List.mem_range.mpr (by simp))
    simpa using this
   ·have:=h2 (k+1) (List.mem_range.mpr (by have:=List.mem_range.mp hk;simp;omega))
    simpa using this
  ·rintro ⟨h1,h2⟩
   obtain ⟨i1,i2⟩:=ih.mpr h2
   refine ⟨by simpa using i1,fun k hk=>?_⟩
   cases k with
   | zero=>simpa using h1
   | succ k =>
    have:=i2 k (List.mem_range.mpr (by have:=List.mem_range.mp hk;simp at this;omega))
    simpa using this
theorem kS : ∀ {l t:List Nat},Fit (chs l) t↔t=l
 | [],[]=>⟨fun _=>rfl,fun _=>trivial⟩
 | [],_::_=>⟨fun h=>h.elim,fun h=>by cases h⟩
 | _::_,[]=>⟨fun h=>h.elim,fun h=>by cases h⟩
 | c::l,x::t=>by
  have ih:=kS (l:=l) (t:=t)
  show x ∈ [c]/\Fit (chs l) t↔x::t=c::l
  rw [ih,List.mem_singleton,List.cons.injEq]
theorem Qj : ∀ {n:Nat} {c t:List Nat},Fit (List.replicate n c) t↔t.length=n /\ ∀ x ∈ t,x ∈ c
 | 0,_,[]=>⟨fun _=>⟨rfl,fun _ h=>nomatch h⟩,fun _=>trivial⟩
 | 0,_,_::_=>⟨fun h=>h.elim,fun h=>by simp at h⟩
 | _+1,_,[]=>⟨fun h=>h.elim,fun h=>by simp at h⟩
 | n+1,c,x::t=>by
  have ih:=Qj (n:=n) (c:=c) (t:=t)
  rw [List.replicate_succ]
  show x ∈ c/\Fit (List.replicate n c) t↔_
  rw [ih]
  simp only [length_cons,Nat.add_right_cancel_iff,mem_cons,forall_eq_or_imp]
  exact ⟨fun h=>⟨h.2.1,h.1,h.2.2⟩,fun h=>⟨h.2.1,h.1,h.2.2⟩⟩
theorem zCy : ∀ xs:List (List Nat),jn [m] xs=((xs.map fun p=>m::p).flatten).drop 1
 | []=>rfl
 | x::xs=>by unfold jn;simp
theorem zEa {z:Nat} (hz:0 < z) {a b:List Nat} : ∀ (n e:Nat),e<=n->a.take e=b.take e->pcs a z 0 e=pcs b z 0 e:=by
 intro n
 induction n with
 | zero=>intro e h _;rw [show e=0 by omega,qU,qU]
 | succ n ih =>
  intro e h he
  by_cases e0:e=0
  ·rw [e0,qU,qU]
  ·have h2:a.take (e - z - 0)=b.take (e - z - 0):=by
    have:=congrArg (List.take (e - z - 0)) he
    rw [take_take,take_take,min_eq_left (show e - z - 0<=e by omega)] at this
    exact this
   rw [yS hz (show 0 < e by omega),yS (a:=b) hz (show 0 < e by omega),ih (e - z - 0) (by omega) h2,he]
def mA (z:Nat) (m:List Nat) (row:Ce) (e:Nat):Ce:=((pcA row z e).map fun p=>m::p).flatten
def mS (z m:Nat) (D:List Nat) (e:Nat):List Nat:=((pcs D z 0 e).map fun p=>m::p).flatten
variable {D:List Nat}
theorem zJ7 {z:Nat} (hz:0 < z) (hl:D.length=row.length) : ∀ (n e:Nat),e<=n->e<=row.length->(mS z m D e).length=(mA z [m] row e).length/\(Fit (mA z [m] row e) (mS z m D e)↔Fit (row.take e) (D.take e)):=by
 intro n
 induction n with
 | zero=>intro e h _;rw [show e=0 by omega];unfold mA mS;rw [xB,qU];simp [Fit]
 | succ n ih =>
  intro e h he
  by_cases e0:e=0
  ·rw [e0];unfold mA mS;rw [xB,qU];simp [Fit]
  ·obtain ⟨i1,i2⟩:=ih (e - z) (by omega) (by omega)
   have eA:mA z [m] row e=mA z [m] row (e - z)++([m]::(row.take e).drop (e - z)):=by unfold mA;rw [QZ e0 (by omega)];simp
   have eS:mS z m D e=mS z m D (e - z)++(m::(D.take e).drop (e - z)):=by unfold mS;rw [yS hz (by omega)];simp
   have r1:row.take e=row.take (e - z)++(row.take e).drop (e - z):=by
    conv=>lhs;rw [<- take_append_drop (e - z) (row.take e)]
    rw [take_take,min_eq_left (by omega)]
   have d1:D.take e=D.take (e - z)++(D.take e).drop (e - z):=by
    conv=>lhs;rw [<- take_append_drop (e - z) (D.take e)]
    rw [take_take,min_eq_left (by omega)]
   refine ⟨by rw [eA,eS];simp only [length_append,length_cons,length_drop,length_take];omega,?_⟩
   rw [eA,eS,qo i1,i2,r1,d1,qo (by rw [length_take,length_take];omega)]
   rw [<- r1,<- d1]
   refine and_congr Iff.rfl ⟨fun h=>h.2,fun h=>⟨List.mem_singleton.mpr rfl,h⟩⟩
theorem zB9 {z:Nat} {m:List Nat} (hz:0 < z) : ∀ (n e:Nat),e<=n->0 < e -> ∃ r,mA z m row e=m::r:=by
 intro n
 induction n with
 | zero=>intro e h h0;omega
 | succ n ih =>
  intro e h h0
  have eA:mA z m row e=mA z m row (e - z)++(m::(row.take e).drop (e - z)):=by unfold mA;rw [QZ (by omega) (by omega)];simp
  rcases eq_zero_or_pos (e - z) with k | k
  ·rw [eA,k];unfold mA;rw [xB];exact ⟨_,rfl⟩
  ·obtain ⟨r,hr⟩:=ih (e - z) (by omega) k
   rw [eA,hr];exact ⟨_,rfl⟩
theorem zGr {z:Nat} (hz:0 < z) : ∀ (n e:Nat),e<=n->0 < e -> ∃ r,mS z m D e=m::r:=by
 intro n
 induction n with
 | zero=>intro e h h0;omega
 | succ n ih =>
  intro e h h0
  have eS:mS z m D e=mS z m D (e - z)++(m::(D.take e).drop (e - z)):=by unfold mS;rw [yS hz (by omega)];simp
  rcases eq_zero_or_pos (e - z) with k | k
  ·rw [eS,k];unfold mS;rw [qU];exact ⟨_,rfl⟩
  ·obtain ⟨r,hr⟩:=ih (e - z) (by omega) k
   rw [eS,hr];exact ⟨_,rfl⟩
theorem zBp {z:Nat} (hl:D.length=row.length) (h1:0 < row.length):Fit (gcs z [m] row) (gr z m D)↔Fit row D:=by
 unfold gcs
 split
 ·rename_i hz;rw [hz,ZI]
 ·rename_i hz
  have z0:0 < z:=by omega
  rw [<- zGK z0,zCy]
  obtain ⟨_,i⟩:=zJ7 (m:=m) z0 hl row.length row.length (Nat.le_refl _) (Nat.le_refl _)
  rw [take_length,<- hl,take_length] at i
  obtain ⟨r,hr⟩:=zB9 (m:=[m]) (row:=row) z0 row.length row.length (Nat.le_refl _) h1
  obtain ⟨s,hs⟩:=zGr (m:=m) (D:=D) z0 D.length D.length (Nat.le_refl _) (by omega)
  show Fit ((mA z [m] row row.length).drop 1) ((mS z m D D.length).drop 1)↔_
  rw [<- i,hl,hr,<- hl,hs]
  exact ⟨fun h=>⟨List.mem_singleton.mpr rfl,h⟩,fun h=>h.2⟩
theorem zLc {z:Nat} (hz:0 < z) : ∀ (n e:Nat),e<=n->e<=row.length -> ∀ t,Fit (mA z [m] row e) t -> ∃ D:List Nat,D.length=e/\t=mS z m D e:=by
 intro n
 induction n with
 | zero =>
  intro e h _ t ht
  obtain rfl:e=0:=by omega
  unfold mA at ht;rw [xB] at ht
  cases t with
  | nil=>exact ⟨[],rfl,by unfold mS;rw [qU];rfl⟩
  | cons x t=>exact ht.elim
 | succ n ih =>
  intro e h he t ht
  by_cases e0:e=0
  ·subst e0
   unfold mA at ht;rw [xB] at ht
   cases t with
   | nil=>exact ⟨[],rfl,by unfold mS;rw [qU];rfl⟩
   | cons x t=>exact ht.elim
  ·have eA:mA z [m] row e=mA z [m] row (e - z)++([m]::(row.take e).drop (e - z)):=by unfold mA;rw [QZ e0 (by omega)];simp
   rw [eA] at ht
   obtain ⟨s,u,rfl,hs,f1,f2⟩:=ht.cut
   obtain ⟨D,dl,rfl⟩:=ih (e - z) (by omega) (by omega) s f1
   cases u with
   | nil=>exact f2.elim
   | cons x u =>
    have hx:x=m:=List.mem_singleton.mp f2.1
    have ul:=f2.2.len
    rw [length_drop,length_take] at ul
    refine ⟨D++u,by rw [length_append];omega,?_⟩
    have eS:mS z m (D++u) e=mS z m (D++u) (e - z)++(m::((D++u).take e).drop (e - z)):=by unfold mS;rw [yS hz (by omega)];simp
    rw [eS,hx]
    have p1:mS z m (D++u) (e - z)=mS z m D (e - z):=by
     unfold mS
     rw [zEa hz (e - z) (e - z) (Nat.le_refl _) (show (D++u).take (e - z)=D.take (e - z) by rw [<- dl,take_left,take_length])]
    rw [p1,take_of_length_le (by rw [length_append];omega),<- dl,drop_left]
theorem zDK {z:Nat} {t:List Nat} (h1:0 < row.length):Fit (gcs z [m] row) t ↔ ∃ D:List Nat,D.length=row.length/\Fit row D/\t=gr z m D:=by
 constructor
 ·intro h
  have h0:=h
  unfold gcs at h
  split at h
  ·rename_i hz;exact ⟨t,h.len,h,by rw [hz,ZI]⟩
  ·rename_i hz
   have z0:0 < z:=by omega
   obtain ⟨r,hr⟩:=zB9 (m:=[m]) (row:=row) z0 row.length row.length (Nat.le_refl _) h1
   have h':Fit (mA z [m] row row.length) (m::t):=by
    have h2:Fit ((mA z [m] row row.length).drop 1) t:=h
    rw [hr] at h2 ⊢
    exact ⟨List.mem_singleton.mpr rfl,h2⟩
   obtain ⟨D,dl,e⟩:=zLc z0 row.length row.length (Nat.le_refl _) (Nat.le_refl _) _ h'
   have e2:t=gr z m D:=by
    rw [<- zGK z0,zCy,dl]
    show t=(mS z m D row.length).drop 1
    rw [<- e];rfl
   refine ⟨D,dl,?_,e2⟩
   rw [e2] at h0
   exact (zBp dl h1).mp h0
 ·rintro ⟨D,dl,f,rfl⟩
  exact (zBp dl h1).mpr f
def bdD (p pt z m:Nat) (D:List Nat):List Nat:=if p=0 then gr z m D else gr z m (D.take (D.length - p))++[pt]++D.drop (D.length - p)
theorem VR {b p pt z:Nat}:bdD p pt z m (dgs b p n)=bdy b p pt z m n:=by
 unfold bdD bdy whl rst
 split
 ·rename_i h;rw [h,Nat.sub_zero,take_length]
 ·rfl
theorem zBs {pt:Nat} {t:List Nat} (hp:0<=pl) (hr:pl.toNat < row.length):Fit (bcs pl z m pt row) t ↔ ∃ D:List Nat,D.length=row.length/\Fit row D/\t=bdD pl.toNat pt z.toNat m D:=by
 have hc:((row.length:Int) - pl).toNat=row.length - pl.toNat:=by omega
 unfold bcs bdD
 rw [hc]
 by_cases p0:pl=0
 ·subst p0
  rw [if_pos rfl,show Int.toNat 0=0 from rfl,Nat.sub_zero,take_length,zDK (by omega)]
  simp
 ·rw [if_neg p0]
  have al:(row.take (row.length - pl.toNat)).length=row.length - pl.toNat:=by rw [length_take];omega
  constructor
  ·intro h
   obtain ⟨s0,u,rfl,l0,f0,f2⟩:=h.cut
   obtain ⟨s,v,rfl,l1,f1,fp⟩:=f0.cut
   obtain ⟨D,dl,fd,rfl⟩:=(zDK (by omega)).mp f1
   have hv:v=[pt]:=by
    match v,fp with
    | [x],fp=>rw [List.mem_singleton.mp fp.1]
    | [],fp=>exact fp.elim
    | _::_::_,fp=>exact fp.2.elim
   have ul:=f2.len
   rw [length_drop] at ul
   refine ⟨D++u,by rw [length_append];omega,?_,?_⟩
   ·have:Fit (row.take (row.length - pl.toNat)++row.drop (row.length - pl.toNat)) (D++u):=(qo dl).mpr ⟨fd,f2⟩
    rwa [take_append_drop] at this
   ·rw [if_neg (by omega),length_append,show D.length+u.length - pl.toNat=D.length by omega,take_left,drop_left,hv]
  ·rintro ⟨D,dl,fd,rfl⟩
   rw [if_neg (by omega)]
   have e1:(D.take (D.length - pl.toNat)).length=(row.take (row.length - pl.toNat)).length:=by rw [length_take,length_take];omega
   have fd':Fit (row.take (row.length - pl.toNat)++row.drop (row.length - pl.toNat)) (D.take (D.length - pl.toNat)++D.drop (D.length - pl.toNat)):=by rw [take_append_drop,take_append_drop];exact fd
   obtain ⟨g1,g2⟩:=(qo e1).mp fd'
   have h1:Fit (gcs z.toNat [m] (row.take (row.length - pl.toNat))) (gr z.toNat m (D.take (D.length - pl.toNat))):=(zBp e1 (by omega)).mpr g1
   have h2:Fit (gcs z.toNat [m] (row.take (row.length - pl.toNat))++[[pt]]) (gr z.toNat m (D.take (D.length - pl.toNat))++[pt]):=(qo h1.len).mpr ⟨h1,List.mem_singleton.mpr rfl,trivial⟩
   exact (qo h2.len).mpr ⟨h2,g2⟩
theorem zC9 {pt:Nat} {b:Bool} {c:List Nat} (hp:0<=pl) (hr:pl.toNat < row.length):Fit ((sgc pl sn z m pt b row).1++(sgc pl sn z m pt b row).2) c ↔ ∃ D:List Nat,D.length=row.length/\Fit row D/\c=stL sn b++bdD pl.toNat pt z.toNat m D++stT sn b:=by
 show Fit (chs (stL sn b)++(bcs pl z m pt row++chs (stT sn b))) c↔_
 constructor
 ·intro h
  obtain ⟨s,u,rfl,_,f1,f2⟩:=h.cut
  obtain ⟨v,w,rfl,_,f3,f4⟩:=f2.cut
  obtain ⟨D,dl,fd,rfl⟩:=(zBs hp hr).mp f3
  exact ⟨D,dl,fd,by rw [kS.mp f1,kS.mp f4,append_assoc]⟩
 ·rintro ⟨D,dl,fd,rfl⟩
  rw [append_assoc]
  have h1:Fit (chs (stL sn b)) (stL sn b):=kS.mpr rfl
  have h2:Fit (bcs pl z m pt row) (bdD pl.toNat pt z.toNat m D):=(zBs hp hr).mpr ⟨D,dl,fd,rfl⟩
  have h3:Fit (chs (stT sn b)) (stT sn b):=kS.mpr rfl
  exact (qo h1.len).mpr ⟨h1,(qo h2.len).mpr ⟨h2,h3⟩⟩
theorem QS (h1:2<=b) (h2:b<=16) {c:Nat}:(c ∈ evs b↔c < 127/\0<=fv c/\fv c < b)/\(c ∈ (evs b).drop 1↔(c < 127/\0<=fv c/\fv c < b)/\c≠48):=by
 have k0 : ∀ c ∈ Lt "0123456789abcdef", c < 127:=by decide +kernel
 have kA : ∀ b,b < 17 -> ∀ c,c < 127->decide (c ∈ (Lt "0123456789abcdef").take b)=decide (0<=fv c/\fv c < (b:Int)):=by decide +kernel
 have kB : ∀ b,b < 17->2<=b -> ∀ c,c < 127->decide (c ∈ ((Lt "0123456789abcdef").take b).drop 1)=decide ((0<=fv c/\fv c < (b:Int))/\c≠48):=by decide +kernel
 have key : ∀ b:Nat,b < 17->2<=b->(∀ c ∈ (Lt "0123456789abcdef").take b,c < 127) /\ ∀ c,c < 127->((c ∈ (Lt "0123456789abcdef").take b↔0<=fv c/\fv c < (b:Int))/\(c ∈ ((Lt "0123456789abcdef").take b).drop 1↔(0<=fv c/\fv c < (b:Int))/\c≠48)):=fun b hb h2=>⟨fun c hc=>k0 c (List.mem_of_mem_take hc),fun c hc=>⟨decide_eq_decide.mp (kA b hb c hc),decide_eq_decide.mp (kB b hb h2 c hc)⟩⟩
 obtain ⟨B,rfl⟩:=Int.eq_ofNat_of_zero_le (show 0<=b by omega)
 obtain ⟨k1,k2⟩:=key B (by omega) (by omega)
 unfold evs
 rw [toNat_natCast]
 refine ⟨⟨fun h=>⟨k1 c h,((k2 c (k1 c h)).1).mp h⟩,fun h=>((k2 c h.1).1).mpr h.2⟩,⟨fun h=>?_,fun h=>((k2 c h.1.1).2).mpr ⟨h.1.2,h.2⟩⟩⟩
 have hc:=k1 c (List.mem_of_mem_drop h)
 have:=((k2 c hc).2).mp h
 exact ⟨⟨hc,this.1⟩,this.2⟩
theorem K5 (h1:2<=b) (h2:b<=16) {t:List Nat}:Fit (List.replicate n (evs b)) t↔t.length=n/\j8 b t:=by
 rw [Qj]
 exact and_congr Iff.rfl ⟨fun h c hc=>(QS h1 h2).1.mp (h c hc),fun h c hc=>(QS h1 h2).1.mpr (h c hc)⟩
theorem zBt (h1:2<=b) (h2:b<=16) {i:Nat}:Fit (rwN pl (evs b) i) D↔D.length=i+1+pl.toNat/\j8 b D/\(i≠0->D.getD 0 0≠48):=by
 unfold rwN
 cases D with
 | nil=>exact ⟨fun h=>h.elim,fun h=>by have:=h.1;simp at this;omega⟩
 | cons x t =>
  show x ∈ (if i=0 then evs b else (evs b).drop 1)/\Fit (List.replicate (i+pl.toNat) (evs b)) t↔_
  rw [K5 h1 h2]
  have cs:j8 b (x::t)↔(x < 127/\0<=fv x/\fv x < b)/\j8 b t:=by unfold j8;simp [mem_cons]
  rw [cs,length_cons,show (x::t).getD 0 0=x from rfl]
  split
  ·rename_i hi
   rw [(QS h1 h2).1]
   exact ⟨fun h=>⟨by omega,⟨h.1,h.2.2⟩,fun z=>absurd hi z⟩,fun h=>⟨h.2.1.1,by omega,h.2.1.2⟩⟩
  ·rename_i hi
   rw [(QS h1 h2).2]
   exact ⟨fun h=>⟨by omega,⟨h.1.1,h.2.2⟩,fun _=>h.1.2⟩,fun h=>⟨⟨h.2.1.1,h.2.2 hi⟩,by omega,h.2.1.2⟩⟩
theorem zBc (h1:2<=b) (h2:b<=16) {i:Nat}:Fit (rwB pl (evs b) i) D ↔ ∃ F:List Nat,D=List.replicate (pl.toNat - i) 48++F/\F.length=i+1/\j8 b F/\F.getD 0 0≠48:=by
 unfold rwB
 rw [append_assoc]
 constructor
 ·intro h
  obtain ⟨s,u,rfl,_,f1,f2⟩:=h.cut
  obtain ⟨l1,m1⟩:=Qj.mp f1
  have es:s=List.replicate (pl.toNat - i) 48:=List.eq_replicate_iff.mpr ⟨l1,fun x hx=>List.mem_singleton.mp (m1 x hx)⟩
  cases u with
  | nil=>exact f2.elim
  | cons x t =>
   obtain ⟨g1,g2⟩:=f2
   obtain ⟨l2,m2⟩:=(K5 h1 h2).mp g2
   obtain ⟨a1,a2⟩:=(QS h1 h2).2.mp g1
   refine ⟨x::t,by rw [es],by rw [length_cons,l2],?_,a2⟩
   intro c hc
   rcases List.mem_cons.mp hc with rfl | hc
   ·exact a1
   ·exact m2 c hc
 ·rintro ⟨F,rfl,fl,ff,f0⟩
  have h3:Fit (List.replicate (pl.toNat - i) [48]) (List.replicate (pl.toNat - i) 48):=Qj.mpr ⟨length_replicate,fun x hx=>by rw [(List.mem_replicate.mp hx).2];exact List.mem_singleton.mpr rfl⟩
  refine (qo h3.len).mpr ⟨h3,?_⟩
  cases F with
  | nil=>simp at fl
  | cons x t =>
   exact ⟨(QS h1 h2).2.mpr ⟨ff x (mem_cons_self ..),f0⟩,(K5 h1 h2).mpr ⟨by simpa using fl,fun c hc=>ff c (mem_cons_of_mem _ hc)⟩⟩
theorem zDw {b:Nat} (h2:2<=b) (h16:b<=16):dgs b 0 n=ZL b n:=by
 unfold dgs
 have:=(ZD h2 h16 n n (Nat.le_refl _)).2.2.1
 have:1<=(ZL b n).length:=List.length_pos_iff.mpr this
 rw [show 0+1 - (ZL b n).length=0 by omega];rfl
theorem zDo {b p fg pt z i:Nat} (h2:2<=b) (h16:b<=16) (hp:p<=6) (hf:fg<=12) (hi:i < fg) {t:List Nat}:(∃ D:List Nat,D.length=i+1+p/\(j8 b D/\(i≠0->D.getD 0 0≠48))/\t=bdD p pt z m D) ↔ ∃ n:Nat,n < b ^ (fg+p)/\(dgs b p n).length=i+1+p/\t=bdy b p pt z m n:=by
 have mono : ∀ {j k:Nat},j<=k->b ^ j<=b ^ k:=fun h=>pow_le_pow_right (by omega) h
 constructor
 ·rintro ⟨D,dl,⟨fb,f0⟩,rfl⟩
  obtain ⟨v1,v2⟩:=WR h2 h16 hp fb (by omega) (by omega) (fun e=>by
   by_cases i0:i=0
   ·omega
   ·exact absurd e (f0 i0))
  refine ⟨(val b D).toNat,?_,by rw [v2,dl],by rw [<- VR (b:=b),v2]⟩
  obtain ⟨w0,w1⟩:=KU (b:=(b:Int)) (by omega) D fb
  have:=mono (show D.length<=fg+p by omega)
  have c1:((b ^ D.length:Nat):Int)=(b:Int) ^ D.length:=by simp
  omega
 ·rintro ⟨n,hn,dl,rfl⟩
  have:=mono (show fg+p<=40+p by omega)
  obtain ⟨d1,d2,d3,d4,d5⟩:=yD (n:=n) h2 h16 hp (by omega)
  exact ⟨dgs b p n,dl,⟨d1,fun i0 e=>by have:=d5 e;omega⟩,VR.symm⟩
theorem zCk {b p fg pt z i:Nat} (h2:2<=b) (h16:b<=16) (hp:p<=6) (hf:fg<=12) (hi:i < fg+p) {t:List Nat}:(∃ F:List Nat,(F.length=i+1/\j8 b F/\F.getD 0 0≠48)/\t=bdD p pt z m (List.replicate (p - i) 48++F)) ↔ ∃ n:Nat,0 < n/\n < b ^ (fg+p)/\(ZL b n).length=i+1/\t=bdy b p pt z m n:=by
 have mono : ∀ {j k:Nat},j<=k->b ^ j<=b ^ k:=fun h=>pow_le_pow_right (by omega) h
 constructor
 ·rintro ⟨F,⟨fl,fb,f0⟩,rfl⟩
  obtain ⟨v1,v2⟩:=WR (p:=0) h2 h16 (by omega) fb (by omega) (by omega) (fun e=>absurd e f0)
  rw [zDw h2 h16] at v2
  obtain ⟨w0,w1⟩:=KU (b:=(b:Int)) (by omega) F fb
  have lo:=zCo (b:=(b:Int)) (by omega) F fb (by omega) f0
  have c1:((b ^ F.length:Nat):Int)=(b:Int) ^ F.length:=by simp
  have c2:((b ^ (F.length - 1):Nat):Int)=(b:Int) ^ (F.length - 1):=by simp
  have p1:0 < b ^ (F.length - 1):=Nat.pow_pos (by omega)
  have:=mono (show F.length<=fg+p by omega)
  refine ⟨(val b F).toNat,by omega,by omega,by rw [v2,fl],?_⟩
  rw [<- VR (b:=b)]
  unfold dgs
  rw [v2,fl,show p+1 - (i+1)=p - i by omega]
 ·rintro ⟨n,n0,hn,fl,rfl⟩
  obtain ⟨s1,s2,s3,s4⟩:=ZD h2 h16 n n (Nat.le_refl _)
  refine ⟨ZL b n,⟨fl,s1,fun e=>by have:=s4 e;omega⟩,?_⟩
  rw [<- VR (b:=b)]
  unfold dgs
  rw [fl,show p+1 - (i+1)=p - i by omega]
def ixK (fg pl b:Int) (k:Int):Nat:=if k < 0 then fg.toNat+((ZL b.toNat k.natAbs).length - 1) else (dgs b.toNat pl.toNat k.natAbs).length - 1 - pl.toNat
variable {j:Nat} {q:Ce × Ce}
theorem Wl {pt:Nat} (hq:(ncs fg pl b sn z m pt)[j]? = some q):(j < fg.toNat/\q=sgc pl sn z m pt false (rwN pl (evs b) j))\/(fg.toNat<=j/\j - fg.toNat < (fg+pl).toNat/\q=sgc pl sn z m pt true (rwB pl (evs b) (j - fg.toNat))):=by
 unfold ncs at hq
 rw [map_map,map_map] at hq
 rcases Nat.lt_or_ge j fg.toNat with h | h
 ·rw [List.getElem?_append_left (by rw [length_map,length_range];exact h)] at hq
  obtain ⟨_,e⟩:=QR hq
  exact .inl ⟨h,e⟩
 ·rw [List.getElem?_append_right (by rw [length_map,length_range];exact h),length_map,length_range] at hq
  obtain ⟨l,e⟩:=QR hq
  exact .inr ⟨h,l,e⟩
theorem KJ {b p fg:Nat} (h2:2<=b) (h16:b<=16) (hp:p<=6) (hf:fg<=12) (hf1:1<=fg) (hn:n < b ^ (fg+p)):p+1<=(dgs b p n).length/\(dgs b p n).length<=fg+p/\1<=(ZL b n).length/\(ZL b n).length<=fg+p:=by
 have l1:=JZ h2 (fg+p - 1) n (by rw [show fg+p - 1+1=fg+p by omega];exact hn)
 have l2:1<=(ZL b n).length:=List.length_pos_iff.mpr (ZD h2 h16 n n (Nat.le_refl _)).2.2.1
 unfold dgs
 rw [length_append,length_replicate]
 omega
theorem zBy {pt:Nat} (ok:kx fg pl b sn z m pt wy wd f x) (hq:(ncs fg pl b sn z m pt)[j]? = some q) {c:List Nat}:Fit (q.1++q.2) c ↔ ∃ k:Int,k.natAbs < b.toNat ^ (fg+pl).toNat/\ixK fg pl b k=j/\c=sg sn (decide (k < 0)) (bdI k.natAbs b pl pt z m):=by
 have o1:=ok.fg1;have o2:=ok.fg2;have o3:=ok.pl1;have o4:=ok.pl2;have o5:=ok.b1;have o6:=ok.b2
 obtain ⟨B,rfl⟩:=Int.eq_ofNat_of_zero_le (show 0<=b by omega)
 have ef:(fg+pl).toNat=fg.toNat+pl.toNat:=by omega
 have hb : ∀ n:Nat,bdI n B pl pt z m=bdy B pl.toNat pt z.toNat m n:=fun n=>by unfold bdI;rw [toNat_natCast,toNat_natCast]
 rw [toNat_natCast,ef]
 unfold ixK
 rw [toNat_natCast]
 rcases Wl hq with ⟨hj,rfl⟩ | ⟨hj,hl,rfl⟩
 ·rw [zC9 o3 (by rw [Y2];omega)]
  have rf:=fun t=>zDo (b:=B) (p:=pl.toNat) (fg:=fg.toNat) (pt:=pt) (z:=z.toNat) (m:=m) (i:=j) (t:=t) (by omega) (by omega) (by omega) (by omega) hj
  constructor
  ·rintro ⟨D,dl,fd,rfl⟩
   obtain ⟨a1,a2,a3⟩:=(zBt o5 o6).mp fd
   obtain ⟨n,hn,ln,en⟩:=(rf _).mp ⟨D,a1,⟨a2,a3⟩,rfl⟩
   refine ⟨n,by rw [natAbs_natCast];exact hn,?_,?_⟩
   ·rw [if_neg (by omega),natAbs_natCast,ln];omega
   ·rw [decide_eq_false (by omega),natAbs_natCast,hb,<- en];rfl
  ·rintro ⟨k,hk,ix,rfl⟩
   have kd:=KJ (b:=B) (p:=pl.toNat) (fg:=fg.toNat) (n:=k.natAbs) (by omega) (by omega) (by omega) (by omega) (by omega) hk
   by_cases k0:k < 0
   ·rw [if_pos k0] at ix;omega
   ·rw [if_neg k0] at ix
    obtain ⟨D,a1,⟨a2,a3⟩,e⟩:=(rf _).mpr ⟨k.natAbs,hk,by omega,rfl⟩
    refine ⟨D,by rw [Y2,a1],(zBt o5 o6).mpr ⟨a1,a2,a3⟩,?_⟩
    rw [decide_eq_false k0,hb,<- e];rfl
 ·have hl':j - fg.toNat < fg.toNat+pl.toNat:=by omega
  have rb:=fun t=>zCk (b:=B) (p:=pl.toNat) (fg:=fg.toNat) (pt:=pt) (z:=z.toNat) (m:=m) (i:=j - fg.toNat) (t:=t) (by omega) (by omega) (by omega) (by omega) hl'
  rw [zC9 o3 (by rw [Yx];omega)]
  constructor
  ·rintro ⟨D,dl,fd,rfl⟩
   obtain ⟨F,rfl,a1,a2,a3⟩:=(zBc o5 o6).mp fd
   obtain ⟨n,n0,hn,ln,en⟩:=(rb _).mp ⟨F,⟨a1,a2,a3⟩,rfl⟩
   refine ⟨-(n:Int),by rw [Int.natAbs_neg,natAbs_natCast];exact hn,?_,?_⟩
   ·rw [if_pos (by omega),Int.natAbs_neg,natAbs_natCast,ln];omega
   ·rw [decide_eq_true (by omega),Int.natAbs_neg,natAbs_natCast,hb,<- en];rfl
  ·rintro ⟨k,hk,ix,rfl⟩
   have kd:=KJ (b:=B) (p:=pl.toNat) (fg:=fg.toNat) (n:=k.natAbs) (by omega) (by omega) (by omega) (by omega) (by omega) hk
   by_cases k0:k < 0
   ·rw [if_pos k0] at ix
    obtain ⟨F,⟨a1,a2,a3⟩,e⟩:=(rb _).mpr ⟨k.natAbs,by omega,hk,by omega,rfl⟩
    refine ⟨_,?_,(zBc o5 o6).mpr ⟨F,rfl,a1,a2,a3⟩,?_⟩
    ·rw [Yx,length_append,length_replicate,a1];omega
    ·rw [decide_eq_true k0,hb,<- e];rfl
   ·rw [if_neg k0] at ix;omega
theorem zIK {pt:Nat} (ok:kx fg pl b sn z m pt wy wd f x) (hk:k.natAbs < b.toNat ^ (fg+pl).toNat):ixK fg pl b k < (ncs fg pl b sn z m pt).length:=by
 have o1:=ok.fg1;have o2:=ok.fg2;have o3:=ok.pl1;have o4:=ok.pl2;have o5:=ok.b1;have o6:=ok.b2
 have ef:(fg+pl).toNat=fg.toNat+pl.toNat:=by omega
 rw [ef] at hk
 have kd:=KJ (b:=b.toNat) (p:=pl.toNat) (fg:=fg.toNat) (n:=k.natAbs) (by omega) (by omega) (by omega) (by omega) (by omega) hk
 unfold ixK ncs
 rw [length_append,length_map,length_map,length_map,length_map,length_range,length_range]
 split <;> omega
def Lk:Fd->List Nat->Nat->Prop
 | .num fg pl b sn z m pt _,c,j=>∃ k:Int,k.natAbs < b.toNat ^ (fg+pl).toNat/\ixK fg pl b k=j/\c=sg sn (decide (k < 0)) (bdI k.natAbs b pl pt z m)
 | .word sg lo hi,c,j=>Isw sg lo hi c/\lo+(j:Int)=c.length
 | .cho ns,c,j=>ns[j]? = some c
theorem ZS {o:Addr} {d:Fd} (h:xv K H o cN cW cC wd f x st d) (hq:(Ja d)[j]? = some q) {c:List Nat}:Fit (q.1++q.2) c↔Lk d c j:=by
 cases h with
 | num F ok=>exact zBy ok hq
 | @word sg lo hi F ok =>
  have o1:=ok.lo1;have o2:=ok.lo2
  have hq':((List.range (hi+1 - lo).toNat).map fun i:Nat=>(([]:Ce),List.replicate (lo+(i:Int)).toNat sg))[j]? = some q:=hq
  obtain ⟨hj,rfl⟩:=QR hq'
  show Fit ([]++List.replicate (lo+(j:Int)).toNat sg) c↔Isw sg lo hi c/\lo+(j:Int)=c.length
  rw [nil_append,Qj]
  unfold Isw
  exact ⟨fun h=>⟨⟨⟨by omega,by omega⟩,h.2⟩,by omega⟩,fun h=>⟨by omega,h.1.2⟩⟩
 | @cho L ns F e ok =>
  have hq':(ns.map fun n=>(([]:Ce),chs n))[j]? = some q:=hq
  rw [getElem?_map] at hq'
  cases hn:ns[j]? with
  | none=>rw [hn] at hq';cases hq'
  | some n =>
   rw [hn] at hq'
   cases hq'
   show Fit ([]++chs n) c↔ns[j]? = some c
   rw [nil_append,kS,hn]
   exact ⟨fun h=>by rw [h],fun h=>by cases h;rfl⟩
theorem Lk.lt {o:Addr} {d:Fd} (h:xv K H o cN cW cC wd f x st d) {c:List Nat} (l:Lk d c j):j < (Ja d).length:=by
 cases h with
 | num F ok=>obtain ⟨k,hk,rfl,_⟩:=l;exact zIK ok hk
 | @word sg lo hi F ok =>
  obtain ⟨⟨⟨a,b⟩,_⟩,e⟩:=l
  show j < (List.map _ (List.range (hi+1 - lo).toNat)).length
  rw [length_map,length_range];omega
 | @cho L ns F e ok =>
  show j < (List.map _ ns).length
  rw [length_map]
  exact (List.getElem?_eq_some_iff.mp (show ns[j]? = some c from l)).1
theorem ZR {pt:Nat} (ok:kx fg pl b sn z m pt wy wd f x) {k':Int} (hk:k.natAbs < b.toNat ^ (fg+pl).toNat) (hk':k'.natAbs < b.toNat ^ (fg+pl).toNat) (e:sg sn (decide (k < 0)) (bdI k.natAbs b pl pt z m)=sg sn (decide (k' < 0)) (bdI k'.natAbs b pl pt z m)) (sd : ∀ k:Int,k.natAbs < b.toNat ^ (fg+pl).toNat->Sgd sn (decide (k < 0)) (sg sn (decide (k < 0)) (bdI k.natAbs b pl pt z m))):k=k':=by
 have o1:=ok.fg1;have o2:=ok.fg2;have o3:=ok.pl1;have o4:=ok.pl2;have o5:=ok.b1;have o6:=ok.b2
 have s1:=sd k hk
 have s2:=sd k' hk'
 rw [<- e] at s2
 have eb:decide (k < 0)=decide (k' < 0):=by
  cases h1:decide (k < 0) <;> cases h2:decide (k' < 0)
  ·rfl
  ·rw [h1] at s1 s2;rw [h2] at s2;exact (yr ok.sn s1 s2).elim
  ·rw [h1] at s1 s2;rw [h2] at s2;exact (yr ok.sn s2 s1).elim
  ·rfl
 rw [<- eb] at e
 unfold sg at e
 rw [append_assoc,append_assoc] at e
 have e2:=List.append_cancel_right (append_cancel_left e)
 have up:b.toNat ^ (fg+pl).toNat<=b.toNat ^ (40+pl.toNat):=pow_le_pow_right (by omega) (by omega)
 have e3:k.natAbs=k'.natAbs:=by
  unfold bdI at e2
  rw [toNat_natCast,toNat_natCast] at e2
  exact zHg (by omega) (by omega) (by omega) (by omega) (by omega) e2
 by_cases h:k < 0
 ·have:k' < 0:=by rw [decide_eq_true h] at eb;exact of_decide_eq_true eb.symm
  omega
 ·have : ¬ k' < 0:=by rw [decide_eq_false h] at eb;exact of_decide_eq_false eb.symm
  omega
theorem zEQ (sx:Xd x) (hw:wd<=40) {t:List Nat}:Fit (flk wd f x q) t ↔ ∃ ld rs:List Nat,ld.length=q.1.length/\Fit q.1 ld/\Fit q.2 rs/\t=(if x = "inside" then ld++pad rs (wd - ld.length) f "right" else pad (ld++rs) wd f x):=by
 have fr : ∀ {n:Nat} {s:List Nat},Fit (List.replicate n [f]) s↔s=List.replicate n f:=fun {n s}=>by
  rw [Qj]
  exact ⟨fun h=>List.eq_replicate_iff.mpr ⟨h.1,fun y hy=>List.mem_singleton.mp (h.2 y hy)⟩,fun h=>by rw [h];exact ⟨length_replicate,fun y hy=>by rw [(List.mem_replicate.mp hy).2];exact List.mem_singleton.mpr rfl⟩⟩
 unfold flk
 split
 ·have key : ∀ ld rs:List Nat,ld.length=q.1.length->rs.length=q.2.length->pad rs (wd - ld.length) f "right" = List.replicate (pA "right" ((q.1.length:Int)+q.2.length) wd).toNat f++rs:=fun ld rs l1 l2=>by
   unfold pad
   have e1:pA "right" (rs.length:Int) (wd - ld.length)=pA "right" ((q.1.length:Int)+q.2.length) wd:=by
    rw [pAr,pAr];unfold lk;split <;> split <;> omega
   have e2:pB "right" (rs.length:Int) (wd - ld.length)=0:=by unfold pB;rw [pAr];omega
   rw [e1,e2,show Int.toNat 0=0 from rfl,List.replicate_zero,append_nil]
  constructor
  ·intro h
   obtain ⟨s0,rs,rfl,_,f0,f2⟩:=h.cut
   obtain ⟨ld,u,rfl,l1,f1,fu⟩:=f0.cut
   exact ⟨ld,rs,l1,f1,f2,by rw [key ld rs l1 f2.len,fr.mp fu,append_assoc]⟩
  ·rintro ⟨ld,rs,l1,f1,f2,rfl⟩
   rw [key ld rs l1 f2.len,<- append_assoc]
   have h1:Fit (q.1++List.replicate (pA "right" ((q.1.length:Int)+q.2.length) wd).toNat [f]) (ld++List.replicate (pA "right" ((q.1.length:Int)+q.2.length) wd).toNat f):=(qo l1).mpr ⟨f1,fr.mpr rfl⟩
   exact (qo h1.len).mpr ⟨h1,f2⟩
 ·have key : ∀ ld rs:List Nat,ld.length=q.1.length->rs.length=q.2.length->pad (ld++rs) wd f x=List.replicate (pA x ((q.1.length:Int)+q.2.length) wd).toNat f++ld++rs++List.replicate (pB x ((q.1.length:Int)+q.2.length) wd).toNat f:=fun ld rs l1 l2=>by
   unfold pad
   rw [length_append,show ((ld.length+rs.length:Nat):Int)=(q.1.length:Int)+q.2.length by omega,append_assoc _ ld rs]
  constructor
  ·intro h
   obtain ⟨s0,u2,rfl,_,f0,g2⟩:=h.cut
   obtain ⟨s1,rs,rfl,_,f1,f2⟩:=f0.cut
   obtain ⟨u1,ld,rfl,_,g1,f3⟩:=f1.cut
   exact ⟨ld,rs,f3.len,f3,f2,by rw [key ld rs f3.len f2.len,fr.mp g1,fr.mp g2]⟩
  ·rintro ⟨ld,rs,l1,f1,f2,rfl⟩
   rw [key ld rs l1 f2.len]
   have h0:Fit (List.replicate (pA x ((q.1.length:Int)+q.2.length) wd).toNat [f]) (List.replicate (pA x ((q.1.length:Int)+q.2.length) wd).toNat f):=fr.mpr rfl
   have h1:=(qo h0.len).mpr ⟨h0,f1⟩
   have h2:=(qo h1.len).mpr ⟨h1,f2⟩
   exact (qo h2.len).mpr ⟨h2,fr.mpr rfl⟩
theorem Ws {o:Addr} {d:Fd} (h:xv K H o cN cW cC wd f x st d) (hq:(Ja d)[j]? = some q) {t:List Nat}:Fit (flk wd f x q) t ↔ ∃ c ld:List Nat,Lk d c j/\CoL d c ld/\t=(if x = "inside" then ld++pad (c.drop ld.length) (wd - ld.length) f "right" else pad c wd f x):=by
 obtain ⟨_,_,_,sx,w0,w1⟩:=h.bd
 rw [zEQ sx w1]
 have cf:=fun c=>ZS h hq (c:=c)
 cases h with
 | @num fg pl b sn z m pt wy F ok =>
  have lead : ∀ k:Int,k.natAbs < b.toNat ^ (fg+pl).toNat->ixK fg pl b k=j->q.1=chs (stL sn (decide (k < 0))):=fun k hk ix=>by
   have o1:=ok.fg1;have o2:=ok.fg2;have o3:=ok.pl1;have o4:=ok.pl2;have o5:=ok.b1;have o6:=ok.b2
   have ef:(fg+pl).toNat=fg.toNat+pl.toNat:=by omega
   rw [ef] at hk
   have kd:=KJ (b:=b.toNat) (p:=pl.toNat) (fg:=fg.toNat) (n:=k.natAbs) (by omega) (by omega) (by omega) (by omega) (by omega) hk
   unfold ixK at ix
   rcases Wl hq with ⟨hj,rfl⟩ | ⟨hj,hl,rfl⟩
   ·have : ¬ k < 0:=fun z=>by rw [if_pos z] at ix;omega
    rw [decide_eq_false this];rfl
   ·have:k < 0:=Classical.byContradiction fun z=>by rw [if_neg z] at ix;omega
    rw [decide_eq_true this];rfl
  constructor
  ·rintro ⟨ld,rs,l1,f1,f2,rfl⟩
   have hc:Lk (.num fg pl b sn z m pt wy) (ld++rs) j:=(cf (ld++rs)).mp ((qo l1).mpr ⟨f1,f2⟩)
   obtain ⟨k,hk,ix,e⟩:=hc
   have el:=lead k hk ix
   rw [el] at f1
   have eld:=kS.mp f1
   exact ⟨ld++rs,ld,⟨k,hk,ix,e⟩,⟨k,hk,e,eld⟩,by rw [drop_left]⟩
  ·rintro ⟨c,ld,⟨k,hk,ix,e⟩,⟨k',hk',e',rfl⟩,rfl⟩
   have ff:=(cf c).mpr ⟨k,hk,ix,e⟩
   obtain ⟨s,rs,rfl,l1,f1,f2⟩:=ff.cut
   have el:=lead k hk ix
   have es:s=stL sn (decide (k < 0)):=by rw [el] at f1;exact kS.mp f1
   have sd : ∀ k:Int,k.natAbs < b.toNat ^ (fg+pl).toNat->Sgd sn (decide (k < 0)) (sg sn (decide (k < 0)) (bdI k.natAbs b pl pt z m)):=fun k hk=>by
    have o1:=ok.fg1;have o2:=ok.fg2;have o3:=ok.pl1;have o4:=ok.pl2;have o5:=ok.b1;have o6:=ok.b2
    have up:b.toNat ^ (fg+pl).toNat<=b.toNat ^ (40+pl.toNat):=pow_le_pow_right (by omega) (by omega)
    have bs:=JV (z:=z.toNat) (m:=m) (b:=b.toNat) (p:=pl.toNat) (n:=k.natAbs) (pt:=pt) (by omega) (by omega) (by omega) (by omega) ok.pt ok.m
    have eb:bod sn (decide (k < 0)) (sg sn (decide (k < 0)) (bdI k.natAbs b pl pt z m))=bdI k.natAbs b pl pt z m:=by
     unfold bod sg;rw [length_append,Nat.add_sub_cancel,take_left,drop_left]
    unfold Sgd
    rw [eb]
    refine ⟨?_,rfl⟩
    unfold bdI;rw [toNat_natCast];exact bs.1
   have kk:k=k':=ZR ok hk hk' (e.symm.trans e') sd
   subst kk
   rw [<- es]
   exact ⟨s,rs,l1,f1,f2,by rw [drop_left]⟩
 | @word sg lo hi F ok =>
  have q1:q.1=[]:=by
   have hq':((List.range (hi+1 - lo).toNat).map fun i:Nat=>(([]:Ce),List.replicate (lo+(i:Int)).toNat sg))[j]? = some q:=hq
   obtain ⟨_,rfl⟩:=QR hq';rfl
  have nx:=show ¬ x = "inside" from fun z=>by rcases ok.x with rfl | rfl | rfl <;> exact absurd z (by decide +kernel)
  simp only [if_neg nx]
  constructor
  ·rintro ⟨ld,rs,l1,f1,f2,rfl⟩
   have:ld=[]:=by rw [q1] at l1;exact List.length_eq_zero_iff.mp l1
   subst this
   have hc:=(cf ([]++rs)).mp ((qo l1).mpr ⟨f1,f2⟩)
   exact ⟨_,[],hc,⟨hc.1,rfl⟩,rfl⟩
  ·rintro ⟨c,ld,hl,⟨hc,rfl⟩,rfl⟩
   have ff:=(cf c).mpr hl
   obtain ⟨s,rs,rfl,l1,f1,f2⟩:=ff.cut
   exact ⟨s,rs,l1,f1,f2,rfl⟩
 | @cho L ns F e ok =>
  have q1:q.1=[]:=by
   have hq':(ns.map fun n=>(([]:Ce),chs n))[j]? = some q:=hq
   rw [getElem?_map] at hq'
   cases hn:ns[j]? with
   | none=>rw [hn] at hq';cases hq'
   | some n=>rw [hn] at hq';cases hq';rfl
  have nx:=show ¬ x = "inside" from fun z=>by rcases ok.x with rfl | rfl | rfl <;> exact absurd z (by decide +kernel)
  simp only [if_neg nx]
  constructor
  ·rintro ⟨ld,rs,l1,f1,f2,rfl⟩
   have:ld=[]:=by rw [q1] at l1;exact List.length_eq_zero_iff.mp l1
   subst this
   have hc:=(cf ([]++rs)).mp ((qo l1).mpr ⟨f1,f2⟩)
   exact ⟨_,[],hc,⟨mem_of_getElem? (show ns[j]? = some ([]++rs) from hc),rfl⟩,rfl⟩
  ·rintro ⟨c,ld,hl,⟨hc,rfl⟩,rfl⟩
   have ff:=(cf c).mpr hl
   obtain ⟨s,rs,rfl,l1,f1,f2⟩:=ff.cut
   exact ⟨s,rs,l1,f1,f2,rfl⟩
theorem Qa {α:Type} {p:α->Bool} : ∀ l:List α,∃ g:Nat->Nat,(∀ i j,i < j->g i < g j)/\(∀ i,i < (l.filter p).length->g i < l.length/\(l.filter p)[i]? = l[g i]?) /\ ∀ j q,l[j]? = some q->p q=true -> ∃ i,i < (l.filter p).length/\g i=j
 | []=>⟨id,fun _ _ h=>h,fun i h=>by simp at h,fun j q h=>by simp at h⟩
 | a::l=>by
  obtain ⟨g,g1,g2,g3⟩:=Qa (p:=p) l
  cases ha:p a with
  | false =>
   refine ⟨fun i=>g i+1,fun i j h=>Nat.succ_lt_succ (g1 i j h),fun i h=>?_,fun j q hj hq=>?_⟩
   ·rw [filter_cons_of_neg (by rw [ha];decide)] at h ⊢
    have:=g2 i h
    exact ⟨by rw [length_cons];exact Nat.succ_lt_succ this.1,by rw [this.2,List.getElem?_cons_succ]⟩
   ·cases j with
    | zero=>cases hj;rw [ha] at hq;cases hq
    | succ j =>
     obtain ⟨i,hi,e⟩:=g3 j q (by simpa using hj) hq
     exact ⟨i,by rw [filter_cons_of_neg (by rw [ha];decide)];exact hi,by show g i+1=j+1;rw [e]⟩
  | true =>
   refine ⟨fun i=>match i with | 0=>0 | i+1=>g i+1,fun i j h=>?_,fun i h=>?_,fun j q hj hq=>?_⟩
   ·cases i with
    | zero=>cases j with
     | zero=>omega
     | succ j=>exact Nat.succ_pos _
    | succ i=>cases j with
     | zero=>omega
     | succ j=>have:=g1 i j (by omega);exact Nat.succ_lt_succ this
   ·rw [filter_cons_of_pos ha] at h ⊢
    cases i with
    | zero=>exact ⟨by simp,rfl⟩
    | succ i =>
     have:=g2 i (by simpa using h)
     exact ⟨by rw [length_cons];exact Nat.succ_lt_succ this.1,by rw [List.getElem?_cons_succ,this.2];rfl⟩
   ·cases j with
    | zero=>exact ⟨0,by rw [filter_cons_of_pos ha];simp,rfl⟩
    | succ j =>
     obtain ⟨i,hi,e⟩:=g3 j q (by simpa using hj) hq
     exact ⟨i+1,by rw [filter_cons_of_pos ha,length_cons];omega,by show g i+1=j+1;rw [e]⟩
def NdN:Fd->Prop
 | .cho ns=>ns.Nodup
 | _=>True
theorem XF {pt:Nat} (ok:kx fg pl b sn z m pt wy wd f x) (k:Int) (hk:k.natAbs < b.toNat ^ (fg+pl).toNat):Sgd sn (decide (k < 0)) (sg sn (decide (k < 0)) (bdI k.natAbs b pl pt z m)):=by
 have o1:=ok.fg1;have o2:=ok.fg2;have o3:=ok.pl1;have o4:=ok.pl2;have o5:=ok.b1;have o6:=ok.b2
 have up:b.toNat ^ (fg+pl).toNat<=b.toNat ^ (40+pl.toNat):=pow_le_pow_right (by omega) (by omega)
 have bs:=JV (z:=z.toNat) (m:=m) (b:=b.toNat) (p:=pl.toNat) (n:=k.natAbs) (pt:=pt) (by omega) (by omega) (by omega) (by omega) ok.pt ok.m
 have eb:bod sn (decide (k < 0)) (sg sn (decide (k < 0)) (bdI k.natAbs b pl pt z m))=bdI k.natAbs b pl pt z m:=by
  unfold bod sg;rw [length_append,Nat.add_sub_cancel,take_left,drop_left]
 unfold Sgd
 rw [eb]
 refine ⟨?_,rfl⟩
 unfold bdI;rw [toNat_natCast];exact bs.1
theorem Lk.one {o:Addr} {d:Fd} (h:xv K H o cN cW cC wd f x st d) (nd:NdN d) {c:List Nat} {i:Nat} (l1:Lk d c i) (l2:Lk d c j):i=j:=by
 cases h with
 | num F ok =>
  obtain ⟨k,hk,rfl,e⟩:=l1
  obtain ⟨k',hk',rfl,e'⟩:=l2
  rw [ZR ok hk hk' (e.symm.trans e') (XF ok)]
 | word F ok=>have:=l1.2;have:=l2.2;omega
 | @cho L ns F e ok =>
  have a:ns[i]? = some c:=l1
  have b:ns[j]? = some c:=l2
  exact (List.getElem?_inj (List.getElem?_eq_some_iff.mp a).1 nd).mp (a.trans b.symm)
def LkF (wd:Int) (st:Bool) (d:Fd) (c:List Nat) (i:Nat):Prop:=∃ q,((Ja d).filter (Z2 wd st))[i]? = some q/\Fit (q.1++q.2) c
theorem LkF.one {o:Addr} {d:Fd} (h:xv K H o cN cW cC wd f x st d) (nd:NdN d) {c:List Nat} {i:Nat} (l1:LkF wd st d c i) (l2:LkF wd st d c j):i=j:=by
 obtain ⟨g,g1,g2,g3⟩:=Qa (p:=Z2 wd st) (Ja d)
 obtain ⟨q,hq,f1⟩:=l1
 obtain ⟨q',hq',f2⟩:=l2
 obtain ⟨a1,a2⟩:=g2 i (List.getElem?_eq_some_iff.mp hq).1
 obtain ⟨b1,b2⟩:=g2 j (List.getElem?_eq_some_iff.mp hq').1
 have e:=Lk.one h nd ((ZS h (a2.symm.trans hq)).mp f1) ((ZS h (b2.symm.trans hq')).mp f2)
 rcases Nat.lt_trichotomy i j with z | z | z
 ·have:=g1 i j z;omega
 ·exact z
 ·have:=g1 j i z;omega
theorem LkF.ex {o:Addr} {d:Fd} (h:xv K H o cN cW cC wd f x st d) {c:List Nat} (co:CoL d c ld) (nw:(st && decide (wd < (c.length:Int)))=false) : ∃ i,i < ((Ja d).filter (Z2 wd st)).length/\LkF wd st d c i:=by
 have hl : ∃ j,Lk d c j:=by
  cases h with
  | num F ok=>obtain ⟨k,hk,e,_⟩:=co;exact ⟨_,k,hk,rfl,e⟩
  | @word sg lo hi F ok =>
   have o1:=ok.lo1
   refine ⟨((c.length:Int) - lo).toNat,co.1,?_⟩
   have:=co.1.1.1
   omega
  | @cho L ns F e ok =>
   obtain ⟨j,hj,e⟩:=List.mem_iff_getElem.mp co.1
   exact ⟨j,List.getElem?_eq_some_iff.mpr ⟨hj,e⟩⟩
 obtain ⟨j,lk⟩:=hl
 have jl:=Lk.lt h lk
 obtain ⟨q,hq⟩ : ∃ q,(Ja d)[j]? = some q:=⟨_,getElem?_eq_getElem jl⟩
 have fq:=(ZS h hq).mpr lk
 obtain ⟨g,g1,g2,g3⟩:=Qa (p:=Z2 wd st) (Ja d)
 obtain ⟨i,hi,e⟩:=g3 j q hq (by unfold Z2;rw [<- fq.len,nw];rfl)
 exact ⟨i,hi,q,by rw [(g2 i hi).2,e];exact hq,fq⟩
theorem WP {t:List Nat} (sx:y4 x) (hw:wd<=40) {c:List Nat}:c ∈ ucs t wd f x st↔pad c wd f x=t/\nwd wd st c=true:=by
 unfold ucs
 rw [mem_filter,Qg sx hw]
theorem Vz {t:List Nat} (sx:y4 x) (hw:wd<=40):(ucs t wd f x st).Nodup:=List.Pairwise.filter _ (kz sx hw)
theorem yi {pt:Nat} {c:List Nat} (ok:kx fg pl b sn z m pt wy wd f x) (h:qO fg pl b sn z m pt bl c=some k):VG fg pl b k/\decide (k < 0)=bl/\c=jM pl b sn z m pt k:=by
 have o1:=ok.fg1;have o2:=ok.fg2;have o3:=ok.pl1;have o4:=ok.pl2;have o5:=ok.b1;have o6:=ok.b2
 obtain ⟨B,rfl⟩:=Int.eq_ofNat_of_zero_le (show 0<=b by omega)
 unfold qO at h
 split at h
 ·rename_i a
  obtain ⟨sd,ib,lt,pos⟩:=a
  obtain ⟨v0,v1,v2⟩:=zEK (b:=B) (p:=pl.toNat) (by omega) (by omega) (by omega) ib
  have pe:((B ^ (fg+pl).toNat:Nat):Int)=(B:Int) ^ (fg+pl).toNat:=Int.natCast_pow ..
  generalize hv:zAf (B:Int) pl.toNat z.toNat (bod sn bl c)=v at *
  have fin:decide (k < 0)=bl/\k.natAbs=v.toNat:=by
   cases bl with
   | true =>
    have p:=pos rfl
    rw [if_pos rfl] at h
    have:k = -v:=by cases h;rfl
    exact ⟨decide_eq_true (by omega),by omega⟩
   | false =>
    rw [if_neg (by decide)] at h
    have:k=v:=by cases h;rfl
    exact ⟨decide_eq_false (by omega),by omega⟩
  refine ⟨by unfold VG;rw [toNat_natCast,fin.2];omega,fin.1,?_⟩
  unfold jM bdI
  rw [fin.1,toNat_natCast,toNat_natCast,fin.2,v2]
  exact sd.2.symm
 ·cases h
theorem zBa {t:List Nat} (sx:Xd x) (hw:wd<=40):stL sn bl++rs ∈ cin t sn bl wd f x st↔Jw (stL sn bl) (stL sn bl++rs) wd f x=t/\nwd wd st (stL sn bl++rs)=true:=by
 unfold cin Jw
 split
 ·rw [drop_left,mem_filter]
  refine and_congr ?_ Iff.rfl
  rw [mem_map]
  unfold Vl
  constructor
  ·rintro ⟨r,hr,e⟩
   rw [append_cancel_left e] at hr
   split at hr
   ·rename_i ht
    rw [Qg (.inr (.inl rfl)) (by omega)] at hr
    rw [hr]
    conv=>rhs;rw [<- take_append_drop (stL sn bl).length t,ht]
   ·cases hr
  ·intro e
   refine ⟨rs,?_,rfl⟩
   rw [if_pos (by rw [<- e,take_left]),Qg (.inr (.inl rfl)) (by omega),<- e,drop_left]
 ·rename_i hx
  exact WP (sx.elim id fun z=>absurd z hx) hw
theorem Wc {pt:Nat} {t:List Nat} (ok:kx fg pl b sn z m pt wy wd f x):k ∈ nks fg pl b sn z m pt wd f x st t↔VG fg pl b k/\nwd wd st (jM pl b sn z m pt k)=true/\Jw (stL sn (decide (k < 0))) (jM pl b sn z m pt k) wd f x=t:=by
 have half : ∀ bl,k ∈ (cin t sn bl wd f x st).filterMap (qO fg pl b sn z m pt bl)↔decide (k < 0)=bl/\VG fg pl b k/\nwd wd st (jM pl b sn z m pt k)=true/\Jw (stL sn (decide (k < 0))) (jM pl b sn z m pt k) wd f x=t:=fun bl=>by
  rw [List.mem_filterMap]
  constructor
  ·rintro ⟨c,hc,hn⟩
   obtain ⟨l,e,rfl⟩:=yi ok hn
   rw [qX,e] at hc
   have:=(zBa ok.x ok.wd2).mp hc
   rw [<- e,<- qX] at this
   exact ⟨e,l,this.2,this.1⟩
  ·rintro ⟨e,l,h1,h2⟩
   refine ⟨jM pl b sn z m pt k,?_,by rw [<- e];exact zAv ok l⟩
   rw [qX,e]
   refine (zBa ok.x ok.wd2).mpr ?_
   rw [<- e,<- qX]
   exact ⟨h2,h1⟩
 unfold nks
 rw [List.mem_append,half,half]
 constructor
 ·rintro (h | h) <;> exact h.2
 ·intro h
  cases e:decide (k < 0)
  ·rw [e] at h;exact .inl ⟨rfl,h⟩
  ·rw [e] at h;exact .inr ⟨rfl,h⟩
theorem zCW {t:List Nat} (sx:Xd x) (hw:wd<=40):(cin t sn bl wd f x st).Nodup:=by
 unfold cin
 split
 ·refine List.Pairwise.filter _ ?_
  refine List.pairwise_map.mpr ?_
  unfold Vl
  split
  ·exact (kz (.inr (.inl rfl)) (by omega)).imp fun h e=>h (append_cancel_left e)
  ·exact List.Pairwise.nil
 ·rename_i hx
  exact Vz (sx.elim id fun z=>absurd z hx) hw
theorem zDO {pt:Nat} {t:List Nat} (ok:kx fg pl b sn z m pt wy wd f x):(nks fg pl b sn z m pt wd f x st t).Nodup:=by
 unfold nks
 have half : ∀ bl,((cin t sn bl wd f x st).filterMap (qO fg pl b sn z m pt bl)).Nodup:=fun bl=>by
  refine List.pairwise_filterMap.mpr ((zCW ok.x ok.wd2).imp ?_)
  intro a a' hne k hk k' hk' e
  subst e
  exact hne ((yi ok hk).2.2.trans (yi ok hk').2.2.symm)
 refine List.nodup_append.mpr ⟨half false,half true,fun k hk k' hk' e=>?_⟩
 subst e
 obtain ⟨c,_,h1⟩:=List.mem_filterMap.mp hk
 obtain ⟨c',_,h2⟩:=List.mem_filterMap.mp hk'
 have:=(yi ok h1).2.1.symm.trans (yi ok h2).2.1
 cases this
def VoT (wd:Int) (f:Nat) (x:Str) (st:Bool) (t:List Nat) (d:Fd) (p:List Nat × List Nat):Prop:=CoL d (p.1++p.2) p.1/\(st && decide (wd < ((p.1++p.2).length:Int)))=false/\Jw p.1 (p.1++p.2) wd f x=t
theorem Al.map {α β:Type} {R:V->β->Prop} {g:α->β} {as:List α} (h:Al (fun v a=>R v (g a)) vs as):Al R vs (as.map g):=by
 induction h with
 | nil=>exact .nil
 | cons h _ ih=>exact .cons h ih
theorem zAk {c:List Nat}:nwd wd st c=true↔(st && decide (wd < (c.length:Int)))=false:=by
 unfold nwd;cases (st && decide (wd < (c.length:Int))) <;> simp
theorem zIr {o:Addr} {d:Fd} {t:List Nat} {tt:TA} (F:xv K H o cN cW cC wd f x st d) (at':Asc t) (tl:t.length<=300)
  (hta : ∀ Q':VK,Q' (.ref o) H->ta σ H Q') (ht : ∀ Q':List V->Hp->Prop,Q' [.str (T t)] H->tt σ H Q') (q : ∀ l H' us cs,zT H H'->H' l=some (.lst us)->Al (fun v p=>VlA H' v d p.1 p.2) us cs->(cs.map fun p=>p.1++p.2).Nodup->(∀ p,p ∈ cs↔VoT wd f x st t d p)->cs.length<=42->Q (.ref l) H') :
  zEV (Yy cN "values_for" (jY K cN) [] E ta tt) (zEV (Yy cW "values_for" (jy K cW) [] E ta tt) (Yy cC "values_for" (jX K cC) [] E ta tt)) σ H Q:=by
 obtain ⟨_,_,_,sx,w0,w1⟩:=F.bd
 cases F with
 | @num fg pl b sn z m pt wy F ok =>
  refine VY (Jr (hta _ (Zx (WD F (by decide +kernel) (by decide +kernel)) (ht _ ?_))))
  refine ⟨o,_,_,_,_,_,_,_,_,_,_,_,_,_,rfl,F,ok,at',tl,fun l H' us ms g e pm srt al=>?_⟩
  have lim : ∀ k ∈ ms,VG fg pl b k:=fun k hk=>((Wc ok).mp (pm.mem_iff.mp hk)).1
  have nd:ms.Nodup:=pm.nodup_iff.mpr (zDO ok)
  have hl:ms.length<=42:=by
   have:=zC6 (fg:=fg) (pl:=pl) (b:=b) (z:=z) (m:=m) (pt:=pt) (t:=t) (f:=f) (x:=x) (st:=st) ok.sn ok.wd2
   rw [pm.length_eq];unfold nks;rw [length_append];exact this
  refine q l H' us (ms.map fun k=>(stL sn (decide (k < 0)),XA pl b sn z m pt k)) g e ?_ ?_ ?_ (by rw [length_map];exact hl)
  ·refine Al.map ?_
   clear pm nd hl e srt
   induction al with
   | nil=>exact .nil
   | cons h _ ih =>
    obtain ⟨p,rfl,ep⟩:=h
    exact .cons (.num rfl ep (lim _ (mem_cons_self ..))) (ih fun k hk=>lim k (mem_cons_of_mem _ hk))
  ·rw [map_map]
   refine List.pairwise_map.mpr ((List.Pairwise.and_mem.mp nd).imp ?_)
   rintro k k' ⟨hk,hk',hne⟩ e
   refine hne (ZR ok (lim k hk) (lim k' hk') ?_ (XF ok))
   have e':stL sn (decide (k < 0))++XA pl b sn z m pt k=stL sn (decide (k' < 0))++XA pl b sn z m pt k':=e
   rw [<- qX,<- qX] at e'
   exact e'
  ·rintro ⟨ld,rs⟩
   rw [mem_map]
   constructor
   ·rintro ⟨k,hk,e⟩
    cases e
    obtain ⟨l1,l2,l3⟩:=(Wc ok).mp (pm.mem_iff.mp hk)
    unfold VoT
    rw [<- qX]
    exact ⟨⟨k,l1,rfl,rfl⟩,zAk.mp l2,l3⟩
   ·rintro ⟨⟨k,l1,e1,e2⟩,n1,e3⟩
    have e1':ld++rs=jM pl b sn z m pt k:=e1
    have e2':ld=stL sn (decide (k < 0)):=e2
    have er:rs=XA pl b sn z m pt k:=by
     rw [qX,e2'] at e1';exact append_cancel_left e1'
    refine ⟨k,pm.mem_iff.mpr ((Wc ok).mpr ⟨l1,zAk.mpr ?_,?_⟩),by rw [er,e2']⟩
    ·rw [<- e1'];exact n1
    ·rw [<- e1',<- e2'];exact e3
 | @word sg lo hi F ok =>
  refine JP (VY (Jr (hta _ (Zx (WF F (by decide +kernel) (by decide +kernel) (by decide +kernel) (by decide +kernel)) (ht _ ?_)))))
  refine ⟨o,_,_,_,_,_,_,_,_,rfl,F,ok.x,w0,w1,by omega,fun l H' ds g e pm=>?_⟩
  have mi : ∀ c,c ∈ ds↔(pad c wd f x=t/\nwd wd st c=true)/\Isw sg lo hi c:=fun c=>by
   rw [pm.mem_iff];unfold wvs;rw [mem_filter,WP ok.x w1,decide_eq_true_iff]
  have nd:ds.Nodup:=pm.nodup_iff.mpr (List.Pairwise.filter _ (Vz ok.x w1))
  have hl:ds.length<=42:=by
   have:=(W0 (t:=t) (f:=f) (x:=x) (st:=st) w1).1
   rw [pm.length_eq];exact Nat.le_trans (length_filter_le _ _) (by omega)
  have nx:=Y6 ok.x
  refine q l H' _ (ds.map fun c=>([],c)) g e ?_ ?_ ?_ (by rw [length_map];exact hl)
  ·refine Al.map ?_
   have hall : ∀ c ∈ ds,Isw sg lo hi c:=fun c hc=>((mi c).mp hc).2
   clear pm nd hl mi e
   induction ds with
   | nil=>exact .nil
   | cons c ds ih=>exact .cons (.word rfl (hall c (mem_cons_self ..))) (ih fun u hu=>hall u (mem_cons_of_mem _ hu))
  ·rw [map_map]
   exact List.pairwise_map.mpr (nd.imp fun h e=>h e)
  ·rintro ⟨ld,rs⟩
   rw [mem_map]
   constructor
   ·rintro ⟨c,hc,e⟩
    cases e
    obtain ⟨⟨h1,h2⟩,h3⟩:=(mi _).mp hc
    refine ⟨⟨h3,rfl⟩,zAk.mp h2,?_⟩
    unfold Jw;rw [if_neg nx];exact h1
   ·rintro ⟨⟨h1,h2⟩,n1,e3⟩
    have h2':ld=[]:=h2
    subst h2'
    unfold Jw at e3;rw [if_neg nx] at e3
    exact ⟨rs,(mi rs).mpr ⟨⟨e3,zAk.mpr n1⟩,h1⟩,rfl⟩
 | @cho L ns F e0 ok =>
  refine JP (JP (Jr (hta _ (Zx (Wj F (by decide +kernel) (by decide +kernel)) (ht _ ?_)))))
  refine ⟨o,_,_,_,_,_,_,_,rfl,F,e0,by have:=ok.n2;omega,ok.x,w0,w1,by omega,fun l H' g e=>?_⟩
  have nx:=Y6 ok.x
  have mi : ∀ c,c ∈ cvs ns t wd f x st↔c ∈ ns/\(pad c wd f x=t/\nwd wd st c=true):=fun c=>by
   unfold cvs;rw [mem_filter,decide_eq_true_iff,WP ok.x w1]
  have nd:(cvs ns t wd f x st).Nodup:=List.Pairwise.filter _ ok.nd
  have hl:(cvs ns t wd f x st).length<=42:=Nat.le_trans (length_filter_le _ _) (by have:=ok.n2;omega)
  refine q l H' _ ((cvs ns t wd f x st).map fun c=>([],c)) g e ?_ ?_ ?_ (by rw [length_map];exact hl)
  ·refine Al.map ?_
   have hall : ∀ c ∈ cvs ns t wd f x st,c ∈ ns:=fun c hc=>((mi c).mp hc).1
   clear nd hl mi e
   generalize cvs ns t wd f x st=ds at hall ⊢
   induction ds with
   | nil=>exact .nil
   | cons c ds ih=>exact .cons (.cho rfl (hall c (mem_cons_self ..))) (ih fun u hu=>hall u (mem_cons_of_mem _ hu))
  ·rw [map_map]
   exact List.pairwise_map.mpr (nd.imp fun h e=>h e)
  ·rintro ⟨ld,rs⟩
   rw [mem_map]
   constructor
   ·rintro ⟨c,hc,e⟩
    cases e
    obtain ⟨h3,h1,h2⟩:=(mi _).mp hc
    refine ⟨⟨h3,rfl⟩,zAk.mp h2,?_⟩
    unfold Jw;rw [if_neg nx];exact h1
   ·rintro ⟨⟨h1,h2⟩,n1,e3⟩
    have h2':ld=[]:=h2
    subst h2'
    unfold Jw at e3;rw [if_neg nx] at e3
    exact ⟨rs,(mi rs).mpr ⟨h1,e3,zAk.mpr n1⟩,rfl⟩
theorem VlA.col {d:Fd} (h:VlA H v d ld rs):CoL d (ld++rs) ld:=by
 cases h with
 | @num p fg pl b sn z m pt wy k hv hp lim=>exact ⟨k,lim,by rw [<- qX];rfl,rfl⟩
 | word hv iw=>exact ⟨iw,rfl⟩
 | cho hv hm=>exact ⟨hm,rfl⟩
theorem CoL.cut {d:Fd} {c:List Nat} (h:CoL d c ld) : ∃ rs,c=ld++rs:=by
 cases d with
 | num fg pl b sn z m pt wy =>
  obtain ⟨k,_,rfl,rfl⟩:=h
  exact ⟨_,(qX (pl:=pl) (b:=b) (sn:=sn) (z:=z) (m:=m) (pt:=pt) (k:=k))⟩
 | word sg lo hi=>exact ⟨c,by rw [show ld=[] from h.2];rfl⟩
 | cho ns=>exact ⟨c,by rw [show ld=[] from h.2];rfl⟩
theorem zAF {o:Addr} {d:Fd} (h:xv K H o cN cW cC wd f x st d) {k:Nat} {t:List Nat} (hk:k < (lks wd f x st d).length) (ft:Fit ((lks wd f x st d).getD k []) t) : ∃ p,VoT wd f x st t d p/\LkF wd st d (p.1++p.2) k:=by
 obtain ⟨g,g1,g2,g3⟩:=Qa (p:=Z2 wd st) (Ja d)
 have hk':k < ((Ja d).filter (Z2 wd st)).length:=by unfold lks at hk;rwa [length_map] at hk
 have hq:=getElem?_eq_getElem hk'
 generalize ((Ja d).filter (Z2 wd st))[k]=q at hq
 have el:(lks wd f x st d).getD k []=flk wd f x q:=by unfold lks;rw [getD_eq_getElem?_getD,getElem?_map,hq];rfl
 rw [el] at ft
 have hj:=(g2 k hk').2.symm.trans hq
 obtain ⟨c,ld,lk,co,e⟩:=(Ws h hj).mp ft
 obtain ⟨rs,rfl⟩:=co.cut
 have fq:=(ZS h hj).mpr lk
 have kept:=(List.mem_filter.mp (mem_of_getElem? hq)).2
 refine ⟨(ld,rs),⟨co,?_,e.symm⟩,q,hq,fq⟩
 unfold Z2 at kept
 have:=fq.len
 rw [<- this] at kept
 cases hb:(st && decide (wd < ((ld++rs).length:Int))) with
 | false=>rfl
 | true=>rw [hb] at kept;cases kept
theorem xv.nd {o:Addr} {d:Fd} (h:xv K H o cN cW cC wd f x st d):NdN d:=by
 cases h with
 | num F ok=>exact trivial
 | word F ok=>exact trivial
 | cho F e ok=>exact ok.nd
def LoQ (cT cV cG:Addr) (wd:Int) (st:Bool) (d:Fd) (Q:VK) (E:XK) (H:Hp):List Nat × List Nat ⊕ Bool->Prop
 | .inl p=>if (st && decide (wd < (p.1.length:Int)))=true then E (.ref cT) none H else ∀ i:Nat,LkF wd st d p.1 i->Q (.int i) H
 | .inr g=>E (.ref (bif g then cG else cV)) none H
def XG (K:W.Frag) (cN cW cC cT cV cG:Addr):Sp:=fun vs H Q E=>∃ (o:Addr) (v:V) (wd:Int) (f:Nat) (x:Str) (st:Bool) (d:Fd) (r:List Nat × List Nat ⊕ Bool),vs=[.ref o,v]/\xv K H o cN cW cC wd f x st d/\Co1 H d v r /\ ∀ H',zT H H'->LoQ cT cV cG wd st d Q E H' r
theorem zAy {cT cV cG o:Addr} {d:Fd} (h1:xv K H o cN cW cC wd f x st d) (h2:VlA H v d ld rs) (h3:(st && decide (wd < ((ld++rs).length:Int)))=false) (q : ∀ (i:Nat) H',zT H H'->LkF wd st d (ld++rs) i->Q (.int i) H'):spc (XG K cN cW cC cT cV cG) ([.ref o,v]++[]) H Q E:=
 ⟨o,v,wd,f,x,st,d,_,rfl,h1,zJJ h1 h2,fun H' g=>by simp only [LoQ,h3];exact fun i l=>q i H' g l⟩
include Z in
theorem Yg:zAj P w K mg base "look_for" 7 ["form", "value"] (XG K zE zI zJ za zY zW):=by
 refine jm Z.kn Z.bF (l2N (by intros;rfl)) fun fq fd F=>?_
 refine F.d.okX2 Jl (fun vs H Q E=>?_) (fun _ _ _ s H vs Q E hr h tk pp=>?_)
 ·walk_at "ln"
 refine ⟨_,zC (jB (j6 (zc (ym (xl Z) in0) Z.cg pp hr (pv 0) (zA (pv 1) (zB))) (j6 (zc (ym (xl Z) in1) Z.cj pp hr (pv 0) (zA (pv 1) (zB))) (zc (ym (xl Z) in2) Z.cm pp hr (pv 0) (zA (pv 1) (zB))))))
  (zC (zM (i:=2) Jl.nd rfl (Or.inr rfl) (j6 (zc (ym (yh Z) in0) Z.cg pp hr (pv 0) (zA (pv 1) (zB))) (j6 (zc (ym (kY Z) in0) Z.cj pp hr (pv 0) (zA (pv 1) (zB))) (zc (ym (yZ Z) in0) Z.cm pp hr (pv 0) (zA (pv 1) (zB))))))
  (zG (zL (yz PySem.F.plainAttrs_list PySem.F.slot_list_index PySem.F.type_list_index Kw (jV (cl:=[("core", s.heap.objs.size+1+0)]) (fr:=["core"]) (is:=[2]) rfl rfl ⟨rfl,trivial⟩ rfl ⟨⟨rfl,rfl,Or.inl rfl⟩,trivial⟩ (by decide) (by decide +kernel) rfl (by decide +kernel) rfl (jF (zF (Qs Z :) hr rfl (zA (pv 0) (zB)))) (fun _ _ _ _=>qz) (fun _ _ _ _=>zF (zCS Z :) hr rfl (zA (zP jf (zX (j7 (K:=K) rfl) (pv 0) (zD) (fun _ _=>rfl)) (zX (j7 (K:=K) rfl) (pv 0) (zD) (fun _ _=>rfl))) (zA (pv 1) (zB))))) (zA (xE) (zB)))))),?_⟩
 obtain ⟨o,v,wd,f,x,st,d,r,rfl,D0,V0,q⟩:=h
 all_goals walk_at "st"
 obtain ⟨cl,cb⟩:=WL D0
 walk_at "rd"
 refine or3 D0 (by decide +kernel) (fun Q' h=>by walk_at "rd"; exact h) (fun Q' h=>by walk_at "rd"; exact h) (W9 ⟨o,v,wd,f,x,st,d,r,rfl,D0,V0,fun H1 g1=>?_⟩)
 cases r with
 | inr g=>exact q _ g1
 | inl p =>
  obtain ⟨_,tl,_⟩:=V0.col.fla D0
  cases nw:(st && decide (wd < (p.1.length:Int))) with
  | true =>
   have q':=q _ g1
   simp only [LoQ,nw,if_true] at q'
   simp only [PuQ,nw,if_true]
   exact q'
  | false =>
   simp only [PuQ,nw]
   show (_:Prop)
   walk_at "rd"
   refine or3 (D0.same g1) (by decide +kernel) (fun Q' h=>by walk_at "rd"; exact h) (fun Q' h=>by walk_at "rd"; exact h) (zBr (D0.same g1) (V0.same g1) fun H2 g2=>?_)
   dsimp only [CoQ]
   walk_at "rd"
   refine ⟨o,wd,f,x,st,d,rfl,(D0.same g1).same g2,fun l3 H3 us g3 e3 al=>?_⟩
   have fl:=length_filter_le (Z2 wd st) (Ja d)
   have ln:=al.len
   refine z8 (SqL.of e3) (small (by omega)) (fun i ys H'=>zT H3 H'/\ys=((((Ja d).filter (Z2 wd st)).take i).map fun q=>zAt (q.1++q.2) p.1).map V.bl) ⟨zT.refl _,rfl⟩ (fun i ys H' hi h=>⟨SqL.of (h.1.at e3),by rw [h.2,length_map,length_map,length_take];omega⟩) ?_ ?_
   ·rintro i v' ys H4 hv hi ⟨g4,rfl⟩
    obtain ⟨c,hc,t,a,b,rfl,_,et,ea,eb⟩:=al.get hv
    have bd:=cb c (List.mem_filter.mp (mem_of_getElem? hc)).1
    have et4:=g4.at et;have ea4:=g4.at ea;have eb4:=g4.at eb
    walk_at "rd"
    rename_i p6 H6 g6 n6 e6
    refine zBY e6 (by rw [length_append];omega) (by omega) fun H7 g7=>?_
    refine nxC hi ⟨g4.trans (g6.trans g7),?_⟩
    rw [take_succ,hc,map_append,map_append];rfl
   ·rintro ys H4 ⟨g4,rfl⟩ p5 H5 g5 n5 e5
    rw [take_of_length_le (by omega)] at e5
    walk_at "rd"
    obtain ⟨i,hi,lf⟩:=LkF.ex D0 V0.col nw
    have at_ : ∀ m,((((Ja d).filter (Z2 wd st)).map fun q=>zAt (q.1++q.2) p.1)[m]? = some true)↔LkF wd st d p.1 m:=fun m=>by
     rw [getElem?_map]
     unfold LkF
     cases hq:((Ja d).filter (Z2 wd st))[m]? with
     | none=>exact ⟨fun h=>(by cases h),fun ⟨q,h,_⟩=>(by cases h)⟩
     | some q=>exact ⟨fun h=>⟨q,rfl,yA.mp (Option.some.inj h)⟩,fun ⟨q',h,ff⟩=>(by cases h;exact congrArg some (yA.mpr ff))⟩
    exact ⟨p5,_,i,rfl,rfl,e5,(at_ i).mpr lf,fun m hm h=>by have:=LkF.one D0 D0.nd ((at_ m).mp h) lf;omega,by omega,(by have q2:=q _ (g1.trans (g2.trans (g3.trans (g4.trans g5))));simp only [LoQ,nw] at q2;exact q2 i lf)⟩
theorem zJR {P:Addr->Prop} {us:List V} {cs:List Ce} {k:Nat} (al:Al (RL H P) us cs) (h:us[k]? = some v) : ∃ q,v = .ref q/\H q=some (.lst (tsV (cs.getD k [])))/\cs.getD k [] ∈ cs:=by
 obtain ⟨c,hc,q,rfl,_,e⟩:=al.get h
 rw [getD_eq_getElem?_getD,hc]
 exact ⟨q,rfl,e,mem_of_getElem? hc⟩
def Ji (K:W.Frag) (cN cW cC cX:Addr):Sp:=fun vs H Q E=>∃ (o:Addr) (k:Nat) (t:List Nat) (wd:Int) (f:Nat) (x:Str) (st:Bool) (d:Fd),vs=[.ref o,.int k,.str (T t)]/\xv K H o cN cW cC wd f x st d/\k < (lks wd f x st d).length/\Asc t/\t.length<=300/\(Fit ((lks wd f x st d).getD k []) t -> ∀ v H' p,zT H H'->VlA H' v d p.1 p.2->VoT wd f x st t d p->LkF wd st d (p.1++p.2) k->Q v H')/\(¬ Fit ((lks wd f x st d).getD k []) t -> ∀ H',zT H H'->E (.ref cX) none H')
theorem zBJ {cX o:Addr} {k:Nat} {t:List Nat} {d:Fd} (h1:xv K H o cN cW cC wd f x st d) (h2:k < (lks wd f x st d).length) (h3:Asc t) (h4:t.length<=300) (h5:Fit ((lks wd f x st d).getD k []) t) (q : ∀ v H' p,zT H H'->VlA H' v d p.1 p.2->VoT wd f x st t d p->LkF wd st d (p.1++p.2) k->Q v H'):spc (Ji K cN cW cC cX) ([.ref o,.int k,.str (T t)]++[]) H Q E:=⟨o,k,t,wd,f,x,st,d,rfl,h1,h2,h3,h4,fun _=>q,fun n=>absurd h5 n⟩
open Classical in
include Z in
theorem YV:zAj P w K mg base "value_in" 8 ["form", "at", "text"] (Ji K zE zI zJ qA):=by
 refine jm Z.kn Z.bG (l3N (by intros;rfl)) fun fq fd F=>?_
 refine F.d.okX2 WN (fun vs H Q E=>?_) (fun _ _ _ s H vs Q E hr h tk pp=>?_)
 ·walk_at "ln"
 refine ⟨_,zC (zu (qc (qH (zF (zCS Z) hr rfl (zA (zX zp (zF (Yi Z) hr rfl (zA (pv 0) (zB))) (pv 1) (fun _ _=>rfl)) (zA (pv 2) (zB)))))) (zG (jQ tk rfl Z.cb rfl Z.aj (zA (zd) (zB)))) (zU))
  (zG (zL (zX zp (jV (cl:=[("form", s.heap.objs.size+1+0),("at", s.heap.objs.size+1+1)]) (fr:=["at", "form"]) (is:=[1,0]) rfl rfl ⟨rfl,⟨rfl,trivial⟩⟩ rfl ⟨⟨rfl,rfl,Or.inl rfl⟩,⟨⟨rfl,rfl,Or.inl rfl⟩,trivial⟩⟩ (by decide) (by decide +kernel) rfl (by decide +kernel) rfl (jF (j6 (zc (ym (yn Z) in0 :) Z.cg qu hr (pv 0) (zA (pv 2) (zB))) (j6 (zc (ym (ZA Z) in0 :) Z.cj qu hr (pv 0) (zA (pv 2) (zB))) (zc (ym (yp Z) in0 :) Z.cm qu hr (pv 0) (zA (pv 2) (zB)))))) (fun _ _ _ _=>yw (zQ qb (zF (Wq (Yg Z) :) hr rfl (zA (pv 2) (zA (pv 0) (zB)))) (pv 1) (zS _))) (fun _ _ _ _=>pv 0)) (zD) (fun _ _=>rfl)))),?_⟩
 obtain ⟨o,k,t,wd,f,x,st,d,rfl,D0,hk,at',tl,q,qx⟩:=h
 all_goals walk_at "st"
 obtain ⟨ll,lb⟩:=zFC D0
 walk_at "rd"
 refine X5 D0 fun l1 H1 us1 g1 n1 e1 al1=>?_
 have ln1:=al1.len
 walk_at "rd"
 refine xR (SqL.of e1) (by omega) (by omega) fun y hy=>?_
 rw [toNat_natCast] at hy
 obtain ⟨q2,rfl,e2,m2⟩:=zJR al1 hy
 walk_at "rd"
 refine zBY e2 (lb _ m2).2 (by omega) fun H2 g2=>?_
 by_cases ft:Fit ((lks wd f x st d).getD k []) t
 case neg =>
  rw [Bool.eq_false_iff.mpr fun z=>ft (yA.mp z)]
  walk_at "rd"
  exact ⟨small (by decide),qx ft _ (g1.trans g2)⟩
 rw [yA.mpr ft]
 walk_at "rd"
 refine zIr ((D0.same g1).same g2) at' tl (fun Q' h=>by walk_at "rd"; exact h) (fun Q' h=>by walk_at "rd"; exact h) fun l3 H3 us cs g3 e3 al nd mi hl=>?_
 have D3:=((D0.same g1).same g2).same g3
 have ln:=al.len
 refine z8 (SqL.of e3) (small (by omega)) (fun i ys H'=>zT H3 H'/\Al (fun v p=>VlA H' v d p.1 p.2) ys ((cs.take i).filter fun p=>decide (LkF wd st d (p.1++p.2) k))) ⟨zT.refl _,.nil⟩ (fun i ys H' hi h=>⟨SqL.of (h.1.at e3),by rw [h.2.len];exact Nat.le_trans (length_filter_le _ _) (by rw [length_take];omega)⟩) ?_ ?_
 ·rintro i v' ys H4 hv hi ⟨g4,al4⟩
  obtain ⟨c,hc,vl⟩:=al.get hv
  have vo:=(mi c).mp (mem_of_getElem? hc)
  walk_at "rd"
  refine zAy (D3.same g4) (vl.same g4) vo.2.1 fun j H5 g5 lf=>?_
  have al5:=al4.imp fun _ _ h=>h.same g5
  walk_at "rd"
  ·rename_i hjk
   have hjk':j=k:=by omega
   subst hjk'
   refine nxC hi ⟨g4.trans g5,?_⟩
   rw [K1 hc,filter_cons_of_pos (p:=fun p:List Nat × List Nat=>decide (LkF wd st d (p.1++p.2) j)) (decide_eq_true lf)]
   exact al5.app (.one ((vl.same g4).same g5))
  ·rename_i hjk
   refine nxC hi ⟨g4.trans g5,?_⟩
   rw [K1 hc,filter_cons_of_neg (p:=fun p:List Nat × List Nat=>decide (LkF wd st d (p.1++p.2) k)) (by rw [decide_eq_true_iff];exact fun z=>hjk (by have:=LkF.one D0 D0.nd lf z;omega)),filter_nil,append_nil]
   exact al5
 ·rintro ys H4 ⟨g4,al4⟩ p5 H5 g5 n5 e5
  rw [take_of_length_le (by omega)] at al4
  obtain ⟨p,vp,lp⟩:=zAF D0 hk ft
  have mp:p ∈ cs.filter fun p=>decide (LkF wd st d (p.1++p.2) k):=List.mem_filter.mpr ⟨(mi p).mpr vp,decide_eq_true lp⟩
  have l0:=List.length_pos_of_mem mp
  have l4:=al4.len
  walk_at "rd"
  refine xR (SqL.of e5) (by decide) (by omega) fun y hy=>?_
  obtain ⟨c,hc,vl⟩:=al4.get hy
  obtain ⟨m1,m2⟩:=List.mem_filter.mp (mem_of_getElem? hc)
  exact q ft _ _ c (g1.trans (g2.trans (g3.trans (g4.trans g5)))) (vl.same g5) ((mi c).mp m1) (of_decide_eq_true m2)
def kU (K:W.Frag):Sp:=fun vs H Q _=>vs=[] /\ ∀ l:List Nat,l.length=94->Asc l->l.Pairwise (· < ·)->Q (.str (T l)) H
theorem zCZ (q : ∀ l:List Nat,l.length=94->Asc l->Q (.str (T l)) H):kU K ([]++[]) H Q E:=⟨rfl,fun l h a _=>q l h a⟩
theorem zDX (q : ∀ l:List Nat,l.length=94->Asc l->l.Pairwise (· < ·)->Q (.str (T l)) H):kU K ([]++[]) H Q E:=⟨rfl,q⟩
local macro_rules | `(tactic| walk_at "rdc")=>`(tactic| ((with_reducible refine zCZ ?_);intro l' hl' al'))
def J3 (K:W.Frag):Sp:=fun vs H Q _=>∃ n t:Int,vs=[.int n,.int t]/\0<=t /\ ∀ c:Nat,c < 127->Q (.str (T [c])) H
theorem zI0 {n:Int} (h1:0<=t) (q : ∀ c:Nat,c < 127->Q (.str (T [c])) H):J3 K ([.int n,.int t]++[]) H Q E:=⟨n,t,rfl,h1,q⟩
local macro_rules | `(tactic| walk_at "rdc")=>`(tactic| ((with_reducible refine' zI0 ?h1 ?_);(case h1=>omega);intro c' hc'))
inductive Xu (H:Hp) (p:Addr) (wd:Int) (f:Nat) (x:Str) (st:Bool):Fd->Prop
 | num {fg pl b:Int} {sn:Str} {z:Int} {m pt:Nat} {wy:Str} (e:H p=some (.tup [.str "number", .int fg,.int pl,.int b,.str sn,.int z,.str (T [m]),.str (T [pt]),.str wy,.int wd,.str (T [f]),.str x,.bl st])) (ok:kx fg pl b sn z m pt wy wd f x):Xu H p wd f x st (.num fg pl b sn z m pt wy)
 | word {sg:List Nat} {lo hi:Int} (e:H p=some (.tup [.str "word", .str (T sg),.int lo,.int hi,.int wd,.str (T [f]),.str x,.bl st])) (ok:WdS sg lo hi wd f x):Xu H p wd f x st (.word sg lo hi)
 | cho {L:Addr} {ns:Ce} (e:H p=some (.tup [.str "choice", .ref L,.int wd,.str (T [f]),.str x,.bl st])) (eL:H L=some (.lst (tsV ns))) (ok:ChS ns wd f x):Xu H p wd f x st (.cho ns)
theorem Xu.same {d:Fd} (g:zT H H') (h:Xu H p wd f x st d):Xu H' p wd f x st d:=by
 cases h with
 | num e ok=>exact .num (g.at e) ok
 | word e ok=>exact .word (g.at e) ok
 | cho e eL ok=>exact .cho (g.at e) (g.at eL) ok
include Z in
theorem Zu:Has P w K mg base "_law_signs" 1 [] (kU K):=by
 refine jm Z.kn Z.bH (l0N (by intros;rfl)) fun fq fd F=>?_
 refine F.ok V6 (fun vs H Q E=>?_) (fun _ _ _ s H vs Q E hr h=>?_)
 ·walk_at "ln"
 obtain ⟨rfl,q⟩:=h
 refine ⟨_,zG (zL (zd)),?_⟩
 walk_at "st"
 walk_at "rd"
 have q':=q (Lt " !\"#$&'()*+,-./0123456789:;<=>?@ABCDEFGHIJKLMNOPQRSTUVWXYZ[\\]^_`abcdefghijklmnopqrstuvwxyz{|}~") (by decide +kernel) (by unfold Asc;decide +kernel) (by decide +kernel)
 rw [zHG] at q'
 exact q'
include Z in
theorem j9:Has P w K mg base "_law_sign" 2 ["_law_cell", "_law_salt"] (J3 K):=by
 refine jm Z.kn Z.bI (l2N (by intros;rfl)) fun fq fd F=>?_
 refine F.ok XO (fun vs H Q E=>?_) (fun _ _ _ s H vs Q E hr h=>?_)
 ·walk_at "ln"
 obtain ⟨n,t,rfl,h0,q⟩:=h
 refine ⟨_,zC (zM (i:=2) XO.nd rfl (Or.inl rfl) (zd))
  (zC (zu (zQ kM (zF (zN Z) hr rfl (zA (pv 0) (zA (pv 1) (zA (zD) (zB))))) (zD) (zS _)) (zG (zL (zX x0 (pv 2) (zF (zN Z) hr rfl (zA (pv 0) (zA (zP zg (pv 1) (zD)) (zA (zK zr Z.ao rfl qD (zA (pv 2) (zB))) (zB))))) (fun _ _=>rfl)))) (zU))
  (zG (zL (zX x0 (Ju (Zu Z) hr rfl) (zF (zN Z) hr rfl (zA (pv 0) (zA (zP zg (pv 1) (zD)) (zA (zD) (zB))))) (fun _ _=>rfl))))),?_⟩
 walk_at "st"
 have l13:(Lt " 0-+(1*)_,.9f").length=13:=by decide +kernel
 have a1 : ∀ c ∈ Lt " 0-+(1*)_,.9f", c < 127:=by decide +kernel
 walk_at "rd"
 ·rename_i c' hc';exact q _ (a1 _ hc')
 ·rename_i l' hl' al' v' h0' h1'
  refine q _ (al' _ ?_)
  rw [getD_eq_getElem?_getD,getElem?_eq_getElem (by omega)]
  exact getElem_mem _
variable {xs:List V}
theorem km (P:Int->Prop) (e:H p=some (.lst xs)) (h0:0<=i) (h1:i < xs.length) (hx : ∀ v ∈ xs,∃ k,v = .int k/\P k) (q : ∀ k,P k->Q (.int k) H):zD0 K (.ref p) (.int i) H Q:=
 xR (SqL.of e) h0 h1 fun x hi=>by
  obtain ⟨k,rfl,hk⟩:=hx x (mem_of_getElem? hi)
  exact q k hk
theorem Z0 (P:Str->Prop) (e:H p=some (.lst xs)) (h0:0<=i) (h1:i < xs.length) (hx : ∀ v ∈ xs,∃ k,v = .str k/\P k) (q : ∀ k,P k->Q (.str k) H):zD0 K (.ref p) (.int i) H Q:=
 xR (SqL.of e) h0 h1 fun x hi=>by
  obtain ⟨k,rfl,hk⟩:=hx x (mem_of_getElem? hi)
  exact q k hk
theorem zGC : ∀ v ∈ [V.str "minus", V.str "plus", V.str "blank", V.str "brackets", V.str "behind"],∃ k,v = .str k/\xw k:=by
 simp only [mem_cons,not_mem_nil,or_false]
 rintro v (rfl | rfl | rfl | rfl | rfl)
 ·exact ⟨_,rfl,.inl rfl⟩
 ·exact ⟨_,rfl,.inr (.inl rfl)⟩
 ·exact ⟨_,rfl,.inr (.inr (.inl rfl))⟩
 ·exact ⟨_,rfl,.inr (.inr (.inr (.inl rfl)))⟩
 ·exact ⟨_,rfl,.inr (.inr (.inr (.inr rfl)))⟩
theorem zHV : ∀ v ∈ [V.str "down", V.str "up", V.str "cut", V.str "near", V.str "even"],∃ k,v = .str k/\Way k:=by
 simp only [mem_cons,not_mem_nil,or_false]
 rintro v (rfl | rfl | rfl | rfl | rfl)
 ·exact ⟨_,rfl,.inl rfl⟩
 ·exact ⟨_,rfl,.inr (.inl rfl)⟩
 ·exact ⟨_,rfl,.inr (.inr (.inl rfl))⟩
 ·exact ⟨_,rfl,.inr (.inr (.inr (.inl rfl)))⟩
 ·exact ⟨_,rfl,.inr (.inr (.inr (.inr rfl)))⟩
theorem zD5 : ∀ v ∈ [V.str "right", V.str "left", V.str "middle", V.str "inside"],∃ k,v = .str k/\Xd k:=by
 simp only [mem_cons,not_mem_nil,or_false]
 rintro v (rfl | rfl | rfl | rfl)
 ·exact ⟨_,rfl,.inl (.inr (.inl rfl))⟩
 ·exact ⟨_,rfl,.inl (.inl rfl)⟩
 ·exact ⟨_,rfl,.inl (.inr (.inr rfl))⟩
 ·exact ⟨_,rfl,.inr rfl⟩
theorem Wz : ∀ v ∈ [V.str "left", V.str "right", V.str "middle"],∃ k,v = .str k/\y4 k:=by
 simp only [mem_cons,not_mem_nil,or_false]
 rintro v (rfl | rfl | rfl)
 ·exact ⟨_,rfl,.inl rfl⟩
 ·exact ⟨_,rfl,.inr (.inl rfl)⟩
 ·exact ⟨_,rfl,.inr (.inr rfl)⟩
variable {s:Int}
theorem zKD (e:H p=some (.lst [.int a,.int b])) (h:s=0\/s=1) (q : ∀ k,k=a\/k=b->Q (.int k) H):zD0 K (.ref p) (.int s) H Q:=
 km (fun k=>k=a\/k=b) e (by omega) (by show _ < (2:Int);omega) (by simp only [mem_cons,not_mem_nil,or_false];rintro v (rfl | rfl) <;> simp) q
local macro_rules | `(tactic| walk_at "rd1")=>`(tactic| ((with_reducible refine' zKD ?e ?h ?_);(case e=>walk_at "hp");(case h=>assumption);intro k' hk'))
def yH (K:W.Frag):Sp:=fun vs H Q _=>∃ (c o s:Int),vs=[.int c,.int o,.int s]/\(s=0\/s=1) /\ ∀ p H' wd f x st d,zT H H'->Xu H' p wd f x st d->Q (.ref p) H'
theorem VO {o:Int} (h:s=0\/s=1) (q : ∀ p H' wd f x st d,zT H H'->Xu H' p wd f x st d->Q (.ref p) H'):yH K ([.int c,.int o,.int s]++[]) H Q E:=⟨c,o,s,rfl,h,q⟩
include Z in
theorem Qh:Has P w K mg base "_law_number_spec" 3 ["_law_cell", "_law_other", "_law_small"] (yH K):=by
 refine jm Z.kn Z.bJ (l3N (by intros;rfl)) fun fq fd F=>?_
 refine F.ok zb (fun vs H Q E=>?_) (fun _ _ _ s H vs Q E hr h=>?_)
 ·walk_at "ln"
 obtain ⟨c,o,s0,rfl,hs,q⟩:=h
 refine ⟨_,zC (zM (i:=3) zb.nd rfl (Or.inl rfl) (zP zg (zD) (zF (zN Z) hr rfl (zA (pv 0) (zA (zD) (zA (zX zp (zl (zA (zD) (zA (zD) (zB)))) (pv 2) (fun _ _=>rfl)) (zB)))))))
  (zC (zM (i:=4) zb.nd rfl (Or.inl rfl) (zF (zN Z) hr rfl (zA (pv 0) (zA (zD) (zA (zX zp (zl (zA (zD) (zA (zD) (zB)))) (pv 2) (fun _ _=>rfl)) (zB))))))
  (zC (zM (i:=5) zb.nd rfl (Or.inl rfl) (zX zp (zl (zA (zD) (zA (zD) (zA (zX zp (zl (zA (zD) (zA (zD) (zB)))) (pv 2) (fun _ _=>rfl)) (zA (zX zp (zl (zA (zP zg (zD) (zF (zN Z) hr rfl (zA (pv 0) (zA (zD) (zA (zD) (zB)))))) (zA (zD) (zB)))) (pv 2) (fun _ _=>rfl)) (zB)))))) (zF (zN Z) hr rfl (zA (pv 0) (zA (zD) (zA (zD) (zB))))) (fun _ _=>rfl)))
  (zC (zM (i:=6) zb.nd rfl (Or.inl rfl) (zX zp (zl (zA (zd) (zA (zd) (zA (zd) (zA (zd) (zA (zd) (zB))))))) (zF (zN Z) hr rfl (zA (pv 0) (zA (zD) (zA (zD) (zB))))) (fun _ _=>rfl)))
  (zC (zM (i:=7) zb.nd rfl (Or.inl rfl) (zX zp (zl (zA (zD) (zA (zD) (zA (zP zg (zD) (zF (zN Z) hr rfl (zA (pv 0) (zA (zD) (zA (zD) (zB)))))) (zB))))) (zF (zN Z) hr rfl (zA (pv 0) (zA (zD) (zA (zD) (zB))))) (fun _ _=>rfl)))
  (zC (zM (i:=8) zb.nd rfl (Or.inl rfl) (zX zp (zl (zA (zd) (zA (zd) (zA (zd) (zA (zd) (zA (zd) (zB))))))) (zF (zN Z) hr rfl (zA (pv 0) (zA (zD) (zA (zD) (zB))))) (fun _ _=>rfl)))
  (zC (zM (i:=9) zb.nd rfl (Or.inl rfl) (ji (zA (zF (j9 Z) hr rfl (zA (pv 1) (zA (zD) (zB)))) (zA (zF (j9 Z) hr rfl (zA (pv 1) (zA (zD) (zB)))) (zA (zF (j9 Z) hr rfl (zA (pv 1) (zA (zD) (zB)))) (zB))))))
  (zC (zM (i:=10) zb.nd rfl (Or.inl rfl) (zl (zA (zD) (zA (zP zg (zD) (zF (zN Z) hr rfl (zA (pv 1) (zA (zD) (zA (zX zp (zl (zA (zD) (zA (zD) (zB)))) (pv 2) (fun _ _=>rfl)) (zB)))))) (zA (zP zg (zD) (zF (zN Z) hr rfl (zA (pv 1) (zA (zD) (zA (zX zp (zl (zA (zD) (zA (zD) (zB)))) (pv 2) (fun _ _=>rfl)) (zB)))))) (zB))))))
  (zC (zM (i:=11) zb.nd rfl (Or.inl rfl) (zX zp (pv 10) (zF (zN Z) hr rfl (zA (pv 1) (zA (zD) (zA (zD) (zB))))) (fun _ _=>rfl)))
  (zC (zM (i:=12) zb.nd rfl (Or.inl rfl) (zX zp (zl (zA (zd) (zA (zd) (zA (zd) (zA (zd) (zB)))))) (zF (zN Z) hr rfl (zA (pv 1) (zA (zD) (zA (zD) (zB))))) (fun _ _=>rfl)))
  (zC (zM (i:=13) zb.nd rfl (Or.inl rfl) (qY qb (zF (zN Z) hr rfl (zA (pv 1) (zA (zD) (zA (zD) (zB))))) (zD) (zS _)))
  (zG (zL (ji (zA (zd) (zA (pv 3) (zA (pv 4) (zA (pv 5) (zA (pv 6) (zA (pv 7) (zA (zX zi (pv 9) (zD) (fun _ _=>rfl)) (zA (zX zi (pv 9) (zD) (fun _ _=>rfl)) (zA (pv 8) (zA (pv 11) (zA (zX zi (pv 9) (zD) (fun _ _=>rfl)) (zA (pv 12) (zA (pv 13) (zB) zt) zt) ko) zt) zt) ko) ko) zt) zt) zt) zt) zt) xA)))))))))))))),?_⟩
 walk_at "st"
 walk_at "rd"
 rename_i p4 H4 g4 n4 e4 ka hka v3 h03 h13 p3 H3 g3 n3 e3 kb hkb v2 h02 h12 p2 H2 g2 n2 e2 kc hkc v1 h01 h11 p1 H1 g1 n1 e1 kd hkd p0 H0 g0 n0 e0 v0 h00 h10
 refine km (fun b=>2<=b/\b<=16) e0 (by omega) (by show _ < (4:Int);omega) (by simp only [mem_cons,not_mem_nil,or_false];rintro v (rfl | rfl | rfl | rfl) <;> exact ⟨_,rfl,by omega,by omega⟩) fun b hb=>?_
 have gA:zT H H0:=by walk_at "sm"
 clear e0 e1 e2 e3 e4
 walk_at "rd"
 rename_i p5 H5 g5 n5 e5 v5 h05 h15
 refine Z0 xw e5 (by omega) (by show _ < (5:Int);omega)  zGC fun sn hsn=>?_
 clear e5
 walk_at "rd"
 rename_i v6 h06 h16 p7 H7 g7 n7 e7 v7 h07 h17
 refine km (fun z=>0<=z/\z<=9) e7 (by omega) (by show _ < (3:Int);omega) (by simp only [mem_cons,not_mem_nil,or_false];rintro v (rfl | rfl | rfl) <;> exact ⟨_,rfl,by omega,by omega⟩) fun z hz=>?_
 clear e7
 walk_at "rd"
 rename_i p8 H8 g8 n8 e8 v8 h08 h18
 refine Z0 Way e8 (by omega) (by show _ < (5:Int);omega)  zHV fun wy hwy=>?_
 clear e8
 walk_at "rd"
 rename_i c3 hc3 c2 hc2 c1 hc1 pA HA gA1 eA pB HB gB nB eB ke hke v9 h09 h19 pC HC gC nC eC kf hkf v10 h010 h110 pD HD gD nD eD v11 h011 h111
 refine km (fun wd=>0<=wd/\wd<=40) eD (by omega) (by show _ < (3:Int);omega) (by simp only [mem_cons,not_mem_nil,or_false];rintro v (rfl | rfl | rfl) <;> exact ⟨_,rfl,by omega,by omega⟩) fun wd hwd=>?_
 clear eD eC eB
 walk_at "rd"
 rename_i pE HE gE nE eE v12 h012 h112
 refine Z0 Xd eE (by omega) (by show _ < (4:Int);omega) zD5 fun y hy=>?_
 clear eE
 walk_at "rd"
 rename_i v13 h013 h113 pF HF gF eF
 exact q _ _ _ _ _ _ _ (by walk_at "sm") (.num eF ⟨by omega,by omega,by omega,by omega,hb.1,hb.2,hsn,hz.1,hz.2,by assumption,by assumption,hwy,hwd.1,hwd.2,by assumption,hy⟩)
def QJ (K:W.Frag) (C:Addr):Sp:=fun vs H Q _=>∃ (p:Addr) (fg pl b:Int) (sn:Str) (z:Int) (m pt:Nat) (wy:Str) (wd:Int) (f:Nat) (x:Str) (st:Bool),vs=[.ref p]/\H p=some (.tup [.str "number", .int fg,.int pl,.int b,.str sn,.int z,.str (T [m]),.str (T [pt]),.str wy,.int wd,.str (T [f]),.str x,.bl st]) /\ ∀ o H',zT H H'->zV K H' o C wd f x st (qm fg pl b sn z m pt wy)->Q (.ref o) H'
theorem zDY {a:Addr} {lo hi:Option Int} (h:H a=some (.tup xs)) (hn:xs.length=n) (hw : ¬ (HT.sIx n 0 lo=0/\HT.sIx n n hi=n)) (q : ∀ p H',zT H H'->H' p=some (.tup (zFE xs lo hi))->Q (.ref p) H'):zLK K (.ref a) lo hi H Q:=⟨a,xs,rfl,SqT.of h,by rw [hn];exact hw,fun p hp=>q p _ (jP hp _) zR⟩
include Z in
theorem Ql:Has P w K mg base "_law_number_form" 4 ["_law_spec_here"] (QJ K zE):=by
 have cl:Cls K zE:=Z.cg
 have na:jG K zE (bns++nns):=Z.ch
 refine jm Z.kn Z.bK (l1N (by intros;rfl)) fun fq fd F=>?_
 refine F.ok zZ (fun vs H Q E=>?_) (fun _ _ _ s H vs Q E hr h=>?_)
 ·walk_at "ln"
 obtain ⟨p,fg,pl,b,sn,z,m,pt,wy,wd,f,x,st,rfl,hp,q⟩:=h
 refine ⟨_,zC (VW (zk zAK (pv 0) (zm (zD)) (zm (zD))) (Ko rfl (zx (zj (i:=1) zZ.nd rfl (Or.inl rfl)) (zx (zj (i:=2) zZ.nd rfl (Or.inl rfl)) (zx (zj (i:=3) zZ.nd rfl (Or.inl rfl)) (zx (zj (i:=4) zZ.nd rfl (Or.inl rfl)) (zx (zj (i:=5) zZ.nd rfl (Or.inl rfl)) (zx (zj (i:=6) zZ.nd rfl (Or.inl rfl)) (zx (zj (i:=7) zZ.nd rfl (Or.inl rfl)) (Jp))))))))))
  (zC (VW (zk zAK (pv 0) (zm (zD)) (qG)) (Ko rfl (zx (zj (i:=8) zZ.nd rfl (Or.inl rfl)) (zx (zj (i:=9) zZ.nd rfl (Or.inl rfl)) (zx (zj (i:=10) zZ.nd rfl (Or.inl rfl)) (zx (zj (i:=11) zZ.nd rfl (Or.inl rfl)) (zx (zj (i:=12) zZ.nd rfl (Or.inl rfl)) (Jp))))))))
  (zG (zL (Yt (zKk (kg Z) Z.ci) qu hr rfl Z.al (zA (pv 1) (zA (pv 2) (zA (pv 3) (zA (pv 4) (zA (pv 5) (zA (pv 6) (zA (pv 7) (zA (pv 8) (zA (pv 9) (zA (pv 10) (zA (pv 11) (zA (pv 12) (zB) zt) zt) zt) zt) zt) zt) zt) zt) zt) zt) zt) zt))))),?_⟩
 walk_at "st"
 walk_at "rd"
 refine zDY (n:=13) hp rfl (by decide) fun p1 H1 g1 e1=>?_
 have e1':H1 p1=some (.tup [.int fg,.int pl,.int b,.str sn,.int z,.str (T [m]),.str (T [pt])]):=e1
 clear e1
 walk_at "rd"
 refine zDY (n:=13) (g1.at hp) rfl (by decide) fun p2 H2 g2 e2=>?_
 have e2':H2 p2=some (.tup [.str wy,.int wd,.str (T [f]),.str x,.bl st]):=e2
 clear e2
 walk_at "rd"
 intro o dx no nd ne
 refine ⟨o,dx,fg,pl,b,sn,z,m,pt,wy,wd,f,x,st,rfl,zR,?_⟩
 have F0:zV K (upd (upd (upd H2 dx (.own o)) o (.ins zE dx [])) o (.ins zE dx (bfs wd f x st (qm fg pl b sn z m pt wy)))) o zE wd f x st (qm fg pl b sn z m pt wy):=⟨⟨dx,zR⟩,cl,na⟩
 have g3:zT H2 (upd (upd (upd H2 dx (.own o)) o (.ins zE dx [])) o (.ins zE dx (bfs wd f x st (qm fg pl b sn z m pt wy)))):=qM (qM (qM (zT.refl _) nd) no) no
 generalize upd (upd (upd H2 dx (.own o)) o (.ins zE dx [])) o (.ins zE dx (bfs wd f x st (qm fg pl b sn z m pt wy)))=H3 at F0 g3 ⊢
 exact ⟨rfl,q _ _ ((g1.trans g2).trans g3) F0⟩
theorem Y3 {l:List Nat} (h:Asc l) (k:Nat):l.getD k 0 < 127:=by
 rw [getD_eq_getElem?_getD]
 cases e:l[k]? with
 | none=>decide
 | some c=>exact h c (mem_of_getElem? e)
local macro_rules | `(tactic| walk_at "asc")=>`(tactic| first | assumption | exact Asc.nil | exact Asc.one (Y3 (by assumption) _) | exact Asc.one (by decide) | (with_reducible refine Asc.app ?_ ?_ <;> walk_at "asc") | (with_reducible refine Asc.take ?_ _;walk_at "asc") | (with_reducible refine Asc.drop ?_ _;walk_at "asc"))
def kF (K:W.Frag):Sp:=fun vs H Q _=>∃ (c o s:Int),vs=[.int c,.int o,.int s]/\(s=0\/s=1) /\ ∀ p H' wd f x st d,zT H H'->Xu H' p wd f x st d->Q (.ref p) H'
theorem K8 {o:Int} (h:s=0\/s=1) (q : ∀ p H' wd f x st d,zT H H'->Xu H' p wd f x st d->Q (.ref p) H'):kF K ([.int c,.int o,.int s]++[]) H Q E:=⟨c,o,s,rfl,h,q⟩
include Z in
theorem Jv:Has P w K mg base "_law_word_spec" 3 ["_law_cell", "_law_other", "_law_small"] (kF K):=by
 refine jm Z.kn Z.bL (l3N (by intros;rfl)) fun fq fd F=>?_
 refine F.ok zy (fun vs H Q E=>?_) (fun _ _ _ s H vs Q E hr h=>?_)
 ·walk_at "ln"
 obtain ⟨c,o,s0,rfl,hs,q⟩:=h
 refine ⟨_,zC (zM (i:=3) zy.nd rfl (Or.inl rfl) (zF (zN Z) hr rfl (zA (pv 0) (zA (zD) (zA (zD) (zB))))))
  (zC (zM (i:=4) zy.nd rfl (Or.inl rfl) (zP zg (zD) (zF (zN Z) hr rfl (zA (pv 0) (zA (zD) (zA (zD) (zB)))))))
  (zC (zM (i:=5) zy.nd rfl (Or.inl rfl) (zk jL (zB6 (Ju (Zu Z) hr rfl) (zm (pv 3)) (qG) (pv 4)) (qG) (zm (zP zg (zD) (zF (zN Z) hr rfl (zA (pv 0) (zA (zD) (zA (zX zp (zl (zA (zD) (zA (zD) (zB)))) (pv 2) (fun _ _=>rfl)) (zB)))))))))
  (zC (zM (i:=6) zy.nd rfl (Or.inl rfl) (zF (zN Z) hr rfl (zA (pv 1) (zA (zD) (zA (zX zp (zl (zA (zD) (zA (zD) (zB)))) (pv 2) (fun _ _=>rfl)) (zB))))))
  (zC (zM (i:=7) zy.nd rfl (Or.inl rfl) (zK (ZP rfl) Z.av rfl zAE (zA (zD) (zA (zP zg (pv 6) (zF (zN Z) hr rfl (zA (pv 1) (zA (zD) (zA (zX zp (zl (zA (zD) (zA (zD) (zB)))) (pv 2) (fun _ _=>rfl)) (zB)))))) (zB)))))
  (zC (zM (i:=8) zy.nd rfl (Or.inl rfl) (zX zp (zl (zA (zX x0 (pv 5) (zD) (fun _ _=>rfl)) (zA (zF (j9 Z) hr rfl (zA (pv 1) (zA (zD) (zB)))) (zA (zX x0 (pv 5) (zBO YI (zD)) (fun _ _=>rfl)) (zB))))) (zF (zN Z) hr rfl (zA (pv 1) (zA (zD) (zA (zD) (zB))))) (fun _ _=>rfl)))
  (zC (zM (i:=9) zy.nd rfl (Or.inl rfl) (zX zp (zl (zA (zD) (zA (zP zg (zD) (zF (zN Z) hr rfl (zA (pv 1) (zA (zD) (zA (zX zp (zl (zA (zD) (zA (zD) (zB)))) (pv 2) (fun _ _=>rfl)) (zB)))))) (zA (pv 7) (zB))))) (zF (zN Z) hr rfl (zA (pv 1) (zA (zD) (zA (zD) (zB))))) (fun _ _=>rfl)))
  (zC (zM (i:=10) zy.nd rfl (Or.inl rfl) (zX zp (zl (zA (zd) (zA (zd) (zA (zd) (zB))))) (zF (zN Z) hr rfl (zA (pv 1) (zA (zD) (zA (zD) (zB))))) (fun _ _=>rfl)))
  (zG (zL (ji (zA (zd) (zA (pv 5) (zA (pv 6) (zA (pv 7) (zA (pv 9) (zA (pv 8) (zA (pv 10) (zA (qY qb (zF (zN Z) hr rfl (zA (pv 1) (zA (zD) (zA (zD) (zB))))) (zD) (zS _)) (zB) zAp) zt) zt) zt) zt) zt) zt) xA))))))))))),?_⟩
 walk_at "st"
 walk_at "rd"
 rename_i v1 h01 h11 v0 h00 h10 l hl al
 obtain ⟨p1,p2,p3⟩:=zAV (a:=l) (s:=v1) (st:=1+v0) h01 (by omega) (by omega)
 refine ⟨T l,rfl,by omega,by show l.length<=sizeLine;rw [hl];decide,Nat.le_of_lt (qK (by omega)),fun y hy=>?_⟩
 have hy' : ∃ z:List Nat,y=T z/\0 < z.length/\z.length<=200/\Asc z:=by
  rcases hy with rfl | ⟨_,rfl⟩
  ·exact ⟨_,rfl,List.length_pos_iff.mpr p1,by omega,fun c hc=>al c (p2 c hc)⟩
  ·exact ⟨l,rfl,by omega,by omega,al⟩
 obtain ⟨z,rfl,z1,z2,z3⟩:=hy'
 clear hy p1 p2 p3
 walk_at "rd"
 rename_i q3 H3 g3 m3 e3 ka hka v3 h03 h13 q2 H2 g2 m2 e2 kb hkb v2 h02 h12 q1 H1 g1 m1 e1 kc hkc v9 h09 h19 k0 hk0 c0 hc0 qf Hf gf mf ef vf hf0 hf1
 have s1:0 < (z.take (1+v3).toNat).length:=by rw [length_take];omega
 have s2:(z.take (1+v3).toNat).length<=200:=by rw [length_take];omega
 have s3:Asc (z.take (1+v3).toNat):=z3.take _
 generalize z.take (1+v3).toNat=sg at ef s1 s2 s3 ⊢
 have sm : ∀ k,k < sg.length->sg.getD k 0 < 127:=fun k hk=>s3 _ (by rw [getD_eq_getElem?_getD,getElem?_eq_getElem hk];exact getElem_mem _)
 refine Z0 (fun y=>∃ f:Nat,y=T [f]/\f < 127) ef (by omega) (by show _ < (3:Int);omega) (by simp only [mem_cons,not_mem_nil,or_false];rintro v (rfl | rfl | rfl) <;> exact ⟨_,rfl,_,rfl,by first | assumption | exact Y3 s3 _⟩) fun y hy=>?_
 obtain ⟨f,rfl,hf⟩:=hy
 have g0:zT H Hf:=by walk_at "sm"
 clear ef e1 e2 e3
 walk_at "rd"
 rename_i q8 H8 g8 m8 e8 kd hkd v8 h08 h18 q7 H7 g7 m7 e7 v7 h07 h17
 refine km (fun wd=>0<=wd/\wd<=40) e7 (by omega) (by show _ < (3:Int);omega) (by simp only [mem_cons,not_mem_nil,or_false];rintro v (rfl | rfl | rfl) <;> exact ⟨_,rfl,by omega,by omega⟩) fun wd hwd=>?_
 clear e7 e8
 walk_at "rd"
 rename_i q6 H6 g6 m6 e6 v6 h06 h16
 refine Z0 y4 e6 (by omega) (by show _ < (3:Int);omega) Wz fun y hy=>?_
 clear e6
 walk_at "rd"
 rename_i v5 h05 h15 q5 H5 g5 e5
 exact q _ _ _ _ _ _ _ (by walk_at "sm") (.word e5 ⟨by omega,s2,h02,by omega,by omega,hwd.1,hwd.2,hy,s3,hf⟩)
def Q5 (K:W.Frag):Sp:=fun vs H Q _=>∃ (c n:Int),vs=[.int c,.int n]/\1<=n/\n<=12 /\ ∀ L H' ns,zT H H'->H' L=some (.lst (tsV ns))->(ns.length:Int)=n->((∀ t ∈ ns,1<=t.length/\t.length<=13/\Asc t)/\ns.Nodup)->Q (.ref L) H'
theorem zGE {n:Int} (h1:1<=n) (h2:n<=12) (q : ∀ L H' ns,zT H H'->H' L=some (.lst (tsV ns))->(ns.length:Int)=n->((∀ t ∈ ns,1<=t.length/\t.length<=13/\Asc t)/\ns.Nodup)->Q (.ref L) H'):Q5 K ([.int c,.int n]++[]) H Q E:=⟨c,n,rfl,h1,h2,q⟩
theorem fl1 : ∀ cs:List Nat,(cs.map fun c=>[c]).flatten=cs
 | []=>rfl
 | c::cs=>by rw [map_cons,flatten_cons,fl1 cs];rfl
theorem zCq {H4:Hp} {L:Addr} {ns:Ce} {t:List Nat} (nL:H' L=none) (g4:zT H' H4) (e4:H4 L=some (.lst (tsV ns))) (hz:ns.length<=900) (q : ∀ H5,zT H' H5->H5 L=some (.lst (tsV (ns++[t])))->Q .non H5):Ym (.ref L) [.str (T t)] H4 Q:=
 Je e4 (qK (by rw [zo];omega)) (q _ (qM g4 nL) (by rw [zR,<- xz];rfl))
theorem KB {l:List Nat} (h:Asc l) (k:Nat):l.getD k 0 < 127:=by
 rw [getD_eq_getElem?_getD]
 cases e:l[k]? with
 | none=>decide
 | some c=>exact h c (mem_of_getElem? e)
def YZ (way mn sz st v:Int) (S B:List Nat) (k:Nat):List Nat:=if way=0 then B.take (k+1) else if way=1 then B.take mn.toNat++[S.getD ((v+k*st) % 93).toNat 0]++(B.take sz.toNat).drop (mn+1).toNat else B.take k++[48]
section
variable {way mn sz st v : Int} {S B : List Nat} (hS : S.length = 93) (hB : B.length = 12) (up : S.Pairwise (· < ·)) (m0 : 0 <= mn) (m1 : mn < sz) (z1 : sz <= 12) (t0 : 1 <= st) (t1 : st <= 8)
include hB m0 m1 z1 in
theorem zIa {k:Nat} (hk:k < 12):1<=(YZ way mn sz st v S B k).length/\(YZ way mn sz st v S B k).length<=12:=by
 unfold YZ
 split
 ·rw [length_take,hB];omega
 ·split
  ·simp only [length_append,length_take,length_drop,length_cons,length_nil,hB];omega
  ·simp only [length_append,length_take,length_cons,length_nil,hB];omega
include hS hB up t0 t1 in
theorem zC7 {i:Nat} (hij:i < j) (hj:j < 12):YZ way mn sz st v S B i≠YZ way mn sz st v S B j:=by
 intro e
 unfold YZ at e
 split at e
 ·have:=congrArg List.length e
  rw [length_take,length_take,hB] at this;omega
 ·split at e
  ·rw [append_assoc,append_assoc] at e
   have e2:=(List.cons.injEq .. ▸ append_cancel_left e:_/\_).1
   have a0:=emod_nonneg (v+(i:Int)*st) (show (93:Int)≠0 by decide)
   have a1:=emod_lt_of_pos (v+(i:Int)*st) (show (0:Int) < 93 by decide)
   have b0:=emod_nonneg (v+(j:Int)*st) (show (93:Int)≠0 by decide)
   have b1:=emod_lt_of_pos (v+(j:Int)*st) (show (0:Int) < 93 by decide)
   have ne:(v+(i:Int)*st) % 93≠(v+(j:Int)*st) % 93:=by
    obtain ⟨d,rfl⟩ : ∃ d:Nat,j=i+d:=⟨j - i,by omega⟩
    have ed:((i+d:Nat):Int)*st=(i:Int)*st+(d:Int)*st:=by rw [Int.natCast_add,Int.add_mul]
    have d1:1*1<=(d:Int)*st:=mul_le_mul (by omega) t0 (by decide) (by omega)
    have d2:(d:Int)*st<=11*8:=mul_le_mul (by omega) t1 (by omega) (by decide)
    rw [ed]
    omega
   generalize (v+(i:Int)*st) % 93=a at *
   generalize (v+(j:Int)*st) % 93=b at *
   rw [getD_eq_getElem?_getD,getElem?_eq_getElem (show a.toNat < S.length by omega),getD_eq_getElem?_getD,getElem?_eq_getElem (show b.toNat < S.length by omega)] at e2
   have e3:S[a.toNat]'(by omega)=S[b.toNat]'(by omega):=e2
   have pw:=List.pairwise_iff_getElem.mp up
   rcases Nat.lt_trichotomy a.toNat b.toNat with h | h | h
   ·have:=pw a.toNat b.toNat (by omega) (by omega) h;omega
   ·omega
   ·have:=pw b.toNat a.toNat (by omega) (by omega) h;omega
  ·have:=congrArg List.length e
   simp only [length_append,length_take,length_cons,length_nil,hB] at this
   omega
end
theorem zH0 {way mn sz st v:Int} {S B:List Nat} (hS:Asc S) (hB:Asc B) {k:Nat}:Asc (YZ way mn sz st v S B k):=by
 unfold YZ
 split
 ·exact hB.take _
 ·split
  ·exact ((hB.take _).app (Asc.one (KB hS _))).app ((hB.take _).drop _)
  ·exact (hB.take _).app (Asc.one (by decide))
local macro_rules | `(tactic| walk_at "rdc")=>`(tactic| ((with_reducible refine' zFg ?h1 ?h2 ?_);(case h1|h2=>omega);intro h0' h1'))
local macro_rules | `(tactic| walk_at "rdc")=>`(tactic| ((with_reducible refine zDX ?_);intro l' hl' al' pl'))
include Z in
theorem WC:Has P w K mg base "_law_names" 2 ["_law_cell", "_law_many"] (Q5 K):=by
 refine jm Z.kn Z.bM (l2N (by intros;rfl)) fun fq fd F=>?_
 refine F.ok qE (fun vs H Q E=>?_) (fun _ _ _ s H vs Q E hr h=>?_)
 ·walk_at "ln"
 obtain ⟨c,n,rfl,h1,h2,q⟩:=h
 refine ⟨_,zC (zM (i:=2) qE.nd rfl (Or.inr rfl) (zk jL (Ju (Zu Z) hr rfl) (zm (zD)) (qG)))
  (zC (zM (i:=3) qE.nd rfl (Or.inl rfl) (yz PySem.F.plainAttrs_str PySem.F.slot_str_join PySem.F.type_str_join JX (xU (l:=[]) (by decide +kernel)) (zA (jV (cl:=[("_law_signs_here", s.heap.objs.size+1+1),("_law_cell", s.heap.objs.size+1+0)]) (fr:=["_law_cell", "_law_signs_here"]) (is:=[0,2]) rfl rfl ⟨rfl,⟨rfl,trivial⟩⟩ rfl ⟨⟨rfl,rfl,Or.inl rfl⟩,⟨⟨rfl,rfl,Or.inl rfl⟩,trivial⟩⟩ (by decide) (by decide +kernel) rfl (by decide +kernel) rfl (jr rfl Z.ap (zA (zD) (zB))) (fun _ _ _ _=>qz) (fun _ _ _ _=>zX x0 (pv 2) (zF (zN Z :) hr rfl (zA (pv 1) (zA (zP zg (zD) (pv 0)) (zA (zD) (zB))))) (fun _ _=>rfl))) (zB))))
  (zC (zM (i:=4) qE.nd rfl (Or.inl rfl) (zF (zN Z :) hr rfl (zA (pv 0) (zA (zD) (zA (zD) (zB))))))
  (zC (zM (i:=5) qE.nd rfl (Or.inl rfl) (zF (zN Z :) hr rfl (zA (pv 0) (zA (zD) (zA (zD) (zB))))))
  (zC (zM (i:=6) qE.nd rfl (Or.inl rfl) (zP zg (zD) (zF (zN Z :) hr rfl (zA (pv 0) (zA (zD) (zA (zD) (zB)))))))
  (zC (zM (i:=7) qE.nd rfl (Or.inl rfl) (zX zp (zl (zA (zD) (zA (zD) (zA (zD) (zA (zD) (zA (zD) (zA (zD) (zB)))))))) (zF (zN Z :) hr rfl (zA (pv 0) (zA (zD) (zA (zD) (zB))))) (fun _ _=>rfl)))
  (zC (zM (i:=8) qE.nd rfl (Or.inl rfl) (zl (zB)))
  (zC (kG PassesOwn.never rfl (jr rfl Z.ap (zA (pv 1) (zB))) (zj (i:=9) qE.nd rfl (Or.inl rfl)) (zC (zM (i:=10) qE.nd rfl (Or.inl rfl) (zX x0 (pv 2) (zP qh (zP zg (zF (zN Z :) hr rfl (zA (pv 0) (zA (zD) (zA (zD) (zB))))) (zP qi (pv 9) (pv 7))) (zD)) (fun _ _=>rfl)))
  (zG (zu (zQ qb (pv 4) (zD) (zS _)) (zG (jB (yz PySem.F.plainAttrs_list PySem.F.slot_list_append PySem.F.type_list_append xL (pv 8) (zA (zk jL (pv 3) (qG) (zm (zP zg (pv 9) (zD)))) (zB))))) (zG (zu (zQ qb (pv 4) (zD) (zS _)) (zG (jB (yz PySem.F.plainAttrs_list PySem.F.slot_list_append PySem.F.type_list_append xL (pv 8) (zA (zP jH (zP jH (zk jL (pv 3) (qG) (zm (zK (ZP rfl) Z.av rfl zAE (zA (pv 5) (zA (zP qt (pv 6) (zD)) (zB)))))) (pv 10)) (zk jL (pv 3) (zm (zP zg (zK (ZP rfl) Z.av rfl zAE (zA (pv 5) (zA (zP qt (pv 6) (zD)) (zB)))) (zD))) (zm (pv 6)))) (zB))))) (zG (jB (yz PySem.F.plainAttrs_list PySem.F.slot_list_append PySem.F.type_list_append xL (pv 8) (zA (zP jH (zk jL (pv 3) (qG) (zm (pv 9))) (xU (l:=[48]) (by decide +kernel))) (zB)))))))))))
  (zC (zM (i:=11) qE.nd rfl (Or.inl rfl) (zF (zN Z :) hr rfl (zA (pv 0) (zA (zD) (zA (pv 1) (zB))))))
  (zG (zL (zP jf (zk QT (pv 8) (zm (pv 11)) (qG)) (zk QT (pv 8) (qG) (zm (pv 11)))))))))))))),?_⟩
 walk_at "st"
 walk_at "rd"
 rename_i l hl al pw
 have lS:(l.drop (Int.toNat 1)).length=93:=by rw [length_drop,hl];rfl
 have aS:Asc (l.drop (Int.toNat 1)):=Asc.drop al _
 have pS:(l.drop (Int.toNat 1)).Pairwise (· < ·):=List.Pairwise.sublist (List.drop_sublist _ _) pw
 generalize l.drop (Int.toNat 1)=S at lS aS pS ⊢
 refine Xg (by decide) (by decide) (Nat.le_of_lt (qK (by decide))) (fun i ys H'=>H'=H /\ ∃ cs:List Nat,cs.length=i/\Asc cs/\ys=tsV (cs.map fun c=>[c])) ⟨rfl,[],rfl,Asc.nil,rfl⟩ (fun i ys H' _ zz=>by obtain ⟨_,cs,h,_,e⟩:=zz;rw [e,zo,length_map];omega) ?_ ?_
 ·rintro i ys H' hi ⟨rfl,cs,c1,c2,rfl⟩
  walk_at "rd"
  refine nxC hi ⟨rfl,cs++[S.getD (pk c (70+(0+(i:Int))) 93).toNat 0],by rw [length_append,c1];rfl,c2.app (.one (KB aS _)),?_⟩
  rw [map_append,<- xz];rfl
 ·rintro ys H' ⟨rfl,B,lB,aB,rfl⟩ p1 H1 g1 n1 e1
  have lB':B.length=12:=lB
  walk_at "rd"
  refine VL e1 (by rw [fl1,length_map];show B.length+B.length*0<=_;omega) ?_
  rw [show Lt (T [])=[] from rfl,zDH,fl1]
  clear e1
  walk_at "rd"
  rename_i w10 w11 w20 w21 w30 w31 p2 H2 g2 n2 e2 w40 w41
  refine km (fun s=>1<=s/\s<=8) e2 (by omega) (by show _ < (6:Int);omega) (by simp only [mem_cons,not_mem_nil,or_false];rintro v (rfl | rfl | rfl | rfl | rfl | rfl) <;> exact ⟨_,rfl,by omega,by omega⟩) fun s hs=>?_
  have g02:=g1.trans g2
  clear e2
  walk_at "rd"
  rename_i L H3 g3 n3 e3
  have g03:=g02.trans g3
  have nL:H' L=none:=none_of g02 n3
  generalize pk c 83 3=way at *
  generalize pk c 84 12=at0 at *
  obtain ⟨sz,hsz⟩ : ∃ sz:Int,sz=1+pk c 85 12:=⟨_,rfl⟩
  rw [<- hsz]
  obtain ⟨mn,hmn⟩ : ∃ mn:Int,mn=if sz - 1 < at0 then sz - 1 else at0:=⟨_,rfl⟩
  have mn0:0<=mn/\mn < sz:=by rw [hmn];split <;> omega
  have sz1:1<=sz/\sz<=12:=by omega
  refine Qm (by omega) (by omega) (fun i σ H4=>∃ (r1 r2:Option V),zT H' H4/\H4 L=some (.lst (tsV ((List.range i).map (YZ way mn sz s (pk c 87 93) S B))))/\σ=[some (.int c),some (.int n),some (.str (T S)),some (.str (T B)),some (.int way),some (.int at0),some (.int sz),some (.int s),some (.ref L),r1,r2,none]) ⟨none,none,g03,e3,rfl⟩ ?_ ?_
  ·rintro i σ H4 hi ⟨r1,r2,g4,e4,rfl⟩
   have m0:0<=(i:Int)*s:=Int.mul_nonneg (by omega) (by omega)
   have m1:(i:Int)*s<=12*8:=mul_le_mul (by omega) hs.2 (by omega) (by omega)
   have nn:=emod_nonneg (pk c 87 93+(i:Int)*s) (show (93:Int)≠0 by decide)
   have nn2:=emod_lt_of_pos (pk c 87 93+(i:Int)*s) (show (0:Int) < 93 by decide)
   have ln:((List.range i).map (YZ way mn sz s (pk c 87 93) S B)).length<=900:=by rw [length_map,length_range];omega
   walk_at "rd"
   ·rename_i v0 v1 hc
    have e:YZ way mn sz s (pk c 87 93) S B i=B.take (0+(i:Int)+1).toNat:=by
     unfold YZ;rw [if_pos hc,show (0+(i:Int)+1).toNat=i+1 by omega]
    exact zCq nL g4 e4 ln fun H5 g5 e5=>⟨_,_,g5,by rw [e5,range_succ,map_append,map_cons,map_nil,e],rfl⟩
   ·rename_i v0 v1 hc hc2 k1 hk1 k2 hk2
    have e:YZ way mn sz s (pk c 87 93) S B i=B.take k1.toNat++[S.getD ((pk c 87 93+(0+(i:Int))*s) % 93).toNat 0]++(B.take sz.toNat).drop (k2+1).toNat:=by
     unfold YZ;rw [if_neg hc,if_pos hc2,show k1=mn by rw [hmn];split <;> omega,show k2=mn by rw [hmn];split <;> omega,show (0:Int)+(i:Int)=(i:Int) by omega]
    exact zCq nL g4 e4 ln fun H5 g5 e5=>⟨_,_,g5,by rw [e5,range_succ,map_append,map_cons,map_nil,e],rfl⟩
   ·rename_i v0 v1 hc hc2
    have e:YZ way mn sz s (pk c 87 93) S B i=B.take (0+(i:Int)).toNat++[48]:=by
     unfold YZ;rw [if_neg hc,if_neg hc2,show (0+(i:Int)).toNat=i by omega]
    exact zCq nL g4 e4 ln fun H5 g5 e5=>⟨_,_,g5,by rw [e5,range_succ,map_append,map_cons,map_nil,e],rfl⟩
  ·rintro σ H4 ⟨r1,r2,g4,e4,rfl⟩
   walk_at "rd"
   rename_i v50 v51 p5 H5 g5 n5 e5 p6 H6 g6 n6 e6
   have ok:(∀ t ∈ (List.range n.toNat).map (YZ way mn sz s (pk c 87 93) S B),1<=t.length/\t.length<=13/\Asc t)/\((List.range n.toNat).map (YZ way mn sz s (pk c 87 93) S B)).Nodup:=by
    refine ⟨fun t ht=>?_,?_⟩
    ·obtain ⟨k,hk,rfl⟩:=List.mem_map.mp ht
     have:=zIa (way:=way) (st:=s) (v:=pk c 87 93) (S:=S) lB' mn0.1 mn0.2 sz1.2 (k:=k) (by have:=List.mem_range.mp hk;omega)
     exact ⟨this.1,by omega,zH0 aS aB⟩
    ·unfold List.Nodup
     rw [List.pairwise_map]
     refine List.Pairwise.imp_of_mem ?_ List.pairwise_lt_range
     intro i j hi hj hij
     exact zC7 lS lB' pS hs.1 hs.2 hij (by have:=List.mem_range.mp hj;omega)
   have lN:((List.range n.toNat).map (YZ way mn sz s (pk c 87 93) S B)).length=n.toNat:=by rw [length_map,length_range]
   generalize (List.range n.toNat).map (YZ way mn sz s (pk c 87 93) S B)=N at *
   have pm : ∀ k,(N.drop k++N.take k).Perm N:=fun k=>List.perm_append_comm.trans (by rw [take_append_drop])
   refine zE4 (g6.at e5) e6 (by rw [length_drop,length_take];omega) fun p7 H7 g7 n7 e7=>?_
   exact q _ _ _ (g4.trans (g5.trans (g6.trans g7))) e7 (by rw [(pm _).length_eq,lN];omega) ⟨fun t h=>ok.1 t ((pm _).mem_iff.mp h),(pm _).nodup_iff.mpr ok.2⟩
local macro_rules | `(tactic| walk_at "rdc")=>`(tactic| ((with_reducible refine' zCJ ?h1 ?h2 ?_);(case h1|h2=>omega);intro v' h0' h1'))
local macro_rules | `(tactic| walk_at "rdc")=>`(tactic| ((with_reducible refine zCZ ?_);intro l' hl' al'))
local macro_rules | `(tactic| walk_at "rdc")=>`(tactic| first | ((with_reducible refine' zGE ?h1 ?h2 ?_);(case h1|h2=>omega);intro L' H' ns' g' e' hn' ht') | fail "none")
def yE (K:W.Frag):Sp:=fun vs H Q _=>∃ (c o s:Int),vs=[.int c,.int o,.int s]/\(s=0\/s=1) /\ ∀ p H' wd f x st d,zT H H'->Xu H' p wd f x st d->Q (.ref p) H'
theorem Yz {o:Int} (h:s=0\/s=1) (q : ∀ p H' wd f x st d,zT H H'->Xu H' p wd f x st d->Q (.ref p) H'):yE K ([.int c,.int o,.int s]++[]) H Q E:=⟨c,o,s,rfl,h,q⟩
include Z in
theorem Qc:Has P w K mg base "_law_choice_spec" 3 ["_law_cell", "_law_other", "_law_small"] (yE K):=by
 refine jm Z.kn Z.bN (l3N (by intros;rfl)) fun fq fd F=>?_
 refine F.ok qV (fun vs H Q E=>?_) (fun _ _ _ s H vs Q E hr h=>?_)
 ·walk_at "ln"
 obtain ⟨c,o,s0,rfl,hs,q⟩:=h
 refine ⟨_,zC (zM (i:=3) qV.nd rfl (Or.inl rfl) (zF (WC Z) hr rfl (zA (pv 0) (zA (zP zg (zD) (zF (zN Z) hr rfl (zA (pv 1) (zA (zD) (zA (zX zp (zl (zA (zD) (zA (zD) (zB)))) (pv 2) (fun _ _=>rfl)) (zB)))))) (zB)))))
  (zC (zM (i:=4) qV.nd rfl (Or.inl rfl) (zX zp (zl (zA (zX x0 (zX zp (pv 3) (zD) (fun _ _=>rfl)) (zBO YI (zD)) (fun _ _=>rfl)) (zA (zF (j9 Z) hr rfl (zA (pv 1) (zA (zD) (zB)))) (zA (xU (l:=[48]) (by decide +kernel)) (zB))))) (zF (zN Z) hr rfl (zA (pv 1) (zA (zD) (zA (zD) (zB))))) (fun _ _=>rfl)))
  (zC (zM (i:=5) qV.nd rfl (Or.inl rfl) (zX zp (zl (zA (zD) (zA (zP zg (zD) (zF (zN Z) hr rfl (zA (pv 1) (zA (zD) (zA (zX zp (zl (zA (zD) (zA (zD) (zB)))) (pv 2) (fun _ _=>rfl)) (zB)))))) (zA (zP zg (zK zr Z.ao rfl qD (zA (zX zp (pv 3) (zBO YI (zD)) (fun _ _=>rfl)) (zB))) (zD)) (zB))))) (zF (zN Z) hr rfl (zA (pv 1) (zA (zD) (zA (zD) (zB))))) (fun _ _=>rfl)))
  (zC (zM (i:=6) qV.nd rfl (Or.inl rfl) (zX zp (zl (zA (zd) (zA (zd) (zA (zd) (zB))))) (zF (zN Z) hr rfl (zA (pv 1) (zA (zD) (zA (zD) (zB))))) (fun _ _=>rfl)))
  (zG (zL (ji (zA (zd) (zA (pv 3) (zA (pv 5) (zA (pv 4) (zA (pv 6) (zA (qY qb (zF (zN Z) hr rfl (zA (pv 1) (zA (zD) (zA (zD) (zB))))) (zD) (zS _)) (zB))))))))))))),?_⟩
 walk_at "st"
 walk_at "rd"
 rename_i p0 H0 g0 n0 e0 ka hka v0 h00 h10 L H1 ns g1 e1 hn ht2
 obtain ⟨ht,nd⟩:=ht2
 have l0:0 < ns.length:=by omega
 have t0:=ht (ns.getD (Int.toNat 0) []) (by rw [getD_eq_getElem?_getD,getElem?_eq_getElem (show Int.toNat 0 < ns.length from l0)];exact getElem_mem _)
 generalize ns.getD (Int.toNat 0) []=t at t0 ⊢
 have g01:=g0.trans g1
 clear e0
 walk_at "rd"
 rename_i c2 hc2 p2 H2 g2 n2 e2 v2 h02 h12
 refine Z0 (fun y=>∃ f:Nat,y=T [f]/\f < 127) e2 (by omega) (by show _ < (3:Int);omega) (by simp only [mem_cons,not_mem_nil,or_false];rintro v (rfl | rfl | rfl) <;> exact ⟨_,rfl,_,rfl,by first | assumption | exact Y3 t0.2.2 _ | decide⟩) fun y hy=>?_
 obtain ⟨f,rfl,hf⟩:=hy
 clear e2
 have t1:=ht (ns.getD (ns.length - 1) []) (by rw [getD_eq_getElem?_getD,getElem?_eq_getElem (show ns.length - 1 < ns.length by omega)];exact getElem_mem _)
 walk_at "rd"
 rename_i p3 H3 g3 n3 e3 kb hkb v3 h03 h13 p4 H4 g4 n4 e4 v4 h04 h14
 generalize ns.getD (ns.length - 1) []=u at t1 e4 ⊢
 clear e3
 refine km (fun wd=>0<=wd/\wd<=40) e4 (by omega) (by show _ < (3:Int);omega) (by simp only [mem_cons,not_mem_nil,or_false];rintro v (rfl | rfl | rfl) <;> exact ⟨_,rfl,by omega,by omega⟩) fun wd hwd=>?_
 clear e4
 walk_at "rd"
 rename_i p5 H5 g5 n5 e5 v5 h05 h15
 refine Z0 y4 e5 (by omega) (by show _ < (3:Int);omega) Wz fun y hy=>?_
 clear e5
 walk_at "rd"
 rename_i v6 h06 h16 p6 H6 g6 e6
 exact q _ _ _ _ _ _ _ (by walk_at "sm") (.cho e6 (g6.at (g5.at (g4.at (g3.at (g2.at e1))))) ⟨by omega,by omega,fun t h=>(ht t h).2.1,hwd.1,hwd.2,hy,fun t h=>(ht t h).2.2,nd,hf⟩)
def Jy (K:W.Frag) (cN cW cC:Addr):Sp:=fun vs H Q _=>∃ (p:Addr) (wd:Int) (f:Nat) (x:Str) (st:Bool) (d:Fd),vs=[.ref p]/\Xu H p wd f x st d /\ ∀ o H',zT H H'->xv K H' o cN cW cC wd f x st d->Q (.ref o) H'
theorem zJh {d:Fd} (h:Xu H p wd f x st d) (q : ∀ o H',zT H H'->xv K H' o cN cW cC wd f x st d->Q (.ref o) H'):Jy K cN cW cC ([.ref p]++[]) H Q E:=⟨p,wd,f,x,st,d,rfl,h,q⟩
include Z in
theorem zAm:Has P w K mg base "_law_form" 5 ["_law_spec_here"] (Jy K zE zI zJ):=by
 have clW:Cls K zI:=Z.cj
 have naW:jG K zI (bns++wns):=Z.ck
 have clC:Cls K zJ:=Z.cm
 have naC:jG K zJ (bns++cns):=Z.cn
 refine jm Z.kn Z.bO (l1N (by intros;rfl)) fun fq fd F=>?_
 refine F.ok qC (fun vs H Q E=>?_) (fun _ _ _ s H vs Q E hr h=>?_)
 ·walk_at "ln"
 obtain ⟨p,wd,f,x,st,d,rfl,D0,q⟩:=h
 refine ⟨_,zC (zu (zQ qb (zX zi (pv 0) (zD) (fun _ _=>rfl)) (zd) (zS _)) (zG (zL (zF (Ql Z) hr rfl (zA (pv 0) (zB))))) (zU))
  (zC (zu (zQ qb (zX zi (pv 0) (zD) (fun _ _=>rfl)) (zd) (zS _)) (zC (VW (zk zAK (pv 0) (zm (zD)) (qG)) (Ko rfl (zx (zj (i:=1) qC.nd rfl (Or.inl rfl)) (zx (zj (i:=2) qC.nd rfl (Or.inl rfl)) (zx (zj (i:=3) qC.nd rfl (Or.inl rfl)) (zx (zj (i:=4) qC.nd rfl (Or.inl rfl)) (zx (zj (i:=5) qC.nd rfl (Or.inl rfl)) (zx (zj (i:=6) qC.nd rfl (Or.inl rfl)) (zx (zj (i:=7) qC.nd rfl (Or.inl rfl)) (Jp))))))))))
  (zG (zL (Yt (zKk (Zt Z) Z.cl) qu hr rfl Z.am (zA (pv 1) (zA (pv 2) (zA (pv 3) (zA (pv 4) (zA (pv 5) (zA (pv 6) (zA (pv 7) (zB) zt) zt) zt) zt) zt) zt) zt))))) (zU))
  (zC (VW (zk zAK (pv 0) (zm (zD)) (qG)) (Ko rfl (zx (zj (i:=8) qC.nd rfl (Or.inl rfl)) (zx (zj (i:=4) qC.nd rfl (Or.inl rfl)) (zx (zj (i:=5) qC.nd rfl (Or.inl rfl)) (zx (zj (i:=6) qC.nd rfl (Or.inl rfl)) (zx (zj (i:=7) qC.nd rfl (Or.inl rfl)) (Jp))))))))
  (zG (zL (Yt (zKk (ky Z) Z.co) qu hr rfl Z.an (zA (kr Jm rfl Z.az J9 (zA (pv 8) (zB))) (zA (pv 4) (zA (pv 5) (zA (pv 6) (zA (pv 7) (zB))))))))))),?_⟩
 walk_at "st"
 cases D0 with
 | num e ok =>
  walk_at "rd"
  exact ⟨p,_,_,_,_,_,_,_,_,_,_,_,_,rfl,e,fun o H1 g1 F1=>q _ _ g1 (.num F1 ok)⟩
 | @word sg lo hi e ok =>
  walk_at "rd"
  refine zDY (n:=8) e rfl (by decide) fun p1 H1 g1 e1=>?_
  have e1':H1 p1=some (.tup [.str (T sg),.int lo,.int hi,.int wd,.str (T [f]),.str x,.bl st]):=e1
  clear e1
  walk_at "rd"
  intro o dx no nd ne
  refine ⟨o,dx,sg,lo,hi,wd,f,x,st,rfl,zR,?_⟩
  have F1:zV K (upd (upd (upd H1 dx (.own o)) o (.ins zI dx [])) o (.ins zI dx (bfs wd f x st (kR sg lo hi)))) o zI wd f x st (kR sg lo hi):=⟨⟨dx,zR⟩,clW,naW⟩
  have g3:zT H1 (upd (upd (upd H1 dx (.own o)) o (.ins zI dx [])) o (.ins zI dx (bfs wd f x st (kR sg lo hi)))):=qM (qM (qM (zT.refl _) nd) no) no
  generalize upd (upd (upd H1 dx (.own o)) o (.ins zI dx [])) o (.ins zI dx (bfs wd f x st (kR sg lo hi)))=H3 at F1 g3 ⊢
  exact ⟨rfl,q _ _ (g1.trans g3) (.word F1 ok)⟩
 | @cho L ns e eL ok =>
  walk_at "rd"
  refine zDY (n:=6) e rfl (by decide) fun p1 H1 g1 e1=>?_
  have e1':H1 p1=some (.tup [.ref L,.int wd,.str (T [f]),.str x,.bl st]):=e1
  clear e1
  have eL1:=g1.at eL
  walk_at "rd"
  rename_i l2 H2 g2 n2 e2
  intro o dx no nd ne
  have g3:zT H2 (upd (upd H2 dx (.own o)) o (.ins zJ dx [])):=qM (qM (zT.refl _) nd) no
  refine ⟨o,dx,l2,ns,wd,f,x,st,rfl,zR,g3.at e2,fun L2 H3 sb n3 e3 eo=>⟨rfl,q _ _ (fun b u eb=>?_) (.cho ⟨⟨dx,eo⟩,clC,naC⟩ e3 ok)⟩⟩
  have eb2:=(g1.trans g2).at eb
  exact sb b u (fun z=>by rw [z,no] at eb2;cases eb2) (g3.at eb2)
def J1 (K:W.Frag):Sp:=fun vs H Q _=>∃ (c o s:Int),vs=[.int c,.int o,.int s]/\(s=0\/s=1) /\ ∀ p H' wd f x st d,zT H H'->Xu H' p wd f x st d->Q (.ref p) H'
include Z in
theorem zAc:Has P w K mg base "_law_spec" 4 ["_law_cell", "_law_other", "_law_small"] (J1 K):=by
 refine jm Z.kn Z.bP (l3N (by intros;rfl)) fun fq fd F=>?_
 refine F.ok Jk (fun vs H Q E=>?_) (fun _ _ _ s H vs Q E hr h=>?_)
 ·walk_at "ln"
 obtain ⟨c,o,s0,rfl,hs,q⟩:=h
 refine ⟨_,zC (zM (i:=3) Jk.nd rfl (Or.inl rfl) (zF (zN Z) hr rfl (zA (pv 0) (zA (zD) (zA (zD) (zB))))))
  (zC (zu (zQ qb (pv 3) (zD) (zS _)) (zG (zL (zF (Jv Z) hr rfl (zA (pv 0) (zA (pv 1) (zA (pv 2) (zB))))))) (zU))
  (zC (zu (zQ qb (pv 3) (zD) (zS _)) (zG (zL (zF (Qc Z) hr rfl (zA (pv 0) (zA (pv 1) (zA (pv 2) (zB))))))) (zU))
  (zG (zL (zF (Qh Z) hr rfl (zA (pv 0) (zA (pv 1) (zA (pv 2) (zB))))))))),?_⟩
 walk_at "st"
 walk_at "rd"
 ·exact K8 hs q
 ·exact Yz hs q
 ·exact VO hs q
def JI (K:W.Frag):Sp:=fun vs H Q _=>∃ b t:Int,vs=[.int b,.int t]/\2<=b/\b<=16/\0<=t/\t<=60/\Q (.int (b ^ t.toNat)) H
theorem zGl (h1:2<=b) (h2:b<=16) (h3:0<=t) (h4:t<=60) (q:Q (.int (b ^ t.toNat)) H):JI K ([.int b,.int t]++[]) H Q E:=⟨b,t,rfl,h1,h2,h3,h4,q⟩
local macro_rules | `(tactic| walk_at "rdc")=>`(tactic| ((with_reducible refine' zGl ?h1 ?h2 ?h3 ?h4 ?_);(case h1|h2|h3|h4=>omega)))
def Zb (K:W.Frag):Sp:=fun vs H Q _=>∃ a b:Int,vs=[.int a,.int b]/\0 < b/\Q (.int (Int.gcd a b)) H
theorem zCg (h:0 < b) (q:Q (.int (Int.gcd a b)) H):Zb K ([.int a,.int b]++[]) H Q E:=⟨a,b,rfl,h,q⟩
local macro_rules | `(tactic| walk_at "rdc")=>`(tactic| ((with_reducible refine' zCg ?h ?_);(case h=>omega)))
def QA (K:W.Frag):Sp:=fun vs H Q _=>∃ t b:Int,vs=[.int t,.int b]/\0 < b/\b < 10000000000000000000000000000000000000000000000000000000000000000000000000000000000000000000000000000000000000000000000000000000000000000000000000000000000000000000000000000000000000000000000 /\ ∀ p H',zT H H'->H' p=some (.tup [.int (ZV t b),.int (Zj t b)])->Q (.ref p) H'
def JG (K:W.Frag):Sp:=fun vs H Q _=>∃ c t m:Int,vs=[.int c,.int t,.int m]/\0<=t/\t < 1000/\0 < m /\ ∀ v:Int,0<=v->v < m->Q (.int v) H
theorem zGX {m:Int} (h1:0<=t) (h1':t < 1000) (h2:0 < m) (q : ∀ v:Int,0<=v->v < m->Q (.int v) H):JG K ([.int c,.int t,.int m]++[]) H Q E:=⟨c,t,m,rfl,h1,h1',h2,q⟩
include Z in
theorem Jj:Has P w K mg base "_law_power" 1 ["_law_base", "_law_times"] (JI K):=by
 refine jm Z.kn Z.bQ (l2N (by intros;rfl)) fun fq fd F=>?_
 refine F.ok yG (fun vs H Q E=>?_) (fun _ _ _ s H vs Q E hr h=>?_)
 ·walk_at "ln"
 obtain ⟨b,t,rfl,h1,h2,h3,h4,q⟩:=h
 refine ⟨_,zC (zM (i:=2) yG.nd rfl (Or.inl rfl) (zD))
  (zC (kG PassesOwn.never rfl (jr rfl Z.ap (zA (pv 1) (zB))) (zj (i:=3) yG.nd rfl (Or.inl rfl)) (zG (zM (i:=2) yG.nd rfl (Or.inl rfl) (zP qi (pv 2) (pv 0)))))
  (zG (zL (pv 2)))),?_⟩
 walk_at "st"
 walk_at "rd"
 refine Qm (by omega) (by omega) (fun i σ H'=>H'=H /\ ∃ r,σ=[some (.int b),some (.int t),some (.int (b ^ i)),r]) ⟨rfl,none,by rw [Int.pow_zero];rfl⟩ ?_ ?_
 ·rintro i σ H' hi ⟨rfl,r,rfl⟩
  have z:=zJ2 (n:=i) h1 h2 (by omega)
  walk_at "rd"
  exact ⟨rfl,some (.int (0+i)),by rw [pow_succ];rfl⟩
 ·rintro σ H' ⟨rfl,r,rfl⟩
  walk_at "rd"
  exact q
theorem zCd (hl:0 < l):Int.gcd l (g % l)=Int.gcd g l:=by
 rw [Int.gcd_comm g l]
 have e:g % l=g+l*(-(g / l)):=by
  have:=Int.emod_add_mul_ediv g l
  rw [Int.mul_neg];omega
 rw [e,Int.gcd_add_mul_left_right]
include Z in
theorem VI:Has P w K mg base "_law_divisor" 1 ["_law_one", "_law_other"] (Zb K):=by
 refine jm Z.kn Z.bR (l2N (by intros;rfl)) fun fq fd F=>?_
 refine F.ok Zh (fun vs H Q E=>?_) (fun _ _ _ s H vs Q E hr h=>?_)
 ·walk_at "ln"
 obtain ⟨a,b,rfl,h0,q⟩:=h
 refine ⟨_,zC (QC PassesOwn.never (zQ QH (pv 1) (zD) (zS _)) (zG (zJp (i:=0) (j:=1) rfl Zh.nd rfl rfl (by decide) rfl rfl (zA (pv 1) (zA (zP qh (pv 0) (pv 1)) (zB))) rfl)))
  (zG (zL (zK ki Z.ay rfl KA (zA (pv 0) (zB))))),?_⟩
 walk_at "st"
 walk_at "rd"
 refine XR (fun m σ H'=>H'=H /\ ∃ (g l:Int),σ=[some (.int g),some (.int l)]/\0<=l/\Int.gcd g l=Int.gcd a b/\m=l.toNat) ⟨_,rfl,a,b,rfl,by omega,rfl,rfl⟩ ?_
 rintro m σ H' ⟨rfl,g,l,rfl,hl,hgl,rfl⟩
 walk_at "rd"
 ·rename_i hc k' hk'
  subst hc
  rw [Int.gcd_zero_right] at hgl
  rw [<- hgl] at q
  rw [show k'=(g.natAbs:Int) by omega];exact q
 ·rename_i hc
  have e1:=emod_nonneg g (show l≠0 by omega)
  have e2:=emod_lt_of_pos g (show 0 < l by omega)
  exact ⟨_,by omega,rfl,l,g % l,rfl,e1,(zCd (by omega)).trans hgl,rfl⟩
include Z in
theorem Vg:Has P w K mg base "_law_lowest" 2 ["_law_top", "_law_bottom"] (QA K):=by
 refine jm Z.kn Z.bS (l2N (by intros;rfl)) fun fq fd F=>?_
 refine F.ok QO (fun vs H Q E=>?_) (fun _ _ _ s H vs Q E hr h=>?_)
 ·walk_at "ln"
 obtain ⟨t,b,rfl,h0,h1,q⟩:=h
 refine ⟨_,zC (zM (i:=2) QO.nd rfl (Or.inl rfl) (zF (VI Z) hr rfl (zA (pv 0) (zA (pv 1) (zB)))))
  (zG (zL (ji (zA (zP jp (pv 0) (pv 2)) (zA (zP jp (pv 1) (pv 2)) (zB)))))),?_⟩
 walk_at "st"
 have e0:0 < (Int.gcd t b:Int):=by have:=Int.gcd_pos_of_ne_zero_right t (show b≠0 by omega);omega
 have e1:(Int.gcd t b:Int)<=b.natAbs:=by have:=Int.gcd_le_natAbs_right (a:=t) (b:=b) (by omega);omega
 walk_at "rd"
 refine q _ _ (by assumption) ?_
 unfold ZV Zj VU;rw [if_neg (show ¬ b < 0 by omega),Int.fdiv_eq_ediv_of_nonneg _ (Int.le_of_lt e0),Int.fdiv_eq_ediv_of_nonneg _ (Int.le_of_lt e0)];assumption
theorem zEd (h1:0 < b) (h2:b < 10000000000000000000000000000000000000000000000000000000000000000000000000000000000000000000000000000000000000000000000000000000000000000000000000000000000000000000000000000000000000000000000) (q : ∀ p H',zT H H'->H' p=some (.tup [.int (ZV t b),.int (Zj t b)])->Q (.ref p) H'):QA K ([.int t,.int b]++[]) H Q E:=⟨t,b,rfl,h1,h2,q⟩
include Z in
theorem WU:Has P w K mg base "_law_great" 1 ["_law_cell", "_law_at", "_law_limit"] (JG K):=by
 refine jm Z.kn Z.bT (l3N (by intros;rfl)) fun fq fd F=>?_
 refine F.ok Qx (fun vs H Q E=>?_) (fun _ _ _ s H vs Q E hr h=>?_)
 ·walk_at "ln"
 obtain ⟨c,t,m,rfl,ht,ht',hm,q⟩:=h
 refine ⟨_,zC (zu (PW.pt (yC (zQ kM (pv 0) (WI (k:=1000000000000000000) (by unfold zJj;decide) (by decide +kernel)) (zS _)) (xW (zQ kM (zP VJ (pv 0) (zP zg (zD) (zP qi (zD) (pv 1)))) (zD) (zS _))))) (zG (zL (zP qh (zP VJ (pv 0) (zP zg (zD) (zP qi (zD) (pv 1)))) (pv 2)))) (zU))
  (zC (zM (i:=3) Qx.nd rfl (Or.inl rfl) (zP zg (zP zg (zP qh (pv 0) (WI (k:=10000000000000000000000000000000000000000) (by unfold zJj;decide) (by decide +kernel))) (zP qi (zD) (pv 1))) (zD)))
  (zG (zL (zP qh (zP qi (pv 3) (zD)) (pv 2))))),?_⟩
 walk_at "st"
 walk_at "rd"
 all_goals exact q _ (emod_nonneg _ (by omega)) (emod_lt_of_pos _ hm)
def VaA (H:Hp) (v:V):Fd->Prop
 | .num _ _ _ _ _ _ _ _=>∃ (p:Addr) (u w:Int),v = .ref p/\H p=some (.tup [.int u,.int w])/\GrB u w/\Int.gcd u w=1
 | _=>∃ t:List Nat,v = .str (T t)/\t.length<=60
theorem Wh {sg:List Nat} {t:List Nat} (hl:t.length<=400) : ∃ r,Co1 H (.word sg lo hi) (.str (T t)) r:=by
 by_cases iw:Isw sg lo hi t
 ·exact ⟨_,.word hl iw⟩
 ·exact ⟨_,.noword (.inr ⟨t,rfl,hl,iw⟩)⟩
theorem zDM {ns:Ce} {t:List Nat} (hl:t.length<=400) : ∃ r,Co1 H (.cho ns) (.str (T t)) r:=by
 by_cases hm:t ∈ ns
 ·exact ⟨_,.cho hl hm⟩
 ·exact ⟨_,.nocho (.inr ⟨t,rfl,hl,hm⟩)⟩
theorem VaA.co {d:Fd} (h:VaA H v d) : ∃ r,Co1 H d v r:=by
 cases d with
 | num fg pl b sn z m pt wy =>
  obtain ⟨p,u,w,rfl,hp,gb,gc⟩:=h
  by_cases lim:VG fg pl b (zBU wy u w (b ^ pl.toNat))
  ·exact ⟨_,.num hp gb gc rfl lim⟩
  ·exact ⟨_,.great hp gb gc lim⟩
 | word sg lo hi =>
  obtain ⟨t,rfl,hl⟩:=h
  exact Wh (by omega)
 | cho ns =>
  obtain ⟨t,rfl,hl⟩:=h
  exact zDM (by omega)
def xt (K:W.Frag):Sp:=fun vs H Q _=>∃ (p:Addr) (c wd:Int) (f:Nat) (x:Str) (st:Bool) (fg pl b:Int) (sn:Str) (z:Int) (m pt:Nat) (wy:Str),vs=[.ref p,.int c]/\Xu H p wd f x st (.num fg pl b sn z m pt wy) /\ ∀ v H',zT H H'->VaA H' v (.num fg pl b sn z m pt wy)->Q v H'
include Z in
theorem QN:Has P w K mg base "_law_number_value" 3 ["_law_spec_here", "_law_cell"] (xt K):=by
 refine jm Z.kn Z.bU (l2N (by intros;rfl)) fun fq fd F=>?_
 refine F.ok z6 (fun vs H Q E=>?_) (fun _ _ _ s H vs Q E hr h=>?_)
 ·walk_at "ln"
 obtain ⟨p,c,wd,f,x,st,fg,pl,b,sn,z,m,pt,wy,rfl,D0,q⟩:=h
 refine ⟨_,zC (zM (i:=2) z6.nd rfl (Or.inl rfl) (zF (Jj Z) hr rfl (zA (zX zi (pv 0) (zD) (fun _ _=>rfl)) (zA (zX zi (pv 0) (zD) (fun _ _=>rfl)) (zB)))))
  (zC (zM (i:=3) z6.nd rfl (Or.inl rfl) (zF (Jj Z) hr rfl (zA (zX zi (pv 0) (zD) (fun _ _=>rfl)) (zA (zP zg (zX zi (pv 0) (zD) (fun _ _=>rfl)) (zF (zN Z) hr rfl (zA (pv 1) (zA (zD) (zA (zP zg (zX zi (pv 0) (zD) (fun _ _=>rfl)) (zD)) (zB)))))) (zB)))))
  (zC (zM (i:=4) z6.nd rfl (Or.inl rfl) (zF (WU Z) hr rfl (zA (pv 1) (zA (zD) (zA (pv 3) (zB))))))
  (zC (zu (zQ qb (zF (zN Z) hr rfl (zA (pv 1) (zA (zD) (zA (zD) (zB))))) (zD) (zS _)) (zG (zM (i:=4) z6.nd rfl (Or.inl rfl) (zK (xm rfl) Z.au rfl YF (zA (zD) (zA (zP qt (pv 3) (zF (zN Z) hr rfl (zA (pv 1) (zA (zD) (zA (zD) (zB)))))) (zB)))))) (zU))
  (zC (zu (zQ qb (zF (zN Z) hr rfl (zA (pv 1) (zA (zD) (zA (zD) (zB))))) (zD) (zS _)) (zG (zM (i:=4) z6.nd rfl (Or.inl rfl) (zP qt (zD) (pv 4)))) (zU))
  (zC (zM (i:=5) z6.nd rfl (Or.inl rfl) (zX zp (zl (zA (zD) (zA (zD) (zA (zP zg (zD) (zF (zN Z) hr rfl (zA (pv 1) (zA (zD) (zA (zD) (zB)))))) (zB))))) (zF (zN Z) hr rfl (zA (pv 1) (zA (zD) (zA (zD) (zB))))) (fun _ _=>rfl)))
  (zG (zL (zF (Vg Z) hr rfl (zA (zP zg (zP qi (pv 4) (pv 5)) (zF (zN Z) hr rfl (zA (pv 1) (zA (zD) (zA (pv 5) (zB)))))) (zA (zP qi (pv 2) (pv 5)) (zB))))))))))),?_⟩
 walk_at "st"
 cases D0 with
 | num e ok =>
  have o1:=ok.fg1;have o2:=ok.fg2;have o3:=ok.pl1;have o4:=ok.pl2;have o5:=ok.b1;have o6:=ok.b2
  have pw:=pw6 (b:=b) (t:=pl) o5 o6 o4
  walk_at "rd"
  rename_i j j0 j1
  have pL:=zBX o5 o6 (pl+j).toNat
  have pM:=WB (n:=(pl+j).toNat) (m:=18) (by omega)
  have p18:(16:Int) ^ 18=4722366482869645213696:=by decide
  refine zGX (by decide) (by decide) (by omega) fun s0 s1 s2=>?_
  have W1:b ^ (pl+j).toNat<=4722366482869645213696:=by omega
  replace pL:=pL.1
  generalize b ^ (pl+j).toNat=W at *
  clear pM p18
  refine Xf (fun σ' H'=>σ'=[some (.ref p),some (.int c),some (.int (b ^ pl.toNat)),some (.int W),some (.int s0),none]/\H'=H) ?ja (fun R hR=>hR _ _ ⟨rfl,rfl⟩)
  rintro σ' H' ⟨rfl,rfl⟩
  refine Xf (fun σ' H1=>∃ s:Int,σ'=[some (.ref p),some (.int c),some (.int (b ^ pl.toNat)),some (.int W),some (.int s),none]/\H1=H'/\0<=s/\s<=W) ?jb (fun R hR=>?jc)
  case jc =>
   walk_at "rd"
   all_goals exact hR _ _ ⟨_,rfl,rfl,by omega,by omega⟩
  rintro σ' H' ⟨s3,rfl,rfl,s4,s5⟩
  refine Xf (fun σ' H1=>∃ s:Int,σ'=[some (.ref p),some (.int c),some (.int (b ^ pl.toNat)),some (.int W),some (.int s),none]/\H1=H' /\ -W<=s/\s<=W) ?jd (fun R hR=>?je)
  case je =>
   walk_at "rd"
   all_goals exact hR _ _ ⟨_,rfl,rfl,by omega,by omega⟩
  rintro σ' H' ⟨s6,rfl,rfl,s7,s8⟩
  walk_at "rd"
  rename_i v1 h10 h11 p1 H1 g1 n1 e1 v2 h20 h21
  refine km (fun k=>1<=k/\k<=51) e1 (by omega) (by show _ < (3:Int);omega) (by simp only [mem_cons,not_mem_nil,or_false];rintro v (rfl | rfl | rfl) <;> exact ⟨_,rfl,by omega,by omega⟩) fun k hk=>?_
  have m1:s6*k<=4722366482869645213696*51:=Int.le_trans (Int.mul_le_mul_of_nonneg_right (by omega) (by omega)) (Int.mul_le_mul_of_nonneg_left hk.2 (by decide))
  have m2 : -4722366482869645213696*51<=s6*k:=by
   have:=Int.le_trans (Int.mul_le_mul_of_nonneg_right (show -s6<=4722366482869645213696 by omega) (show 0<=k by omega)) (Int.mul_le_mul_of_nonneg_left hk.2 (by decide))
   rw [Int.neg_mul] at this;omega
  have m3:b ^ pl.toNat*k<=16777216*51:=mul_le_mul pw.2 hk.2 (by omega) (by decide)
  have m4:1<=b ^ pl.toNat*k:=by
   have:=mul_le_mul pw.1 hk.1 (by decide) (by omega)
   omega
  walk_at "rd"
  rename_i v3 h30 h31
  generalize b ^ pl.toNat*k=B at *
  generalize s6*k=S at *
  refine zEd (by omega) (by omega) fun p2 H2 g2 e2=>q _ _ (g1.trans g2) ⟨p2,_,_,rfl,e2,zBi (by omega) (by omega) (by omega) (by omega),zAM (by omega)⟩
theorem Xv {pt:Nat} (h:Xu H p wd f x st (.num fg pl b sn z m pt wy)) (q : ∀ v H',zT H H'->VaA H' v (.num fg pl b sn z m pt wy)->Q v H'):xt K ([.ref p,.int c]++[]) H Q E:=⟨p,c,wd,f,x,st,fg,pl,b,sn,z,m,pt,wy,rfl,h,q⟩
def KH (K:W.Frag):Sp:=fun vs H Q _=>∃ (p:Addr) (c wd:Int) (f:Nat) (x:Str) (st:Bool) (d:Fd),vs=[.ref p,.int c]/\Xu H p wd f x st d /\ ∀ v H',zT H H'->VaA H' v d->Q v H'
include Z in
theorem WH:Has P w K mg base "_law_value" 4 ["_law_spec_here", "_law_cell"] (KH K):=by
 refine jm Z.kn Z.bV (l2N (by intros;rfl)) fun fq fd F=>?_
 refine F.ok Q9 (fun vs H Q E=>?_) (fun _ _ _ s H vs Q E hr h=>?_)
 ·walk_at "ln"
 obtain ⟨p,c,wd,f,x,st,d,rfl,D0,q⟩:=h
 refine ⟨_,zC (zu (zQ qb (zX zi (pv 0) (zD) (fun _ _=>rfl)) (zd) (zS _)) (zG (zL (zF (QN Z) hr rfl (zA (pv 0) (zA (pv 1) (zB)))))) (zU))
  (zC (zu (zQ qb (zX zi (pv 0) (zD) (fun _ _=>rfl)) (zd) (zS _)) (zG (zL (zX zp (zP jf (zX zi (pv 0) (zD) (fun _ _=>rfl)) (zl (zA (xU (l:=[126,48,126]) (by decide +kernel)) (zB)))) (zF (zN Z :) hr rfl (zA (pv 1) (zA (zD) (zA (zP zg (zK qj Z.ao rfl qD (zA (zX zi (pv 0) (zD) (fun _ _=>rfl)) (zB))) (zD)) (zB))))) (fun _ _=>rfl)))) (zU))
  (zC (zM (i:=2) Q9.nd rfl (Or.inl rfl) (zK (xm rfl) Z.au rfl YF (zA (zD) (zA (zP qt (zP zg (zX zi (pv 0) (zD) (fun _ _=>rfl)) (zF (zN Z :) hr rfl (zA (pv 1) (zA (zD) (zA (zP zg (zP qt (zX zi (pv 0) (zD) (fun _ _=>rfl)) (zX zi (pv 0) (zD) (fun _ _=>rfl))) (zD)) (zB)))))) (zD)) (zB)))))
  (zG (zL (yz PySem.F.plainAttrs_str PySem.F.slot_str_join PySem.F.type_str_join JX (xU (l:=[]) (by decide +kernel)) (zA (jV (cl:=[("_law_spec_here", s.heap.objs.size+1+0),("_law_cell", s.heap.objs.size+1+1)]) (fr:=["_law_cell", "_law_spec_here"]) (is:=[1,0]) rfl rfl ⟨rfl,⟨rfl,trivial⟩⟩ rfl ⟨⟨rfl,rfl,Or.inl rfl⟩,⟨⟨rfl,rfl,Or.inl rfl⟩,trivial⟩⟩ (by decide) (by decide +kernel) rfl (by decide +kernel) rfl (jr rfl Z.ap (zA (pv 2) (zB))) (fun _ _ _ _=>qz) (fun _ _ _ _=>zX x0 (zX (j7 (K:=K) rfl) (pv 2) (zD) (fun _ _=>rfl)) (zF (zN Z :) hr rfl (zA (pv 1) (zA (zP zg (zD) (pv 0)) (zA (zK zr Z.ao rfl qD (zA (zX (j7 (K:=K) rfl) (pv 2) (zD) (fun _ _=>rfl)) (zB))) (zB))))) (fun _ _=>rfl))) (zB))))))),?_⟩
 walk_at "st"
 cases D0 with
 | num e ok =>
  walk_at "rd"
  exact Xv (.num e ok) q
 | @word sg lo hi e ok =>
  have o1:=ok.s1;have o2:=ok.s2;have o3:=ok.lo1;have o4:=ok.lo2;have o5:=ok.hi2
  walk_at "rd"
  rename_i v1 h10 h11 k1 hk1
  have k2:0<=k1/\k1<=40:=by omega
  refine Xg (by omega) (by omega) (Nat.le_of_lt (qK (by omega))) (fun i ys H'=>H'=H /\ ∃ cs:List Nat,cs.length=i/\ys=tsV (cs.map fun c=>[c])) ⟨rfl,[],rfl,rfl⟩ (fun i ys H' _ zz=>by obtain ⟨_,cs,h,e⟩:=zz;rw [e,zo,length_map,h];omega) ?_ ?_
  ·rintro i ys H' hi ⟨rfl,cs,l1,rfl⟩
   walk_at "rd"
   rename_i v2 _ _
   refine nxC hi ⟨rfl,cs++[sg.getD v2.toNat 0],by rw [length_append,l1];rfl,?_⟩
   rw [map_append,<- xz];rfl
  ·rintro ys H' ⟨rfl,cs,l1,rfl⟩ p1 H1 g1 n1 e1
   walk_at "rd"
   refine VL e1 (by rw [fl1,length_map];show cs.length+cs.length*0<=_;omega) ?_
   rw [show Lt (T [])=[] from rfl,zDH,fl1]
   exact q _ _ g1 ⟨cs,rfl,by omega⟩
 | @cho L ns e eL ok =>
  have o1:=ok.n1;have o2:=ok.n2
  walk_at "rd"
  rename_i p1 H1 g1 n1 e1 p2 H2 g2 n2 e2 v1 h10 h11
  refine xR (SqL.of e2) h10 (by rw [zo,length_append];show _ < ((ns.length+1:Nat):Int);omega) fun y hy=>?_
  obtain ⟨t,ht,rfl⟩:=yR hy
  refine q _ _ (g1.trans g2) ⟨t,rfl,?_⟩
  rcases List.mem_append.mp (mem_of_getElem? ht) with h | h
  ·have:=ok.len t h;omega
  ·rw [List.mem_singleton.mp h];decide
def zAh (K:W.Frag):Sp:=fun vs H Q _=>∃ (p:Addr) (c:Int) (v:V) (wd:Int) (f:Nat) (x:Str) (st:Bool) (d:Fd),vs=[.ref p,.int c,v]/\Xu H p wd f x st d/\VaA H v d /\ ∀ v' r H',zT H H'->Co1 H' d v' r->Q v' H'
include Z in
theorem zBe:Has P w K mg base "_law_odd" 3 ["_law_spec_here", "_law_cell", "_law_value_here"] (zAh K):=by
 refine jm Z.kn Z.bW (l3N (by intros;rfl)) fun fq fd F=>?_
 refine F.ok ZQ (fun vs H Q E=>?_) (fun _ _ _ s H vs Q E hr h=>?_)
 ·walk_at "ln"
 obtain ⟨p,c,v,wd,f,x,st,d,rfl,D0,V0,q⟩:=h
 refine ⟨_,zC (zM (i:=3) ZQ.nd rfl (Or.inl rfl) (zl (zA (Kp) (zA (zD) (zA (xE) (zA (zl (zB)) (zA (ji (zA (zD) (zA (zD) (zB)))) (zA (ji (zA (xE) (zA (zD) (zB)))) (zA (ji (zA (zD) (zA (zD) (zB)))) (zA (xU (l:=[126,32,126]) (by decide +kernel)) (zB) xA) Y7) Y7) Y7) zFn) xA) xA) xA)))
  (zC (zM (i:=4) ZQ.nd rfl (Or.inl rfl) (zF (zN Z) hr rfl (zA (pv 1) (zA (zD) (zA (zD) (zB))))))
  (zC (zu (PW.pt (yC (zQ qb (zX zi (pv 0) (zD) (fun _ _=>rfl)) (zd) (zS _)) (xW (zQ kM (pv 4) (zD) (zS _))))) (zG (zL (ji (zA (zP qi (zD) (zX zi (pv 2) (zD) (fun _ _=>rfl))) (zA (zP qi (zD) (zX zi (pv 2) (zD) (fun _ _=>rfl))) (zB)))))) (zU))
  (zC (zu (PW.pt (yC (zQ qb (zX zi (pv 0) (zD) (fun _ _=>rfl)) (zd) (zS _)) (yC (zQ QH (pv 2) (xU (l:=[]) (by decide +kernel)) (zS _)) (xW (zQ kM (pv 4) (zD) (zS _)))))) (zC (zM (i:=5) ZQ.nd rfl (Or.inl rfl) (zF (zN Z) hr rfl (zA (pv 1) (zA (zD) (zA (zK zr Z.ao rfl qD (zA (pv 2) (zB))) (zB))))))
  (zG (zL (zP jH (zP jH (zk jL (pv 2) (qG) (zm (pv 5))) (zF (j9 Z) hr rfl (zA (pv 1) (zA (zD) (zB))))) (zk jL (pv 2) (zm (zP zg (pv 5) (zD))) (qG)))))) (zU))
  (zC (zu (PW.pt (yC (zQ qb (zX zi (pv 0) (zD) (fun _ _=>rfl)) (zd) (zS _)) (xW (zQ kM (pv 4) (zD) (zS _))))) (zG (zL (zP jH (pv 2) (zF (j9 Z) hr rfl (zA (pv 1) (zA (zD) (zB))))))) (zU))
  (zG (zL (zX zp (pv 3) (zP qh (pv 4) (zD)) (fun _ _=>rfl)))))))),?_⟩
 walk_at "st"
 walk_at "rd"
 rename_i p1 H1 g1 n1 e1 p2 H2 g2 e2 p3 H3 g3 e3 p4 H4 g4 e4 pL HL gL nL eL wy w0 w1
 have g4L:=g4.trans gL
 have g3L:=g3.trans g4L
 have g2L:=g2.trans g3L
 have gg:=g1.trans g2L
 have last : ∀ y ∈ [V.non,V.int 5,V.bl true,V.ref p1,V.ref p2,V.ref p3,V.ref p4,V.str (T [126,32,126])],Q y HL:=by
  have ee : ∀ y,NF HL y->(NoI HL y "str" \/ y = .str (T [126,32,126]))->Q y HL:=fun y a b=>by
   have co : ∀ d',d=d' -> ∃ r,Co1 HL d' y r:=by
    intro d' _
    cases d' with
    | num=>exact ⟨_,.nonum a⟩
    | word =>
     rcases b with b | rfl
     ·exact ⟨_,.noword (.inl b)⟩
     ·exact Wh (by decide)
    | cho =>
     rcases b with b | rfl
     ·exact ⟨_,.nocho (.inl b)⟩
     ·exact zDM (by decide)
   obtain ⟨r,h⟩:=co d rfl
   exact q y r HL gg h
  simp only [mem_cons,not_mem_nil,or_false]
  rintro y (rfl | rfl | rfl | rfl | rfl | rfl | rfl | rfl)
  ·exact ee _ (.no ⟨_,.non,by decide +kernel⟩) (.inl ⟨_,.non,by decide +kernel⟩)
  ·exact ee _ (.no ⟨_,.int _,by decide +kernel⟩) (.inl ⟨_,.int _,by decide +kernel⟩)
  ·exact ee _ (.no ⟨_,.bl _,by decide +kernel⟩) (.inl ⟨_,.bl _,by decide +kernel⟩)
  ·exact ee _ (.no ⟨_,.lst (g2L.at e1),by decide +kernel⟩) (.inl ⟨_,.lst (g2L.at e1),by decide +kernel⟩)
  ·exact ee _ (.bad (g3L.at e2) (.inr (by decide))) (.inl ⟨_,.tup (g3L.at e2),by decide +kernel⟩)
  ·exact ee _ (.top (g4L.at e3)) (.inl ⟨_,.tup (g4L.at e3),by decide +kernel⟩)
  ·exact ee _ (.bad (gL.at e4) (.inl (by decide))) (.inl ⟨_,.tup (gL.at e4),by decide +kernel⟩)
  ·exact ee _ (.no ⟨_,.str _,by decide +kernel⟩) (.inr rfl)
 clear g1 g2 g3 g4 n1 nL e1 e2 e3 e4 g4L g3L g2L gL
 have l8:([V.non,V.int 5,V.bl true,V.ref p1,V.ref p2,V.ref p3,V.ref p4,V.str (T [126,32,126])]:List V).length=8:=rfl
 generalize [V.non,V.int 5,V.bl true,V.ref p1,V.ref p2,V.ref p3,V.ref p4,V.str (T [126,32,126])]=us at *
 have D1:=D0.same gg
 cases D1 with
 | num e ok =>
  obtain ⟨pv,u,w,rfl,hp,gb,gc⟩:=V0
  have hp1:=gg.at hp
  walk_at "rd"
  ·rename_i p5 H5 g5 e5
   exact q _ _ _ (gg.trans g5) (.nonum (.bad e5 (.inr (by rw [Int.gcd_mul_left,gc];decide))))
  ·exact xR (SqL.of eL) (by omega) (by omega) fun y hy=>last y (mem_of_getElem? hy)
 | @word sg lo hi e ok =>
  obtain ⟨t,rfl,hl⟩:=V0
  walk_at "rd"
  ·rename_i hc1 hc2
   have t0:t≠[]:=by simpa using hc1
   have t1:=List.length_pos_iff.mpr t0
   refine zCJ (by decide) (by omega) fun v1 h10 h11=>?_
   walk_at "rd"
   rename_i c1 _
   obtain ⟨r,h⟩:=Wh (H:=HL) (sg:=sg) (lo:=lo) (hi:=hi) (show (List.take v1.toNat t++[c1]++List.drop (v1+1).toNat t).length<=400 by simp only [length_append,length_take,length_drop,length_singleton];omega)
   exact q _ r _ gg h
  ·exact xR (SqL.of eL) (by omega) (by omega) fun y hy=>last y (mem_of_getElem? hy)
  ·exact xR (SqL.of eL) (by omega) (by omega) fun y hy=>last y (mem_of_getElem? hy)
 | @cho L ns e eL' ok =>
  obtain ⟨t,rfl,hl⟩:=V0
  walk_at "rd"
  ·rename_i c1 _
   obtain ⟨r,h⟩:=zDM (H:=HL) (ns:=ns) (show (t++[c1]).length<=400 by rw [length_append,length_singleton];omega)
   exact q _ r _ gg h
  ·exact xR (SqL.of eL) (by omega) (by omega) fun y hy=>last y (mem_of_getElem? hy)
theorem zKq {A:Around} {k:Nat} {y:Addr} (hr:QW k y A):A.units+20 < cLine:=by have:=hr.un;omega
structure Kt3 (K:W.Frag) (C cV cG cT:Addr) (b1 b2 b3:Bool):Prop where
 k1:W.kitOne K (.ref C) (.ref cV)=some b1
 k2:W.kitOne K (.ref C) (.ref cG)=some b2
 k3:W.kitOne K (.ref C) (.ref cT)=some b3
def ZJ (K:W.Frag) (cV cG cT:Addr):SpY:=fun y vs H Q=>vs=[.ref y] /\ ∃ (C:Addr) (n:Nat),H y=some (.ext (ExC y C))/\Exc K C/\((C=cV/\n=0)\/(C=cG/\n=1)\/(C=cT/\n=2)) /\ ∀ H',zT H H'->Q (.int n) H'
include Z in
theorem Xb:zKY P w K mg base "_law_class" 1 ["_law_e"] (ZJ K zY zW za):=by
 have fV:Kt3 K zY zY zW za true false false:=⟨Z.Va,Z.Vb,Z.Vc⟩
 have fG:Kt3 K zW zY zW za false true false:=⟨Z.Ga,Z.Gb,Z.Gc⟩
 have fT:Kt3 K za zY zW za false false true:=⟨Z.Ta,Z.Tb,Z.Tc⟩
 refine zKH Z.kn Z.bX (l1N (by intros;rfl)) fun fq fd F=>?_
 refine F.okY Qz (fun y vs H Q=>?_) (fun _ _ _ s H vs Q y hr h=>?_)
 ·walk_at "ln"
 obtain ⟨rfl,C,n,ex0,exc,hw,q⟩:=h
 refine ⟨_,zC (zM (i:=1) Qz.nd rfl (Or.inl rfl) (zl (zA (zK (k7 (K:=K) rfl) Z.aq rfl zf (zA (pv 0) (zA (qy rfl Z.ag (v:=.ref zY) rfl) (zB)))) (zA (zK (k7 (K:=K) rfl) Z.aq rfl zf (zA (pv 0) (zA (qy rfl Z.ah (v:=.ref zW) rfl) (zB)))) (zA (zK (k7 (K:=K) rfl) Z.aq rfl zf (zA (pv 0) (zA (qy rfl Z.ai (v:=.ref za) rfl) (zB)))) (zB))))))
  (zC (zu (zQ QH (yz PySem.F.plainAttrs_list PySem.F.slot_list_count PySem.F.type_list_count (zB3 (zKq hr)) (pv 1) (zA (xE) (zB))) (zD) (zS _)) (zG (zL (zD))) (zU))
  (zG (zL (yz PySem.F.plainAttrs_list PySem.F.slot_list_index PySem.F.type_list_index Kw (pv 1) (zA (xE) (zB)))))),?_⟩
 walk_at "st"
 have hb : ∃ b1 b2 b3:Bool,Kt3 K C zY zW za b1 b2 b3/\([PyData.bool b1,.bool b2,.bool b3].countP fun y=>y.eqv (.bool true))=1/\[b1,b2,b3][n]? = some true/\(∀ m,m < n->[b1,b2,b3][m]? ≠ some true)/\n < 1000:=by
  rcases hw with ⟨rfl,rfl⟩ | ⟨rfl,rfl⟩ | ⟨rfl,rfl⟩
  ·exact ⟨_,_,_,fV,by simp [PyData.eqv],rfl,fun m hm=>absurd hm (Nat.not_lt_zero m),by decide⟩
  ·exact ⟨_,_,_,fG,by simp [PyData.eqv],rfl,fun m hm=>by rw [show m=0 by omega];decide,by decide⟩
  ·exact ⟨_,_,_,fT,by simp [PyData.eqv],rfl,fun m hm=>by rcases (show m=0\/m=1 by omega) with rfl | rfl <;> decide,by decide⟩
 clear fV fG fT hw
 obtain ⟨b1,b2,b3,ff,cp,j1,j2,j3⟩:=hb
 walk_at "rd"
 refine KL ex0 exc (.inr ⟨_,rfl⟩) ff.k1 ?_
 walk_at "rd"
 refine KL ex0 exc (.inr ⟨_,rfl⟩) ff.k2 ?_
 walk_at "rd"
 refine KL ex0 exc (.inr ⟨_,rfl⟩) ff.k3 ?_
 walk_at "rd"
 rename_i p1 H1 g1 n1 e1
 refine ⟨p1,_,_,[.bool b1,.bool b2,.bool b3],.bool true,rfl,rfl,e1,.cons (.bl _) (.cons (.bl _) (.cons (.bl _) .nil)),.bl _,by simp [PyData.canLayAll0,PyData.canLay0],by simp [PyData.canLay0],by simp [PyData.depth],?_⟩
 rw [cp]
 walk_at "rd"
 exact ⟨p1,[b1,b2,b3],n,rfl,rfl,e1,j1,j2,j3,q _ g1⟩
def ptV (wd:Int) (f:Nat) (x:Str) (st:Bool):List Nat × List Nat ⊕ Bool->V
 | .inl p=>if (st && decide (wd < (p.1.length:Int)))=true then .int 2 else .str (T (Jw p.2 p.1 wd f x))
 | .inr g=>.int (bif g then 1 else 0)
def zAw (K:W.Frag) (cN cW cC cT cV cG:Addr):Sp:=fun vs H Q _=>∃ (o:Addr) (v:V) (wd:Int) (f:Nat) (x:Str) (st:Bool) (d:Fd) (r:List Nat × List Nat ⊕ Bool),vs=[.ref o,v]/\xv K H o cN cW cC wd f x st d/\Co1 H d v r /\ ∀ H',zT H H'->Q (ptV wd f x st r) H'
include Z in
theorem KY:Has P w K mg base "_law_put" 7 ["_law_form_here", "_law_value_here"] (zAw K zE zI zJ za zY zW):=by
 have eV:Exc K zY:=Z.b8
 have eG:Exc K zW:=Z.b9
 have eT:Exc K za:=Z.ca
 have xV:W.exmOne K (.ref zY) (.ref zn)=some true:=Z.Vx
 have xG:W.exmOne K (.ref zW) (.ref zn)=some true:=Z.Gx
 have xT:W.exmOne K (.ref za) (.ref zn)=some true:=Z.Tx
 refine jm Z.kn Z.bY (l2N (by intros;rfl)) fun fq fd F=>?_
 refine F.ok YS (fun vs H Q E=>?_) (fun _ _ _ s H vs Q E hr h=>?_)
 ·walk_at "ln"
 obtain ⟨o,v,wd,f,x,st,d,r,rfl,D0,V0,q⟩:=h
 refine ⟨_,zG (Y4 (i:=2) rfl rfl rfl (fun _ _ _=>zG (zL (j6 (XC (ym (xl Z) in0) Z.cg hr (pv 0) (zA (pv 1) (zB))) (j6 (XC (ym (xl Z) in1) Z.cj hr (pv 0) (zA (pv 1) (zB))) (XC (ym (xl Z) in2) Z.cm hr (pv 0) (zA (pv 1) (zB))))))) rfl Z.ab YS.nd rfl rfl (fun _=>zG (zL (zAA (Xb Z) hr rfl (zA (pv 2) (zB)))))),?_⟩
 walk_at "st"
 walk_at "rd"
 have fin : ∀ (C:Addr) (n:Nat) (H2:Hp),zT H H2->Exc K C->W.exmOne K (.ref C) (.ref zn)=some true->((C=zY/\n=0)\/(C=zW/\n=1)\/(C=za/\n=2))->ptV wd f x st r = .int n -> ∃ C',Value.ref C = .ref C'/\Exc K C'/\W.exmOne K (.ref C') (.ref zn)=some true /\ ∀ y,H2 y=none->zJy (zAO (ZJ K zY zW za) y (zAg (zIu 2) zHB)) { nx:=fun _ _=>False,rt:=Q } (([some (V.ref o),some v,none]:St).set 2 (some (.ref y))) (upd H2 y (.ext (ExC y C'))):=by
  intro C n H2 g2 he hx hs ha
  refine ⟨C,rfl,he,hx,fun y hy=>?_⟩
  have g3:zT H2 (upd H2 y (.ext (ExC y C))):=jP hy _
  have ey:upd H2 y (.ext (ExC y C)) y=some (.ext (ExC y C)):=zR
  generalize upd H2 y (.ext (ExC y C))=H3 at g3 ey ⊢
  walk_at "rd"
  refine zCH ?_
  walk_at "rd"
  refine ⟨rfl,C,n,ey,he,hs,fun H4 g4=>?_⟩
  have q':=q _ (g2.trans (g3.trans g4))
  rw [ha] at q'
  exact q'
 refine Wb [some (V.ref o),some v,none] ?_
 walk_at "rd"
 refine zLj (vs:=[v]) D0 (by decide +kernel) (by walk_at "wk") (fun Q' h=>by walk_at "rd"; exact h) (fun Q' h=>by walk_at "rd"; exact h) (W9 ⟨o,v,wd,f,x,st,d,r,rfl,D0,V0,fun H1 g1=>?_⟩)
 cases r with
 | inr g =>
  cases g with
  | true=>exact fin _ 1 _ g1 eG xG (.inr (.inl ⟨rfl,rfl⟩)) rfl
  | false=>exact fin _ 0 _ g1 eV xV (.inl ⟨rfl,rfl⟩) rfl
 | inl p =>
  have q':=q _ g1
  show (if _ then _ else _)
  split
  ·rename_i hc
   exact fin _ 2 _ g1 eT xT (.inr (.inr ⟨rfl,rfl⟩)) (if_pos hc)
  ·rename_i hc
   rw [show ptV wd f x st (.inl p)=_ from if_neg hc] at q'
   walk_at "rd"
   exact q'
def lkV (wd:Int) (st:Bool) (d:Fd) (us:List V):List Nat × List Nat ⊕ Bool->Prop
 | .inl p=>if (st && decide (wd < (p.1.length:Int)))=true then us=[.str "refused", .int 2] else ∃ i:Nat,LkF wd st d p.1 i/\us=[.str "told", .int i]
 | .inr g=>us=[.str "refused", .int (bif g then 1 else 0)]
def K3 (K:W.Frag) (cN cW cC cT cV cG:Addr):Sp:=fun vs H Q _=>∃ (o:Addr) (v:V) (wd:Int) (f:Nat) (x:Str) (st:Bool) (d:Fd) (r:List Nat × List Nat ⊕ Bool),vs=[.ref o,v]/\xv K H o cN cW cC wd f x st d/\Co1 H d v r /\ ∀ p us H',zT H H'->H' p=some (.tup us)->lkV wd st d us r->Q (.ref p) H'
include Z in
theorem zAz:Has P w K mg base "_law_look" 8 ["_law_form_here", "_law_value_here"] (K3 K zE zI zJ za zY zW):=by
 have eV:Exc K zY:=Z.b8
 have eG:Exc K zW:=Z.b9
 have eT:Exc K za:=Z.ca
 have xV:W.exmOne K (.ref zY) (.ref zn)=some true:=Z.Vx
 have xG:W.exmOne K (.ref zW) (.ref zn)=some true:=Z.Gx
 have xT:W.exmOne K (.ref za) (.ref zn)=some true:=Z.Tx
 refine jm Z.kn Z.bZ (l2N (by intros;rfl)) fun fq fd F=>?_
 refine F.ok XE (fun vs H Q E=>?_) (fun _ _ _ s H vs Q E hr h=>?_)
 ·walk_at "ln"
 obtain ⟨o,v,wd,f,x,st,d,r,rfl,D0,V0,q⟩:=h
 refine ⟨_,zG (Y4 (i:=2) rfl rfl rfl (fun _ _ _=>zG (zL (ji (zA (zd) (zA (Z5 (Yg Z) hr rfl (zA (pv 0) (zA (pv 1) (zB)))) (zB)))))) rfl Z.ab XE.nd rfl rfl (fun _=>zG (zL (ji (zA (zd) (zA (zAA (Xb Z) hr rfl (zA (pv 2) (zB))) (zB))))))),?_⟩
 walk_at "st"
 walk_at "rd"
 have fin : ∀ (C:Addr) (n:Nat) (H2:Hp),zT H H2->Exc K C->W.exmOne K (.ref C) (.ref zn)=some true->((C=zY/\n=0)\/(C=zW/\n=1)\/(C=za/\n=2))->lkV wd st d [.str "refused", .int n] r -> ∃ C',Value.ref C = .ref C'/\Exc K C'/\W.exmOne K (.ref C') (.ref zn)=some true /\ ∀ y,H2 y=none->zJy (zKX (zAg (tC (V.str "refused")) (zAg (zAO (ZJ K zY zW za) y (zAg (zIu 2) zHB)) zHB))) { nx:=fun _ _=>False,rt:=Q } (([some (V.ref o),some v,none]:St).set 2 (some (.ref y))) (upd H2 y (.ext (ExC y C'))):=by
  intro C n H2 g2 he hx hs ha
  refine ⟨C,rfl,he,hx,fun y hy=>?_⟩
  have g3:zT H2 (upd H2 y (.ext (ExC y C))):=jP hy _
  have ey:upd H2 y (.ext (ExC y C)) y=some (.ext (ExC y C)):=zR
  generalize upd H2 y (.ext (ExC y C))=H3 at g3 ey ⊢
  walk_at "rd"
  refine zCH ?_
  walk_at "rd"
  refine ⟨rfl,C,n,ey,he,hs,fun H4 g4=>?_⟩
  walk_at "rd"
  rename_i p5 H5 g5 e5
  exact q _ _ _ (g2.trans (g3.trans (g4.trans g5))) e5 ha
 refine Wb [some (V.ref o),some v,none] ?_
 walk_at "rd"
 refine ⟨o,v,wd,f,x,st,d,r,rfl,D0,V0,fun H1 g1=>?_⟩
 cases r with
 | inr g =>
  cases g with
  | true=>exact fin _ 1 _ g1 eG xG (.inr (.inl ⟨rfl,rfl⟩)) rfl
  | false=>exact fin _ 0 _ g1 eV xV (.inl ⟨rfl,rfl⟩) rfl
 | inl p =>
  show (if _ then _ else _)
  split
  ·rename_i hc
   exact fin _ 2 _ g1 eT xT (.inr (.inr ⟨rfl,rfl⟩)) ((if_pos hc).mpr rfl)
  ·rename_i hc
   intro i li
   walk_at "rd"
   rename_i p5 H5 g5 e5
   refine q _ _ _ (g1.trans g5) e5 ?_
   show (if _ then _ else _)
   rw [if_neg hc]
   exact ⟨i,li,rfl⟩
def Jn (K:W.Frag) (cN cW cC:Addr):Sp:=fun vs H Q _=>∃ (o:Addr) (k:Nat) (t:List Nat) (wd:Int) (f:Nat) (x:Str) (st:Bool) (d:Fd),vs=[.ref o,.int k,.str (T t)]/\xv K H o cN cW cC wd f x st d/\k < (lks wd f x st d).length/\Asc t/\t.length<=300 /\ ¬ Fit ((lks wd f x st d).getD k []) t /\ ∀ H',zT H H'->Q (.bl true) H'
theorem zHq {o:Addr} {k:Nat} {t:List Nat} {d:Fd} (h1:xv K H o cN cW cC wd f x st d) (h2:k < (lks wd f x st d).length) (h3:Asc t) (h4:t.length<=300) (h5 : ¬ Fit ((lks wd f x st d).getD k []) t) (q : ∀ H',zT H H'->Q (.bl true) H'):Jn K cN cW cC ([.ref o,.int k,.str (T t)]++[]) H Q E:=⟨o,k,t,wd,f,x,st,d,rfl,h1,h2,h3,h4,h5,q⟩
include Z in
theorem zA6:Has P w K mg base "_law_none" 9 ["_law_form_here", "_law_at", "_law_text"] (Jn K zE zI zJ):=by
 have eX:Exc K qA:=Z.cb
 have xX:W.exmOne K (.ref qA) (.ref zn)=some true:=Z.Xx
 have kX:W.kitOne K (.ref qA) (.ref qA)=some true:=Z.Xk
 have kE:W.kitOne K (.ref qA) (.type "ValueError")=some true:=Z.Xe
 refine jm Z.kn Z.b0 (l3N (by intros;rfl)) fun fq fd F=>?_
 refine F.ok XH (fun vs H Q E=>?_) (fun _ _ _ s H vs Q E hr h=>?_)
 ·walk_at "ln"
 obtain ⟨o,k,t,wd,f,x,st,d,rfl,D0,hk,at',tl,nf,q⟩:=h
 refine ⟨_,zC (Y4 (i:=3) rfl rfl rfl (fun _ _ _=>zG (jB (Z5 (YV Z) hr rfl (zA (pv 0) (zA (pv 1) (zA (pv 2) (zB))))))) rfl Z.ab XH.nd rfl rfl (fun _=>zG (zL (Q8 (zK (k7 (K:=K) rfl) Z.aq rfl zf (zA (pv 3) (zA (qy rfl Z.aj (v:=.ref qA) rfl) (zB)))) (JF (zK (k7 (K:=K) rfl) Z.aq rfl zf (zA (pv 3) (zA (x3 rfl Z.aD Yn (v:=.ty "ValueError") rfl) (zB)))))))))
  (zG (zL (xE))),?_⟩
 walk_at "st"
 walk_at "rd"
 refine Wb [some (V.ref o),some (.int k),some (.str (T t)),none] ?_
 walk_at "rd"
 refine ⟨o,k,t,wd,f,x,st,d,rfl,D0,hk,at',tl,fun h=>absurd h nf,fun _ H1 g1=>⟨qA,rfl,eX,xX,fun y hy=>?_⟩⟩
 have g3:zT H1 (upd H1 y (.ext (ExC y qA))):=jP hy _
 have ey:upd H1 y (.ext (ExC y qA)) y=some (.ext (ExC y qA)):=zR
 generalize upd H1 y (.ext (ExC y qA))=H3 at g3 ey ⊢
 walk_at "rd"
 refine KL ey eX (.inr ⟨_,rfl⟩) kX ?_
 walk_at "rd"
 refine KL ey eX (.inl ⟨_,rfl⟩) kE ?_
 walk_at "rd"
 exact q _ (g1.trans g3)
open Classical in
noncomputable def vd (d:Fd) (c:List Nat):PyData:=match d with
 | .num fg pl b sn z m pt _=>if h : ∃ k:Int,VG fg pl b k/\c=jM pl b sn z m pt k then rD (b ^ pl.toNat) h.choose else .none
 | _=>sD c
theorem W6 {pt:Nat} (ok:kx fg pl b sn z m pt wy wd f x) (lim:VG fg pl b k):vd (.num fg pl b sn z m pt wy) (jM pl b sn z m pt k)=rD (b ^ pl.toNat) k:=by
 have h : ∃ k':Int,VG fg pl b k'/\jM pl b sn z m pt k=jM pl b sn z m pt k':=⟨k,lim,rfl⟩
 have e0:vd (.num fg pl b sn z m pt wy) (jM pl b sn z m pt k)=rD (b ^ pl.toNat) h.choose:=dif_pos h
 rw [e0]
 have hs:=h.choose_spec
 rw [ZR ok hs.1 lim hs.2.symm (XF ok)]
theorem zJM {d:Fd} (o:okS wd f x d) (h:VlA H v d ld rs):Dt K H v (vd d (ld++rs)):=by
 cases h with
 | @num p fg pl b sn z m pt wy k hv hp lim =>
  subst hv
  rw [<- qX,W6 (show kx fg pl b sn z m pt wy wd f x from o) lim]
  exact .tup (SqT.of hp) (.cons (.int _) (.cons (.int _) .nil))
 | word hv iw=>subst hv;exact .str _
 | cho hv hm=>subst hv;exact .str _
theorem zFF {d:Fd} (D:okS wd f x d) (h:CoL d (ld++rs) ld):ld.length<=2/\rs.length<=200/\Asc ld/\Asc rs:=by
 cases d with
 | num fg pl b sn z m pt wy =>
  obtain ⟨k,lim,e1,e2⟩:=h
  have e1':ld++rs=jM pl b sn z m pt k:=e1
  have e2':ld=stL sn (decide (k < 0)):=e2
  have er:rs=XA pl b sn z m pt k:=by rw [qX,e2'] at e1';exact append_cancel_left e1'
  rw [er,e2']
  let W:VlA (fun _=>some (.tup [.int (ZV k (b ^ pl.toNat)),.int (Zj k (b ^ pl.toNat))])) (.ref default) (.num fg pl b sn z m pt wy) (stL sn (decide (k < 0))) (XA pl b sn z m pt k):=.num rfl rfl lim
  exact W.ok D
 | word sg lo hi =>
  obtain ⟨iw,e⟩:=h
  have e':ld=[]:=e
  subst e'
  have W:VlA (fun _=>none) (.str (T rs)) (.word sg lo hi) [] rs:=.word rfl iw
  exact W.ok D
 | cho ns =>
  obtain ⟨hm,e⟩:=h
  have e':ld=[]:=e
  subst e'
  have W:VlA (fun _=>none) (.str (T rs)) (.cho ns) [] rs:=.cho rfl hm
  exact W.ok D
theorem zIX {d:Fd} (o:okS wd f x d) (h:CoL d (ld++rs) ld):(vd d (ld++rs)).canLay0=true/\(vd d (ld++rs)).depth<=18:=by
 obtain ⟨_,_,a1,a2⟩:=zFF o h
 have at':=zLZ (a1.app a2)
 cases d with
 | num fg pl b sn z m pt wy =>
  obtain ⟨k,lim,e1,_⟩:=h
  have e1':ld++rs=jM pl b sn z m pt k:=e1
  rw [e1',W6 (show kx fg pl b sn z m pt wy wd f x from o) lim]
  exact ⟨by simp [rD,PyData.canLay0,PyData.canLayAll0],by simp [rD,PyData.depth,PyData.depthAll]⟩
 | word sg lo hi=>exact ⟨by show (sD (ld++rs)).canLay0=true;simp [sD,PyData.canLay0,at'],by show (sD (ld++rs)).depth<=18;simp [sD,PyData.depth]⟩
 | cho ns=>exact ⟨by show (sD (ld++rs)).canLay0=true;simp [sD,PyData.canLay0,at'],by show (sD (ld++rs)).depth<=18;simp [sD,PyData.depth]⟩
theorem zKd {a b:List Nat} (h:T a=T b):a=b:=by have:=congrArg Lt h;rwa [VP,VP] at this
theorem zKb {d:Fd} {p p':List Nat × List Nat} (o:okS wd f x d) (h:CoL d (p.1++p.2) p.1) (h':CoL d (p'.1++p'.2) p'.1):(vd d (p.1++p.2)).eqv (vd d (p'.1++p'.2))=decide (p.1++p.2=p'.1++p'.2):=by
 have sd : ∀ a b:List Nat,(sD a).eqv (sD b)=decide (a=b):=fun a b=>by
  unfold sD
  rw [show (PyData.str (T a)).eqv (.str (T b))=(T a == T b) by simp [PyData.eqv]]
  by_cases e:a=b
  ·rw [e,decide_eq_true rfl];simp
  ·rw [decide_eq_false e];simpa using fun z=>e (zKd z)
 cases d with
 | num fg pl b sn z m pt wy =>
  obtain ⟨k,lim,e1,_⟩:=h
  obtain ⟨k',lim',e1',_⟩:=h'
  have ok:kx fg pl b sn z m pt wy wd f x:=o
  have e2:p.1++p.2=jM pl b sn z m pt k:=e1
  have e2':p'.1++p'.2=jM pl b sn z m pt k':=e1'
  rw [e2,e2',W6 ok lim,W6 ok lim']
  have o4:=ok.pl2;have o5:=ok.b1;have o6:=ok.b2
  have pw:=pw6 (b:=b) (t:=pl) o5 o6 o4
  unfold rD
  rw [show (PyData.tuple [.int (ZV k (b ^ pl.toNat)),.int (Zj k (b ^ pl.toNat))]).eqv (.tuple [.int (ZV k' (b ^ pl.toNat)),.int (Zj k' (b ^ pl.toNat))])=(ZV k (b ^ pl.toNat) == ZV k' (b ^ pl.toNat) && Zj k (b ^ pl.toNat) == Zj k' (b ^ pl.toNat)) by simp [PyData.eqv,PyData.eqvAll]]
  by_cases e:k=k'
  ·rw [e,decide_eq_true rfl];simp
  ·have nc:jM pl b sn z m pt k≠jM pl b sn z m pt k':=fun z=>e (ZR ok lim lim' z (XF ok))
   rw [decide_eq_false nc]
   cases hb:(ZV k (b ^ pl.toNat) == ZV k' (b ^ pl.toNat) && Zj k (b ^ pl.toNat) == Zj k' (b ^ pl.toNat)) with
   | false=>rfl
   | true =>
    rw [Bool.and_eq_true,beq_iff_eq,beq_iff_eq] at hb
    have s1:=QU (w:=wy) (k:=k) (S:=b ^ pl.toNat) (by omega)
    have s2:=QU (w:=wy) (k:=k') (S:=b ^ pl.toNat) (by omega)
    rw [hb.1,hb.2] at s1
    exact absurd (s1.symm.trans s2) e
 | word sg lo hi=>exact sd _ _
 | cho ns=>exact sd _ _
theorem zIT {o:Addr} {d:Fd} (h:xv K H o cN cW cC wd f x st d) {k:Nat} {t:List Nat} (hk:k < (lks wd f x st d).length) (ft:Fit ((lks wd f x st d).getD k []) t):Asc t/\t.length<=300:=by
 obtain ⟨p,⟨co,_,e⟩,_⟩:=zAF h hk ft
 obtain ⟨_,_,_,sx,w0,w1⟩:=h.bd
 have hf:f < 127:=by cases h with | num F ok=>exact ok.f | word F ok=>exact ok.f | cho F e ok=>exact ok.f
 obtain ⟨l1,l2,a1,a2⟩:=zFF h.okS co
 rw [<- e]
 exact zGf sx w0 w1 hf l1 l2 a1 a2
theorem zEf {pt:Nat} (ok:kx fg pl b sn z m pt wy wd f x) (hq:(ncs fg pl b sn z m pt)[j]? = some q) (hk:VG fg pl b k) (ix:ixK fg pl b k=j):q.1=chs (stL sn (decide (k < 0))):=by
 have o1:=ok.fg1;have o2:=ok.fg2;have o3:=ok.pl1;have o4:=ok.pl2;have o5:=ok.b1;have o6:=ok.b2
 have ef:(fg+pl).toNat=fg.toNat+pl.toNat:=by omega
 unfold VG at hk
 rw [ef] at hk
 have kd:=KJ (b:=b.toNat) (p:=pl.toNat) (fg:=fg.toNat) (n:=k.natAbs) (by omega) (by omega) (by omega) (by omega) (by omega) hk
 unfold ixK at ix
 rcases Wl hq with ⟨hj,rfl⟩ | ⟨hj,hl,rfl⟩
 ·have : ¬ k < 0:=fun z=>by rw [if_pos z] at ix;omega
  rw [decide_eq_false this];rfl
 ·have:k < 0:=Classical.byContradiction fun z=>by rw [if_neg z] at ix;omega
  rw [decide_eq_true this];rfl
theorem zEX {o:Addr} {d:Fd} (h:xv K H o cN cW cC wd f x st d) {t:List Nat} {p p':List Nat × List Nat} {k:Nat} (v:VoT wd f x st t d p) (v':VoT wd f x st t d p') (l:LkF wd st d (p.1++p.2) k) (l':LkF wd st d (p'.1++p'.2) k):p.1++p.2=p'.1++p'.2:=by
 obtain ⟨_,_,_,sx,w0,w1⟩:=h.bd
 obtain ⟨q,hq,f1⟩:=l
 obtain ⟨q',hq',f2⟩:=l'
 rw [hq] at hq';cases hq'
 have le:(p.1++p.2).length=(p'.1++p'.2).length:=f1.len.trans f2.len.symm
 have e:=v.2.2.trans v'.2.2.symm
 unfold Jw at e
 split at e
 ·rename_i hx
  rw [drop_left,drop_left] at e
  have l1:p.1.length=p'.1.length:=by
   cases h with
   | @num fg pl b sn z m pt wy F ok =>
    obtain ⟨g,g1,g2,g3⟩:=Qa (p:=Z2 wd st) (Ja (.num fg pl b sn z m pt wy))
    have kl:=(List.getElem?_eq_some_iff.mp hq).1
    have hj:(ncs fg pl b sn z m pt)[g k]? = some q:=(g2 k kl).2.symm.trans hq
    have one : ∀ r:List Nat × List Nat,CoL (.num fg pl b sn z m pt wy) (r.1++r.2) r.1->Fit (q.1++q.2) (r.1++r.2)->r.1.length=q.1.length:=fun r co ff=>by
     obtain ⟨k1,m1,i1,c1⟩:=(zBy ok hj).mp ff
     obtain ⟨k2,m2,c2,c3⟩:=co
     have:=ZR ok m1 m2 (c1.symm.trans c2) (XF ok)
     subst this
     have e3:r.1=stL sn (decide (k1 < 0)):=c3
     rw [zEf ok hj m1 i1,e3]
     unfold chs;rw [length_map]
    rw [one p v.1 f1,one p' v'.1 f2]
   | word F ok=>rw [show p.1=[] from v.1.2,show p'.1=[] from v'.1.2]
   | cho F e0 ok=>rw [show p.1=[] from v.1.2,show p'.1=[] from v'.1.2]
  obtain ⟨e1,e2⟩:=List.append_inj e l1
  rw [length_append,length_append] at le
  have l2:p.2.length=p'.2.length:=by omega
  unfold pad at e2
  rw [l1,l2] at e2
  have e3:=append_cancel_left (List.append_cancel_right e2)
  rw [e1,e3]
 ·rename_i hx
  have sx':y4 x:=sx.elim id fun z=>absurd z hx
  unfold pad at e
  rw [le] at e
  have e2:=List.append_cancel_right e
  exact append_cancel_left e2
theorem zD7 {o:Addr} {d:Fd} (h:xv K H o cN cW cC wd f x st d) {t:List Nat} {p:List Nat × List Nat} {k:Nat} (v:VoT wd f x st t d p) (l:LkF wd st d (p.1++p.2) k):k < (lks wd f x st d).length/\Fit ((lks wd f x st d).getD k []) t:=by
 obtain ⟨g,g1,g2,g3⟩:=Qa (p:=Z2 wd st) (Ja d)
 obtain ⟨q,hq,ff⟩:=l
 have hk:=(List.getElem?_eq_some_iff.mp hq).1
 have hj:=(g2 k hk).2.symm.trans hq
 have el:(lks wd f x st d).getD k []=flk wd f x q:=by unfold lks;rw [getD_eq_getElem?_getD,getElem?_map,hq];rfl
 refine ⟨by unfold lks;rw [length_map];exact hk,?_⟩
 rw [el]
 exact (Ws h hj).mpr ⟨_,_,(ZS h hj).mp ff,v.1,v.2.2.symm⟩
section
open PySem.Spec PyProof.Rows
variable {X : Cx}
def zLT (K:W.Frag):R2:=fun x y H Q=>∃ d d',Dt K H x d/\Dt K H y d'/\d.canLay0=true/\d'.canLay0=true/\d.depth<=18/\Q (.bl (d.eqv d')) H
theorem zIM (hu:X.A.units+20 < cLine):OpR X (compareOp .Eq) (zLT X.K):=by
 intro pins s σ H x y v u Q I rx ry h
 obtain ⟨d,d',h1,h2,c,c',dp,q⟩:=h
 obtain ⟨as,r1⟩:=Jb I h1 rx
 obtain ⟨bs,r2⟩:=Jb I h2 ry
 exact SeqAt.compareEq_reads r1 r2 c c' (by have:=Nat.min_le_left d.depth d'.depth;omega) ⟨.bl _,H,I,rfl,q⟩
end
def ZE (K:W.Frag):Sp:=fun vs H Q _=>(∃ i:Int,vs=[.int i]/\Q (.bl true) H) \/ ∃ x:Str,vs=[.str x]/\Q (.bl false) H
theorem zG5 (q:Q (.bl true) H):ZE K ([.int i]++[]) H Q E:=.inl ⟨i,rfl,q⟩
theorem WO (q:Q (.bl false) H):ZE K ([.str x]++[]) H Q E:=.inr ⟨x,rfl,q⟩
local macro_rules | `(tactic| walk_at "rdc")=>`(tactic| first | with_reducible refine zG5 ?_ | with_reducible refine WO ?_)
include Z in
theorem XS:Has P w K mg base "_law_whole" 1 ["_law_thing"] (ZE K):=by
 refine jm Z.kn Z.b1 (l1N (by intros;rfl)) fun fq fd F=>?_
 refine F.ok Vt (fun vs H Q E h=>?_) (fun _ _ _ s H vs Q E hr h=>?_)
 ·obtain ⟨i,rfl,q⟩ | ⟨x,rfl,q⟩:=h
  all_goals rfl
 refine ⟨_,zG (zL (Q8 (zK jS Z.aq rfl zf (zA (pv 0) (zA (x3 rfl Z.aw zFa (v:=.ty "int") rfl) (zB)))) (JF (zFI (zK jS Z.aq rfl zf (zA (pv 0) (zA (x3 rfl Z.ax WS (v:=.ty "bool") rfl) (zB)))))))),?_⟩
 obtain ⟨i,rfl,q⟩ | ⟨x,rfl,q⟩:=h
 all_goals walk_at "st"
 ·walk_at "rd"
  exact q
 ·have nf:NoI H (.str x) "int" := ⟨_,.str _,by decide +kernel⟩
  walk_at "rd"
  exact q
def JB (K:W.Frag) (cN cW cC:Addr):Sp:=fun vs H Q _=>∃ (o p:Addr) (v:V) (wd:Int) (f:Nat) (x:Str) (st:Bool) (d:Fd) (r:List Nat × List Nat ⊕ Bool),vs=[.ref o,.ref p,v]/\xv K H o cN cW cC wd f x st d/\Xu H p wd f x st d/\Co1 H d v r /\ ∀ H',zT H H'->Q (.bl true) H'
include Z in
theorem Xq:Has P w K mg base "_law_right" 10 ["_law_form_here", "_law_spec_here", "_law_value_here"] (JB K zE zI zJ):=by
 refine jm Z.kn Z.b2 (l3N (by intros;rfl)) fun fq fd F=>?_
 refine F.ok qW (fun vs H Q E=>?_) (fun _ _ _ s H vs Q E hr h=>?_)
 ·walk_at "ln"
 obtain ⟨o,p,v,wd,f,x,st,d,r,rfl,D0,S0,V0,q⟩:=h
 refine ⟨_,zC (zM (i:=3) qW.nd rfl (Or.inl rfl) (zF (KY Z) hr rfl (zA (pv 0) (zA (pv 2) (zB)))))
  (zC (VW (zF (zAz Z) hr rfl (zA (pv 0) (zA (pv 2) (zB)))) (Ko rfl (zx (zj (i:=4) qW.nd rfl (Or.inl rfl)) (zx (zj (i:=5) qW.nd rfl (Or.inl rfl)) (Jp)))))
  (zC (zu (zQ qb (pv 4) (zd) (zS _)) (zG (zL (qY qb (pv 5) (pv 3) (zS _)))) (zU))
  (zC (zM (i:=6) qW.nd rfl (Or.inl rfl) (zF (Yi Z) hr rfl (zA (pv 0) (zB))))
  (zC (zu (PW.pt (Qf (qc (qH (zK jS Z.aq rfl zf (zA (pv 3) (zA (x3 rfl Z.ar zAT (v:=.ty "str") rfl) (zB)))))) (Qf (qc (qH (zF (XS Z) hr rfl (zA (pv 5) (zB))))) (y7 (qc (JY K7 Wm (zD) (pv 5) (zK qj Z.ao rfl qD (zA (pv 6) (zB))))))))) (zG (zL (xE))) (zU))
  (zC (zM (i:=7) qW.nd rfl (Or.inl rfl) (pv 2))
  (zC (zu (zQ qb (zX zi (pv 1) (zD) (fun _ _=>rfl)) (zd) (zS _)) (zG (zM (i:=7) qW.nd rfl (Or.inl rfl) (zF (Qy Z) hr rfl (zA (zF (Kj Z) hr rfl (zA (pv 2) (zA (zX zi (pv 1) (zD) (fun _ _=>rfl)) (zA (zX zi (pv 1) (zD) (fun _ _=>rfl)) (zA (zX zi (pv 1) (zD) (fun _ _=>rfl)) (zB)))))) (zA (zX zi (pv 1) (zD) (fun _ _=>rfl)) (zA (zX zi (pv 1) (zD) (fun _ _=>rfl)) (zB))))))) (zU))
  (zC (kG PassesOwn.never rfl (jr rfl Z.ap (zA (zK qj Z.ao rfl qD (zA (pv 6) (zB))) (zB))) (zj (i:=8) qW.nd rfl (Or.inl rfl)) (zC (zM (i:=9) qW.nd rfl (Or.inl rfl) (zF (zCS Z) hr rfl (zA (zX zp (pv 6) (pv 8) (fun _ _=>rfl)) (zA (pv 3) (zB)))))
  (zC (zu (qc (qH (zK jS Z.aq rfl zf (zA (pv 9) (zA (x3 rfl Z.ax WS (v:=.ty "bool") rfl) (zB)))))) (zG (zL (xE))) (zU))
  (zC (zu (PW.pt (yC (qc (qH (pv 9))) (xW (zQ qb (pv 8) (pv 5) (zS _))))) (zG (zL (xE))) (zU))
  (zC (zu (PW.pt (yC (qc (qH (pv 9))) (yC (zQ qb (zP qh (pv 8) (zD)) (zP qh (pv 5) (zD)) (zS _)) (xW (qc (qH (zF (zA6 Z) hr rfl (zA (pv 0) (zA (pv 8) (zA (pv 3) (zB))))))))))) (zG (zL (xE))) (zU))
  (zG (zu (PW.pt (yC (qH (pv 9)) (xW (zQ QH (qY (zIM (zLm hr)) (zF (Wq (YV Z)) hr rfl (zA (pv 0) (zA (pv 8) (zA (pv 3) (zB))))) (pv 7) (zS _)) (qY qb (pv 8) (pv 5) (zS _)) (zS _))))) (zG (zL (xE))) (zU))))))))
  (zG (zL (xE)))))))))),?_⟩
 walk_at "st"
 obtain ⟨ll,lb⟩:=zFC D0
 obtain ⟨_,_,_,sx,w0,w1⟩:=D0.bd
 have ok:=D0.okS
 walk_at "rd"
 refine ⟨o,v,wd,f,x,st,d,r,rfl,D0,V0,fun H1 g1=>?_⟩
 walk_at "rd"
 refine ⟨o,v,wd,f,x,st,d,r,rfl,D0.same g1,V0.same g1,fun p2 us H2 g2 e2 hl=>?_⟩
 have g02:=g1.trans g2
 have rf:(∃ n:Int,us=[.str "refused", .int n]/\ptV wd f x st r = .int n) \/ ∃ (t ld:List Nat) (i:Nat),r = .inl (t,ld)/\(st && decide (wd < (t.length:Int)))=false/\LkF wd st d t i/\us=[.str "told", .int i]:=by
  cases r with
  | inr g=>exact .inl ⟨_,hl,rfl⟩
  | inl p =>
   have hl:(if _ then _ else _):=hl
   split at hl
   ·rename_i hc
    exact .inl ⟨2,hl,if_pos hc⟩
   ·rename_i hc
    obtain ⟨i,li,e⟩:=hl
    exact .inr ⟨p.1,p.2,i,rfl,by simpa using hc,li,e⟩
 clear hl
 rcases rf with ⟨n,rfl,ep⟩ | ⟨t,ld,i,rfl,nw,li,rfl⟩
 ·rw [ep]
  walk_at "rd"
  rw [decide_eq_true rfl]
  exact q _ g02
 obtain ⟨rs,rfl⟩:=V0.col.cut
 have vo:VoT wd f x st (Jw ld (ld++rs) wd f x) d (ld,rs):=⟨V0.col,nw,rfl⟩
 obtain ⟨il,ift⟩:=zD7 D0 vo li
 obtain ⟨at',tl⟩:=zIT D0 il ift
 have ep:ptV wd f x st (.inl (ld++rs,ld)) = .str (T (Jw ld (ld++rs) wd f x)):=if_neg (by rw [nw];exact Bool.false_ne_true)
 rw [ep]
 generalize Jw ld (ld++rs) wd f x=t at *
 have D2:=D0.same g02
 walk_at "rd"
 refine X5 D2 fun l3 H3 us3 g3 n3 e3 al3=>?_
 have ln3:=al3.len
 have g03:=g02.trans g3
 refine Xf (fun σ' H'=>σ'=[some (.ref o),some (.ref p),some v,some (.str (T t)),some (.str "told"),some (.int i),some (.ref l3),none,none,none]/\H'=H3) ?j1 (fun R hR=>hR _ _ ⟨rfl,rfl⟩)
 rintro σ' H' ⟨rfl,rfl⟩
 refine Xf (fun σ' H1=>σ'=[some (.ref o),some (.ref p),some v,some (.str (T t)),some (.str "told"),some (.int i),some (.ref l3),none,none,none]/\H1=H') ?j2 (fun R hR=>by walk_at "rd"; exact hR _ _ ⟨rfl,rfl⟩)
 rintro σ' H3 ⟨rfl,rfl⟩
 refine Xf (fun σ' H1=>σ'=[some (.ref o),some (.ref p),some v,some (.str (T t)),some (.str "told"),some (.int i),some (.ref l3),some v,none,none]/\H1=H3) ?j3 (fun R hR=>by walk_at "rd"; exact hR _ _ ⟨rfl,rfl⟩)
 rintro σ' H4 ⟨rfl,rfl⟩
 refine Xf (fun σ' H'=>∃ (dv:V) (ld' rs':List Nat),σ'=[some (.ref o),some (.ref p),some v,some (.str (T t)),some (.str "told"),some (.int i),some (.ref l3),some dv,none,none]/\zT H4 H'/\VlA H' dv d ld' rs'/\ld'++rs'=ld++rs) ?j4 (fun R hR=>?j5)
 case j5 =>
  have V4:=V0.same g03
  have S4:=S0.same g03
  cases S4 with
  | @num fg pl b sn z m pt wy e okn =>
   have o3:=okn.pl1;have o4:=okn.pl2;have o5:=okn.b1;have o6:=okn.b2;have o8:=okn.wy
   generalize hc:ld++rs=c at V4
   cases V4 with
   | @num pv _ _ _ _ _ _ _ _ u w k hp gb gc gk lim =>
    subst gk
    walk_at "rd"
    rename_i p6 H6 g6 e6
    exact hR _ _ ⟨_,_,_,rfl,g6,.num rfl e6 lim,qX.symm.trans hc.symm⟩
  | word e okw =>
   walk_at "rd"
   cases V4 with
   | word h0 iw=>exact hR _ _ ⟨_,[],_,rfl,zT.refl _,.word rfl iw,rfl⟩
  | cho e eL okc =>
   walk_at "rd"
   cases V4 with
   | cho h0 hm=>exact hR _ _ ⟨_,[],_,rfl,zT.refl _,.cho rfl hm,rfl⟩
 rintro σ' H5 ⟨dv,ld',rs',rfl,g5,vd5,ec⟩
 have D5:=(D2.same g3).same g5
 have e35:=g5.at e3
 walk_at "rd"
 refine Qm (by omega) (by omega) (fun _ σ H'=>zT H5 H' /\ ∃ r1 r2:Option V,σ=[some (.ref o),some (.ref p),some v,some (.str (T t)),some (.str "told"),some (.int i),some (.ref l3),some dv,r1,r2]) ⟨zT.refl _,none,none,rfl⟩ ?_ ?_
 ·rintro k σ H6 hk ⟨g6,r1,r2,rfl⟩
  have e36:=g6.at e35
  have D6:=D5.same g6
  have hk':k < (lks wd f x st d).length:=by omega
  rw [show (0+(k:Int))=(k:Int) by omega]
  walk_at "rd"
  refine xR (SqL.of e36) (by omega) (by omega) fun y hy=>?_
  rw [toNat_natCast] at hy
  obtain ⟨q2,rfl,eq2,m2⟩:=zJR al3 hy
  have eq6:=g6.at (g5.at eq2)
  walk_at "rd"
  refine zBY eq6 (lb _ m2).2 (by omega) fun H7 g7=>?_
  have D7:=D6.same g7
  cases hf:zAt ((lks wd f x st d).getD k []) t with
  | true =>
   walk_at "rd"
   refine zBJ D7 hk' at' tl (yA.mp hf) fun v8 H8 p8 g8 vl vo8 lk8=>?_
   walk_at "rd"
   have vk:=zIX ok vo8.1
   have vq:=zIX ok vd5.col
   refine ⟨_,_,zJM ok vl,zJM ok (((vd5.same g6).same g7).same g8),vk.1,vq.1,vk.2,?_⟩
   have g68:=g6.trans (g7.trans g8)
   rw [zKb (p':=(ld',rs')) ok vo8.1 vd5.col]
   dsimp only
   rw [ec]
   by_cases z:k=i
   ·subst z
    rw [decide_eq_true (zEX D0 vo8 vo lk8 li)]
    walk_at "rd"
    rw [decide_eq_true rfl]
    refine ⟨rfl,_,rfl,?_⟩
    rw [if_neg (by decide)]
    exact ⟨g68,_,_,rfl⟩
   ·rw [decide_eq_false fun y=>z (by rw [y] at lk8;exact LkF.one D0 D0.nd lk8 li)]
    walk_at "rd"
    rw [decide_eq_false (show ¬ (k:Int)=(i:Int) by omega)]
    refine ⟨rfl,_,rfl,?_⟩
    rw [if_neg (by decide)]
    exact ⟨g68,_,_,rfl⟩
  | false =>
   have hne : ¬ (k:Int)=(i:Int):=fun z=>by
    rw [show k=i by omega,yA.mpr ift] at hf;cases hf
   walk_at "rd"
   ·refine zHq D7 hk' at' tl (fun z=>by rw [yA.mpr z] at hf;cases hf) fun H8 g8=>?_
    walk_at "rd"
    exact ⟨g6.trans (g7.trans g8),_,_,rfl⟩
   ·exact ⟨g6.trans g7,_,_,rfl⟩
 ·rintro σ H6 ⟨g6,r1,r2,rfl⟩
  walk_at "rd"
  exact q _ (g03.trans (g5.trans g6))
theorem zCI {o:Addr} {d:Fd} (h1:xv K H o cN cW cC wd f x st d) (h2:Xu H p wd f x st d) (h3:Co1 H d v r) (q : ∀ H',zT H H'->Q (.bl true) H'):JB K cN cW cC ([.ref o,.ref p,v]++[]) H Q E:=⟨o,p,v,wd,f,x,st,d,r,rfl,h1,h2,h3,q⟩
theorem zIj (h2:5<=hi) (h3:hi<=15) : ∃ n:Nat,n<=3/\zB7 0 hi 5 n:=by
 have hh:hi=5\/hi=6\/hi=7\/hi=8\/hi=9\/hi=10\/hi=11\/hi=12\/hi=13\/hi=14\/hi=15:=by omega
 have one : ∀ h:Int,h ∈ [5,6,7,8,9,10,11,12,13,14,(15:Int)]->(Builtin.Range.rangeSize 0 h 5).toNat<=3/\Builtin.Range.small 0 h 5=true/\((Builtin.Range.rangeSize 0 h 5).toNat:Int)=Builtin.Range.rangeSize 0 h 5:=by decide +kernel
 have m:hi ∈ [5,6,7,8,9,10,11,12,13,14,(15:Int)]:=by simp only [mem_cons,not_mem_nil,or_false];exact hh
 obtain ⟨a,b,c⟩:=one hi m
 exact ⟨_,a,by decide,b,c.symm,PyProof.noPylong_small (by omega)⟩
def zAD (K:W.Frag):Sp:=fun vs H Q _=>∃ (a:Addr) (ns:List Int),vs=[.ref a]/\SqL K H a (ns.map V.int)/\ns.length<=63 /\ ∀ H',Q (.bl true) H'
theorem zI4 {o:Int} (h:s=0\/s=1) (q : ∀ p H' wd f x st d,zT H H'->Xu H' p wd f x st d->Q (.ref p) H'):J1 K ([.int c,.int o,.int s]++[]) H Q E:=⟨c,o,s,rfl,h,q⟩
local macro_rules | `(tactic| walk_at "rdc")=>`(tactic| with_reducible refine zBW ?_)
local macro_rules | `(tactic| walk_at "rd1")=>`(tactic| with_reducible refine zBW ?_)
include Z in
theorem zJF {fq:Addr} {fd:FuncData} (F:Fun K "law" "law" WX fq fd):x5 P w K mg base CX0 11 fq fd ["_law_script"] (zAD K):=by
 refine F.ok QI (fun vs H Q E=>?_) (fun _ _ _ s H vs Q E hr h=>?_)
 ·walk_at "ln"
 obtain ⟨a,ns,rfl,hS,h63,k⟩:=h
 refine ⟨_,zC (kG PassesOwn.never rfl (zC1 rfl Z.ap (zA (zD) (zA (zK (xm rfl) Z.au rfl YF (zA (zD) (zA (zK (ZP rfl) Z.av rfl zAE (zA (zK qj Z.ao rfl qD (zA (pv 0) (zB))) (zA (zD) (zB)))) (zB)))) (zA (zD) (zB))))) (zj (i:=1) QI.nd rfl (Or.inl rfl)) (zC (zM (i:=2) QI.nd rfl (Or.inl rfl) (zF (xj Z) hr rfl (zA (pv 0) (zA (pv 1) (zB)))))
  (zC (zM (i:=3) QI.nd rfl (Or.inl rfl) (zF (xj Z) hr rfl (zA (pv 0) (zA (zP zg (pv 1) (zD)) (zB)))))
  (zC (zM (i:=4) QI.nd rfl (Or.inl rfl) (zF (zAc Z) hr rfl (zA (pv 2) (zA (pv 3) (zA (zF (zN Z) hr rfl (zA (pv 2) (zA (zD) (zA (zD) (zB))))) (zB))))))
  (zC (zM (i:=5) QI.nd rfl (Or.inl rfl) (zF (zAm Z) hr rfl (zA (pv 4) (zB))))
  (zG (kG PassesOwn.never rfl (jr rfl Z.ap (zA (zD) (zB))) (zj (i:=6) QI.nd rfl (Or.inl rfl)) (zC (zM (i:=7) QI.nd rfl (Or.inl rfl) (zF (WH Z) hr rfl (zA (pv 4) (zA (zF (xj Z) hr rfl (zA (pv 0) (zA (zP zg (zP zg (pv 1) (zD)) (pv 6)) (zB)))) (zB)))))
  (zC (zM (i:=8) QI.nd rfl (Or.inl rfl) (zF (zBe Z) hr rfl (zA (pv 4) (zA (zF (xj Z) hr rfl (zA (pv 0) (zA (zP zg (zP zg (pv 1) (zD)) (pv 6)) (zB)))) (zA (pv 7) (zB))))))
  (zG (zu (PW.pt (Qf (qc (qH (zF (Xq Z) hr rfl (zA (pv 5) (zA (pv 4) (zA (pv 7) (zB))))))) (y7 (PW.pt (yC (qH (zF (XS Z) hr rfl (zA (zF (KY Z) hr rfl (zA (pv 5) (zA (pv 8) (zB)))) (zB)))) (xW (qc (qH (zF (Xq Z) hr rfl (zA (pv 5) (zA (pv 4) (zA (pv 8) (zB))))))))))))) (zG (zL (xE))) (zU))))))))))))
  (zG (zL (xE))),?_⟩
 walk_at "st"
 walk_at "rd"
 rename_i k1 hk1 k0 hk0
 rw [length_map] at hk1
 obtain ⟨n5,l5,b5⟩:=zIj (hi:=k0) (by omega) (by omega)
 refine zED b5 (fun i σ H'=>zT H H' /\ ∃ r1 r2 r3 r4 r5 r6 r7 r8:Option V,σ=[some (.ref a),r1,r2,r3,r4,r5,r6,r7,r8]) ⟨zT.refl _,none,none,none,none,none,none,none,none,rfl⟩ ?_ ?_
 ·rintro i σ H1 hlt ⟨gg,r1,r2,r3,r4,r5,r6,r7,r8,rfl⟩
  have hS1:=gg.seq hS
  clear hS
  walk_at "rd"
  rename_i c1 c2 s1 s2 s3
  refine zI4 (by omega) fun p H7 wd f x st d g7 S7=>?_
  walk_at "rd"
  refine zJh S7 fun o H8 g8 F8=>?_
  have S8:=S7.same g8
  have hS8:=g8.seq (g7.seq hS1)
  have g08:zT H H8:=gg.trans (g7.trans g8)
  walk_at "rd"
  refine Qm (by decide) (by decide) (fun _ σ H'=>zT H8 H' /\ ∃ q1 q2 q3:Option V,σ=[some (.ref a),some (.int (0+(i:Int)*5)),some (.int c1),some (.int c2),some (.ref p),some (.ref o),q1,q2,q3]) ⟨zT.refl _,r6,r7,r8,rfl⟩ ?_ ?_
  ·rintro j σ H9 hj ⟨g9,q1,q2,q3,rfl⟩
   have hS9:=g9.seq hS8
   have F9:=F8.same g9
   have S9:=S8.same g9
   walk_at "rd"
   rename_i c3
   refine ⟨p,c3,wd,f,x,st,d,rfl,S9,fun v HA gA VA=>?_⟩
   have hSA:=gA.seq hS9
   walk_at "rd"
   rename_i c4
   refine ⟨p,c4,v,wd,f,x,st,d,rfl,S9.same gA,VA,fun v' r' HB gB CB=>?_⟩
   obtain ⟨r,CA⟩:=VA.co
   have FB:=(F9.same gA).same gB
   have SB':=(S9.same gA).same gB
   have g8B:=g9.trans (gA.trans gB)
   walk_at "rd"
   refine zCI FB SB' (CA.same gB) fun HC gC=>?_
   walk_at "rd"
   refine ⟨o,v',wd,f,x,st,d,r',rfl,FB.same gC,CB.same gC,fun HD gD=>?_⟩
   have pt:(∃ n:Int,ptV wd f x st r' = .int n) \/ ∃ z:Str,ptV wd f x st r' = .str z:=by
    cases r' with
    | inr g=>exact .inl ⟨_,rfl⟩
    | inl p =>
     by_cases hc:(st && decide (wd < (p.1.length:Int)))=true
     ·exact .inl ⟨2,if_pos hc⟩
     ·exact .inr ⟨_,if_neg hc⟩
   rcases pt with ⟨n,ep⟩ | ⟨z,ep⟩
   ·rw [ep]
    walk_at "rd"
    refine zCI ((FB.same gC).same gD) ((SB'.same gC).same gD) ((CB.same gC).same gD) fun HE gE=>?_
    walk_at "rd"
    exact ⟨g8B.trans (gC.trans (gD.trans gE)),_,_,_,rfl⟩
   ·rw [ep]
    walk_at "rd"
    exact ⟨g8B.trans (gC.trans gD),_,_,_,rfl⟩
  ·rintro σ H9 ⟨g9,q1,q2,q3,rfl⟩
   exact ⟨g08.trans g9,_,_,_,_,_,_,_,_,rfl⟩
 ·rintro σ H1 ⟨gg,r1,r2,r3,r4,r5,r6,r7,r8,rfl⟩
  walk_at "rd"
  exact k _
end
theorem all_mk {l:W.OpenLaw} {w:World} {K:W.Frag} {mg:Str->Option Value} {fa zn zw z9 qS qg zY zW za qA kW zE zI zJ xi:Addr} {kQ xD jN:Tok} (hfa:mg "law" = some (.ref fa)) (Z:Zs w K mg zn zw z9 qS qg zY zW za qA kW zE zI zJ xi kQ xD jN) :
  ∃ fd:FuncData,(∀ (s:Shared) (v:Value),BindsTo s fd ⟨[v],[]⟩ [("_law_script", v)]) /\ ∀ base:Heap,K.In base->base.Ns mainGlobals mg->x5 l.prog w K mg base CX0 11 fa fd ["_law_script"] (zAD K):=by
 obtain ⟨h,X,G⟩:=Z.kn
 obtain ⟨f,oc,od,kV,dc,pm,an,cd,ct,sl,a,l',c,k⟩:=Z.b3
 have e:=hfa.symm.trans (W.mg_of X G a)
 cases e
 exact ⟨W.fnOf "law" "law" (qL WX) (z7 WX) (zH WX) .none kV dc pm an cd ct,fun s v=>.of_eq rfl,fun base _ _=>zJF Z (zC4 (st:=WX) l' c k)⟩
theorem walk {l:W.OpenLaw} {q:Program} {loose:List Str} {XP:(Str->Option Value)->Heap->Prop} {YP:World->Heap->Prop} {d:DefRec} {K:Params->W.Frag} (hn:l.most=some 63) (hdf:d.params.defaults=[])
  (hY : ∀ (w:World) (h:Heap),YP w h->(K w.params).In h)
  (F : ∀ (w:World) (mg:Str->Option Value) (fa:Addr) (h:Heap),(K w.params).In h->h.Ns mainGlobals mg->mg d.name=some (.ref fa) ->
   ∃ fd:FuncData,(∀ (s:Shared) (u:Value),BindsTo s fd ⟨[u],[]⟩ [("_law_script", u)]) /\ ∀ base:Heap,(K w.params).In base->base.Ns mainGlobals mg->x5 l.prog w (K w.params) mg base CX0 11 fa fd ["_law_script"] (zAD (K w.params))) :
  W.WalkO q loose XP YP l.row.toRowW d [] (fun f vs=>PySem.call f vs):=
 L2.walk_of (n:=63) (k:=11) (x:="_law_script") (CX:=fun _=>CX0) (sp:=fun w=>zAD (K w.params)) hn (by decide) hdf ⟨rfl,by decide,by decide⟩ hY F (fun _ _ a ns hl _ hS=>⟨a,ns,rfl,hS,hl,fun _=>rfl⟩) fun _ _ _ _ _ z=>z
end Pw
namespace PySem.W.Fast
def tw10014805193197019497:=Nat
def tw10027349056846346862:=Nat
def tw10030569655714914231:=Nat
def tw10074656886270544675:=Nat
def tw10111137994886655974:=Nat
def tw10137845094154036761:=Nat
def tw10159682656675963317:=Nat
def tw10160792295312426492:=Nat
def tw10167556416788442584:=Nat
def tw10181932843685973398:=Nat
def tw10187437009428260461:=Nat
def tw1018923648477195510:=Nat
def tw10218999532512004232:=Nat
def tw10222573005939794802:=Nat
def tw10261114750725474107:=Nat
def tw10284152295934559595:=Nat
def tw10312692767260807386:=Nat
def tw10313076900534587200:=Nat
def tw10344630045189550393:=Nat
def tw10361537615276992456:=Nat
def tw10377073391267095770:=Nat
def tw10391850226036637472:=Nat
def tw10447948279275966965:=Nat
def tw10450963808171424584:=Nat
def tw1047675203794915202:=Nat
def tw10481985473732800619:=Nat
def tw1051927539670702360:=Nat
def tw10526676616341304256:=Nat
def tw10535039222910046137:=Nat
def tw105710434235475330:=Nat
def tw10573461565356963267:=Nat
def tw10586427604863293248:=Nat
def tw10597257121988699251:=Nat
def tw10598334976722627481:=Nat
def tw10607778827253332964:=Nat
def tw10611615168559370995:=Nat
def tw10613694432649616800:=Nat
def tw10614259225078939082:=Nat
def tw1061595993870199312:=Nat
def tw10633953946754653034:=Nat
def tw10722142098023037716:=Nat
def tw10737648745713102484:=Nat
def tw10740448006347052118:=Nat
def tw10741907942233297659:=Nat
def tw1075134917973262198:=Nat
def tw10797695789722207297:=Nat
def tw10830810868450243796:=Nat
def tw1086267746799508608:=Nat
def tw10863140221675259554:=Nat
def tw10867107825121754196:=Nat
def tw10888827723247979375:=Nat
def tw10985847128664143487:=Nat
def tw11007946666926955386:=Nat
def tw11018806136484748145:=Nat
def tw11084218496589949160:=Nat
def tw11177189614743381582:=Nat
def tw11179517276822213998:=Nat
def tw11199477055109390402:=Nat
def tw11206023246261101969:=Nat
def tw11211804894527134765:=Nat
def tw11214364148062742648:=Nat
def tw11257787775431097793:=Nat
def tw11267708542151944222:=Nat
def tw1129905029881449539:=Nat
def tw11308741802309988305:=Nat
def tw11314499435631123094:=Nat
def tw11336468974649392036:=Nat
def tw11357159910441513588:=Nat
def tw11376055904091027132:=Nat
def tw11410648037250633624:=Nat
def tw11413542886848956983:=Nat
def tw11427453320125895383:=Nat
def tw11441205250712132916:=Nat
def tw11447059180668030910:=Nat
def tw11460762112512957642:=Nat
def tw11462164930064873014:=Nat
def tw1146246023159824519:=Nat
def tw11479082547971187399:=Nat
def tw11480857621858939795:=Nat
def tw11566377316874962448:=Nat
def tw11569969209883285406:=Nat
def tw11589754711914163373:=Nat
def tw11663727522128695611:=Nat
def tw11666852125153561598:=Nat
def tw11674619367981292102:=Nat
def tw11676216752761999436:=Nat
def tw11677986037599195966:=Nat
def tw11700179963969172225:=Nat
def tw11703573723924816490:=Nat
def tw11703733996608207589:=Nat
def tw11757741348712960020:=Nat
def tw11773258217194378569:=Nat
def tw11781226240900668572:=Nat
def tw11784152636199330074:=Nat
def tw11786962640070627757:=Nat
def tw11801644602438122026:=Nat
def tw11871019669441823970:=Nat
def tw11883432360441017584:=Nat
def tw11909701656152502865:=Nat
def tw11912556942682810332:=Nat
def tw11921318154496646964:=Nat
def tw11926883426956272996:=Nat
def tw11988927839127444785:=Nat
def tw12039307296181494071:=Nat
def tw12051867873758002562:=Nat
def tw12070159777191626834:=Nat
def tw12100647962754626561:=Nat
def tw12101080065966743228:=Nat
def tw12103382508740831232:=Nat
def tw12129288175794779710:=Nat
def tw12177611127751865186:=Nat
def tw12205997345206492810:=Nat
def tw12215947146527141503:=Nat
def tw12222189726124588208:=Nat
def tw12224393844177453004:=Nat
def tw12228536954093076707:=Nat
def tw12235108750209159620:=Nat
def tw1225229221112598318:=Nat
def tw12304083396853756497:=Nat
def tw12308658165917502565:=Nat
def tw12315290464034744352:=Nat
def tw12318267024070426393:=Nat
def tw12337817142279324296:=Nat
def tw12374415941415754184:=Nat
def tw12377036058059570495:=Nat
def tw12380661946528269585:=Nat
def tw1239130603168946829:=Nat
def tw12401174576388671481:=Nat
def tw12435699470457895609:=Nat
def tw12447679464898082120:=Nat
def tw12457995993479825366:=Nat
def tw12490188237775445526:=Nat
def tw12492551103145078836:=Nat
def tw12534429739497022919:=Nat
def tw12537201045456697081:=Nat
def tw12565791571391139350:=Nat
def tw12570510206769414196:=Nat
def tw12570854697037421855:=Nat
def tw1257271207373164470:=Nat
def tw12603660418361417406:=Nat
def tw12612836587958951070:=Nat
def tw12618394915828577888:=Nat
def tw12630040563343847526:=Nat
def tw12631103346747282445:=Nat
def tw12645841422500837819:=Nat
def tw12648239124512701390:=Nat
def tw12648399404983510035:=Nat
def tw12654124048620132991:=Nat
def tw12683763195754334093:=Nat
def tw12688324801277283678:=Nat
def tw12696412816527482995:=Nat
def tw12700659583340494018:=Nat
def tw12704798011085494097:=Nat
def tw1273032196817281847:=Nat
def tw12733472395238505086:=Nat
def tw12734406820074558037:=Nat
def tw12750886911636547350:=Nat
def tw12759608963654771888:=Nat
def tw1275977476962815602:=Nat
def tw12852065730070766075:=Nat
def tw1286438377993915000:=Nat
def tw1287935689938127550:=Nat
def tw12922838609353802480:=Nat
def tw12954413736148939823:=Nat
def tw12967626164614708721:=Nat
def tw13016741914894907867:=Nat
def tw13030320235129941296:=Nat
def tw13052603835269838544:=Nat
def tw13062274012657102519:=Nat
def tw1308020891385501557:=Nat
def tw1311020328421438471:=Nat
def tw13131052310014670659:=Nat
def tw13163133941957431332:=Nat
def tw13167625440642659631:=Nat
def tw13174214024524243365:=Nat
def tw13178003133656103137:=Nat
def tw13187635732912583156:=Nat
def tw13201585657936562761:=Nat
def tw13207108434161686607:=Nat
def tw13215005798787933067:=Nat
def tw13247488362548272672:=Nat
def tw13265308152213359961:=Nat
def tw13275006594034367800:=Nat
def tw13284961590375777002:=Nat
def tw1334797745931799875:=Nat
def tw13407926956634787121:=Nat
def tw13454098748161371553:=Nat
def tw13460365017212610882:=Nat
def tw13467141648853608010:=Nat
def tw13486655283292633098:=Nat
def tw1350072004411245718:=Nat
def tw1355434871178399951:=Nat
def tw13566644700127953437:=Nat
def tw13581319474066896008:=Nat
def tw13593551431121729495:=Nat
def tw13614028972851571939:=Nat
def tw13621538945492745125:=Nat
def tw1363473420116935383:=Nat
def tw13638294748098396345:=Nat
def tw13662742326729351214:=Nat
def tw13663766725726446938:=Nat
def tw13683038145350938645:=Nat
def tw13686227923751968538:=Nat
def tw13745174232581708362:=Nat
def tw13765472796125482634:=Nat
def tw1376905301131951279:=Nat
def tw13826348110136550119:=Nat
def tw13826860840242750779:=Nat
def tw13855176221947144655:=Nat
def tw13910879616593333471:=Nat
def tw13926800803092426763:=Nat
def tw13950401166833799985:=Nat
def tw13993233825688973009:=Nat
def tw14013378357204413445:=Nat
def tw14018883808475478526:=Nat
def tw14020170416295013857:=Nat
def tw14035940744399953000:=Nat
def tw14077105830767756499:=Nat
def tw14078721657463266587:=Nat
def tw14083591921904141380:=Nat
def tw14090169772881851824:=Nat
def tw14103793589472579840:=Nat
def tw14120890052643968723:=Nat
def tw14121184673381456402:=Nat
def tw14152021513436353341:=Nat
def tw14179213263693958738:=Nat
def tw14194747642904607005:=Nat
def tw14290583853052484912:=Nat
def tw14351154049569254254:=Nat
def tw14398357041133953034:=Nat
def tw14409598271747559198:=Nat
def tw14443037063965959125:=Nat
def tw14538871464927335285:=Nat
def tw14633290207378825832:=Nat
def tw14635308296534085479:=Nat
def tw14654187966065180224:=Nat
def tw14660478610031640926:=Nat
def tw14702179045402916103:=Nat
def tw14715021598951140627:=Nat
def tw14724601059579550928:=Nat
def tw14725646418874795239:=Nat
def tw14745261616131172866:=Nat
def tw14751936492064155902:=Nat
def tw14761243874555079054:=Nat
def tw14767645997534534466:=Nat
def tw14794866566560972728:=Nat
def tw14810945520494304671:=Nat
def tw14864556901159166936:=Nat
def tw14889628787286919469:=Nat
def tw14891271121407750878:=Nat
def tw14924840068628229442:=Nat
def tw14926382983611173268:=Nat
def tw14936071973444736792:=Nat
def tw14965082579370900018:=Nat
def tw14977061878353930736:=Nat
def tw15014260277938284855:=Nat
def tw15022098480458107011:=Nat
def tw15057182920113074305:=Nat
def tw15062579854472971741:=Nat
def tw15070937834036539501:=Nat
def tw15092566825018629748:=Nat
def tw15107865328769923138:=Nat
def tw15224875203015568546:=Nat
def tw15227872604388807054:=Nat
def tw15227900373483435247:=Nat
def tw15237711994733833290:=Nat
def tw15241944392180617753:=Nat
def tw15249004392845987282:=Nat
def tw15273207432920833593:=Nat
def tw15341719950821655968:=Nat
def tw15367023585900626534:=Nat
def tw15378094882729945348:=Nat
def tw15381565974758830068:=Nat
def tw15449251371009834542:=Nat
def tw15480444182040649323:=Nat
def tw15487687113092103677:=Nat
def tw15509410277438594794:=Nat
def tw15525033474255698625:=Nat
def tw15532184071714358203:=Nat
def tw15628630803439080333:=Nat
def tw15664616929180387338:=Nat
def tw156720104826242933:=Nat
def tw15695609388633888104:=Nat
def tw15705454723571230720:=Nat
def tw15723087940818836615:=Nat
def tw15728804625822028664:=Nat
def tw1575939507738167763:=Nat
def tw15772059847711546956:=Nat
def tw15803361774364049279:=Nat
def tw15813352234057522999:=Nat
def tw15820330319621383858:=Nat
def tw1582861831779308894:=Nat
def tw15858927610632683377:=Nat
def tw15859710092082885855:=Nat
def tw15873038745127076108:=Nat
def tw15921399339435313521:=Nat
def tw15945443196394649772:=Nat
def tw15973370180284269600:=Nat
def tw15987565664716320852:=Nat
def tw16008721713172201698:=Nat
def tw16035441405138329013:=Nat
def tw16049265448255261977:=Nat
def tw1608049430824363793:=Nat
def tw16099832710543495835:=Nat
def tw16100766934434101647:=Nat
def tw16131446177329612496:=Nat
def tw1613843963438653926:=Nat
def tw16143162151606067850:=Nat
def tw16145061860035523885:=Nat
def tw16158425111192824056:=Nat
def tw16162176496935310618:=Nat
def tw16163100640676750523:=Nat
def tw1616872946112793996:=Nat
def tw16178808534277696550:=Nat
def tw16193842384070917610:=Nat
def tw16205828714058631460:=Nat
def tw16219026216325843429:=Nat
def tw16244649379591895593:=Nat
def tw16255404417827205679:=Nat
def tw16294679716464306999:=Nat
def tw16324678872834848723:=Nat
def tw16352571285451568303:=Nat
def tw16381673115178120357:=Nat
def tw16386923445668413480:=Nat
def tw16406504719690641877:=Nat
def tw16423969169489881123:=Nat
def tw16426023101157324415:=Nat
def tw16435842315669080927:=Nat
def tw16449652495900512916:=Nat
def tw1647807354553477071:=Nat
def tw16480024025835560249:=Nat
def tw16490066149319873409:=Nat
def tw1650563383070044387:=Nat
def tw16514005523006500906:=Nat
def tw16550995779465359515:=Nat
def tw16561906364068616465:=Nat
def tw16630955195097270759:=Nat
def tw16638437192836108357:=Nat
def tw16642272439462227354:=Nat
def tw16723100483649561523:=Nat
def tw16742213003245690949:=Nat
def tw16783450920043931950:=Nat
def tw16843803936764691451:=Nat
def tw16902259906706349982:=Nat
def tw16908291297247374945:=Nat
def tw16934035959628547695:=Nat
def tw1695080904492559523:=Nat
def tw16966137431702901607:=Nat
def tw17014925474028318066:=Nat
def tw17023947322205690939:=Nat
def tw17096368406432524424:=Nat
def tw17119492092168451098:=Nat
def tw17153800022567099616:=Nat
def tw17203356782885321047:=Nat
def tw17218160827138222133:=Nat
def tw17218811394160173894:=Nat
def tw17239573655275587891:=Nat
def tw17245228897550621889:=Nat
def tw17264059706724807457:=Nat
def tw17264178591352005105:=Nat
def tw1728298219887152754:=Nat
def tw17418484757612133638:=Nat
def tw1741961108331265974:=Nat
def tw17425531739411607838:=Nat
def tw17511195984784052207:=Nat
def tw17520114269391212262:=Nat
def tw17535442831614230972:=Nat
def tw1755517856587872600:=Nat
def tw17555878753613853828:=Nat
def tw17562376141807974955:=Nat
def tw17585426329521466808:=Nat
def tw17585489957270278587:=Nat
def tw17605540777075686229:=Nat
def tw17609749534045185701:=Nat
def tw17632844995791599006:=Nat
def tw17635316446011350938:=Nat
def tw17678905358104936038:=Nat
def tw17679557690213238500:=Nat
def tw17688736673746425541:=Nat
def tw17712358290692125555:=Nat
def tw17749510950360487787:=Nat
def tw17776377135037945906:=Nat
def tw17785669800369043722:=Nat
def tw17857977244674947050:=Nat
def tw17865117146408866253:=Nat
def tw17868407618699359655:=Nat
def tw17878566543223047059:=Nat
def tw17893940389385677717:=Nat
def tw1790839918179584023:=Nat
def tw17925401234919218703:=Nat
def tw17928984783534233227:=Nat
def tw17938096406854769243:=Nat
def tw1793831126301757665:=Nat
def tw17949103036034416497:=Nat
def tw17962245839404500312:=Nat
def tw1798273614677458911:=Nat
def tw17982999366057879141:=Nat
def tw17985442175618812119:=Nat
def tw17989163608954743502:=Nat
def tw18003219964668005528:=Nat
def tw18020363569872474606:=Nat
def tw18020951997528533593:=Nat
def tw18021288071393881684:=Nat
def tw18047406772440930724:=Nat
def tw18047684955236374426:=Nat
def tw18049467034359465159:=Nat
def tw180738421096513268:=Nat
def tw18074399314628928366:=Nat
def tw1808458883399684377:=Nat
def tw1809471390438563813:=Nat
def tw181456574746010555:=Nat
def tw18148186246450454318:=Nat
def tw1815120416807450884:=Nat
def tw18158182632570853645:=Nat
def tw1817495294035823422:=Nat
def tw18208011921172182434:=Nat
def tw18282725008504732959:=Nat
def tw18307212356865298588:=Nat
def tw18321916811243006927:=Nat
def tw18334324882711019296:=Nat
def tw18344139521371771283:=Nat
def tw18350234699120948649:=Nat
def tw18354977966201324756:=Nat
def tw18396704788848238726:=Nat
def tw18421223497099405628:=Nat
def tw1891812761867881413:=Nat
def tw1892977760941887962:=Nat
def tw1912392889453940945:=Nat
def tw197017780002731345:=Nat
def tw2052998358563328178:=Nat
def tw2081874634455115881:=Nat
def tw2086110116171861316:=Nat
def tw2108069016977746954:=Nat
def tw2129849458831238714:=Nat
def tw2199281879779485308:=Nat
def tw2208345175599502966:=Nat
def tw2224544930390659884:=Nat
def tw2231432061339287417:=Nat
def tw223669752134572860:=Nat
def tw2252809588685967070:=Nat
def tw2259792139149763564:=Nat
def tw227693974126092400:=Nat
def tw2280349779968897272:=Nat
def tw2297146166495907202:=Nat
def tw2416761804316173893:=Nat
def tw2449504229912960158:=Nat
def tw2502269804369611606:=Nat
def tw2610501073178043477:=Nat
def tw2638752311760669483:=Nat
def tw264178913678706204:=Nat
def tw2675728083941096879:=Nat
def tw2692519339302822696:=Nat
def tw270449959678593632:=Nat
def tw2722964646982745569:=Nat
def tw272982462865669874:=Nat
def tw2735729486583938090:=Nat
def tw2739636452495453939:=Nat
def tw2777165329174840500:=Nat
def tw2795721885600864222:=Nat
def tw2800389596761902646:=Nat
def tw2872582511542566987:=Nat
def tw2905419526893345113:=Nat
def tw2913718711829855130:=Nat
def tw2962318036308551780:=Nat
def tw2989169107522558416:=Nat
def tw3011739471902059276:=Nat
def tw3037100535140012515:=Nat
def tw308419327886536434:=Nat
def tw3108039715726213039:=Nat
def tw3136298119518873601:=Nat
def tw3147547737886378592:=Nat
def tw3167534846845848732:=Nat
def tw3171754816130945832:=Nat
def tw317525923801323819:=Nat
def tw3219800653610727645:=Nat
def tw3240208400132197849:=Nat
def tw3299213103279725150:=Nat
def tw3325291698303429666:=Nat
def tw333189555795939324:=Nat
def tw3341975957013928549:=Nat
def tw3398512527002110979:=Nat
def tw3421003595017404128:=Nat
def tw342474381828790722:=Nat
def tw3449395377317492278:=Nat
def tw3463918285334212735:=Nat
def tw3463971045605304584:=Nat
def tw3474046100565775132:=Nat
def tw3502951490735998313:=Nat
def tw3534488175955883655:=Nat
def tw3540459915110740440:=Nat
def tw3577645027008510142:=Nat
def tw3582466375495411935:=Nat
def tw358726190507056633:=Nat
def tw3588460799788819423:=Nat
def tw3620755513669925463:=Nat
def tw3636799138764633478:=Nat
def tw3742184623928754927:=Nat
def tw3754629288004239802:=Nat
def tw3808938409065529505:=Nat
def tw3811963350235289560:=Nat
def tw3829578758807337037:=Nat
def tw3838708648244841907:=Nat
def tw3868315561946458157:=Nat
def tw3879006794559229980:=Nat
def tw3890949702300994918:=Nat
def tw3894075904471554252:=Nat
def tw389790727348569584:=Nat
def tw3897931734031002529:=Nat
def tw3899340383641622445:=Nat
def tw3903965055215806622:=Nat
def tw3974104598733090687:=Nat
def tw3989783552774932497:=Nat
def tw4034502313432027144:=Nat
def tw41103220315774092:=Nat
def tw4141103363953340221:=Nat
def tw4191128936596057824:=Nat
def tw4206767359702085395:=Nat
def tw4220103337498280333:=Nat
def tw4242876885240191237:=Nat
def tw4295419095666733910:=Nat
def tw429744679771158256:=Nat
def tw4314195092347500627:=Nat
def tw4338573842955706782:=Nat
def tw4341187977278328880:=Nat
def tw4361036086617036107:=Nat
def tw4363395301472516134:=Nat
def tw441041407315579761:=Nat
def tw4431224554130850317:=Nat
def tw4519107320192878750:=Nat
def tw4522724784598890207:=Nat
def tw4525549201220275120:=Nat
def tw4529520833580418855:=Nat
def tw4555198188400303759:=Nat
def tw4560756057268673299:=Nat
def tw4590838308773148121:=Nat
def tw4632496106326608721:=Nat
def tw4644418866788364054:=Nat
def tw4658719223580877965:=Nat
def tw4678142799464784585:=Nat
def tw4696247823180474694:=Nat
def tw4729275007299423560:=Nat
def tw481212614226387153:=Nat
def tw4848253120723345372:=Nat
def tw4849535606252207390:=Nat
def tw4905287009552102394:=Nat
def tw4910423549454528705:=Nat
def tw4926147400561615660:=Nat
def tw4957996634725933523:=Nat
def tw5003009412160306458:=Nat
def tw5023527603242788707:=Nat
def tw5031653144443874358:=Nat
def tw5032329373707046304:=Nat
def tw5044281490946311996:=Nat
def tw5047128577841550127:=Nat
def tw5069071402461994685:=Nat
def tw5084143987109844615:=Nat
def tw5086331288407605073:=Nat
def tw5092314302212425157:=Nat
def tw5133455599529556703:=Nat
def tw5183645134022986840:=Nat
def tw5192404170095272990:=Nat
def tw5210087203785021104:=Nat
def tw5217127625513058663:=Nat
def tw5231243227453390237:=Nat
def tw5261644474140572287:=Nat
def tw5300225419876772759:=Nat
def tw5323558561482115895:=Nat
def tw5323687712175493565:=Nat
def tw5325113743447595402:=Nat
def tw5361473606588610201:=Nat
def tw5371003138117338975:=Nat
def tw5375409326857518374:=Nat
def tw5420388640840309307:=Nat
def tw5434551216585389478:=Nat
def tw548927954093195296:=Nat
def tw5520874174124632932:=Nat
def tw5521436314820544618:=Nat
def tw5522073229753129016:=Nat
def tw5524538176113047704:=Nat
def tw5546677147016992511:=Nat
def tw5549458231452655570:=Nat
def tw5560902329541553750:=Nat
def tw5629185431981797752:=Nat
def tw5657927908144930415:=Nat
def tw5659510709269374301:=Nat
def tw5700110567631670489:=Nat
def tw5749213296361397278:=Nat
def tw5756078095741706035:=Nat
def tw577218634519587661:=Nat
def tw5792744607554818009:=Nat
def tw582124983103150023:=Nat
def tw5850249200288909103:=Nat
def tw5873801338714436464:=Nat
def tw5884154154942039244:=Nat
def tw5884953250978092897:=Nat
def tw5909079148167698531:=Nat
def tw5925246880670649750:=Nat
def tw5998163098200476551:=Nat
def tw6026457170619398688:=Nat
def tw6073064509412525714:=Nat
def tw610287295129226539:=Nat
def tw6127582922843722552:=Nat
def tw6165684852469505900:=Nat
def tw6184284392757616318:=Nat
def tw619989530884967859:=Nat
def tw6223411196905607138:=Nat
def tw6234203377491953539:=Nat
def tw6256139586199971368:=Nat
def tw6258903377692276971:=Nat
def tw626782108941790589:=Nat
def tw628484669120818950:=Nat
def tw6317125157627097744:=Nat
def tw6362779868532370724:=Nat
def tw6375760168011161171:=Nat
def tw6398795102945017981:=Nat
def tw6415142133164167999:=Nat
def tw6415297718934266573:=Nat
def tw6423301721812380200:=Nat
def tw6425957658631322690:=Nat
def tw6426297766062486819:=Nat
def tw6499049679229385537:=Nat
def tw6508356763885903499:=Nat
def tw6508509645200288961:=Nat
def tw6514797184927217189:=Nat
def tw652506132807934435:=Nat
def tw6528448918568147929:=Nat
def tw6529468081396218830:=Nat
def tw6568569656509676379:=Nat
def tw659793938137590693:=Nat
def tw6602883562254451033:=Nat
def tw671285006580539357:=Nat
def tw6741722992433263895:=Nat
def tw6753555178508179486:=Nat
def tw676818724159740366:=Nat
def tw6793126180512449680:=Nat
def tw6832766099576159223:=Nat
def tw6846846839183743008:=Nat
def tw6848975113799337799:=Nat
def tw6859295181165155373:=Nat
def tw6861473413154781986:=Nat
def tw6894322693308645623:=Nat
def tw6949379630673055703:=Nat
def tw6958559529633044546:=Nat
def tw6960551181202460515:=Nat
def tw6999781662711086462:=Nat
def tw7008814832269397961:=Nat
def tw7016563412609347842:=Nat
def tw7045587308988463054:=Nat
def tw7075674677405082416:=Nat
def tw7119130816518041134:=Nat
def tw7135942995003027873:=Nat
def tw7136726619159826094:=Nat
def tw7143490974207966723:=Nat
def tw714938688957276495:=Nat
def tw7194615454232978418:=Nat
def tw7227112232879469419:=Nat
def tw7321718133112968648:=Nat
def tw7353637454901695496:=Nat
def tw7419132604601590786:=Nat
def tw7428265842199323845:=Nat
def tw7436551111571636949:=Nat
def tw7439056320091207277:=Nat
def tw748987585075038476:=Nat
def tw7499124494868845942:=Nat
def tw7533440837192911594:=Nat
def tw7538588268055614101:=Nat
def tw7564917269986690611:=Nat
def tw7573224179883023742:=Nat
def tw7579700039756480109:=Nat
def tw758667228049284037:=Nat
def tw7587288179681351668:=Nat
def tw7618914951536267924:=Nat
def tw76345972351851442:=Nat
def tw7637615990540128226:=Nat
def tw7639653551700042000:=Nat
def tw7662990953405365235:=Nat
def tw7667471768948474957:=Nat
def tw7685293516818786880:=Nat
def tw7700008791126105849:=Nat
def tw7736548600232374624:=Nat
def tw7745688555005461439:=Nat
def tw7766708752256815385:=Nat
def tw7775865009298342934:=Nat
def tw7789785382330738435:=Nat
def tw7806670960889910125:=Nat
def tw7865697279267422111:=Nat
def tw7917520496065409877:=Nat
def tw7988821092743031696:=Nat
def tw8002941224859562756:=Nat
def tw8042242667280796572:=Nat
def tw8087026925512500115:=Nat
def tw8106640365466506043:=Nat
def tw8117624206016453406:=Nat
def tw8121482590807271541:=Nat
def tw8130745942665585341:=Nat
def tw8141960540694465158:=Nat
def tw8147615420225995913:=Nat
def tw8160062257686465420:=Nat
def tw818678967960571208:=Nat
def tw8228289237255698995:=Nat
def tw8248629094385835941:=Nat
def tw8308030370258802279:=Nat
def tw8312922183326911938:=Nat
def tw8345531470900521404:=Nat
def tw8365719426501549161:=Nat
def tw8371140016160500151:=Nat
def tw8404404274330643734:=Nat
def tw8405763760242345222:=Nat
def tw8428501483048899889:=Nat
def tw8451287493702451958:=Nat
def tw8461675222336401605:=Nat
def tw8535278583373325271:=Nat
def tw8574339652719710493:=Nat
def tw8585807875352749187:=Nat
def tw8589232289912840475:=Nat
def tw861491610328339102:=Nat
def tw8674665507157251852:=Nat
def tw8679970984436424297:=Nat
def tw8687149623988260209:=Nat
def tw8716686235456330390:=Nat
def tw8720691224398625952:=Nat
def tw8722206868681147224:=Nat
def tw8750833136702389716:=Nat
def tw8775622446641205566:=Nat
def tw8780559604281250949:=Nat
def tw8809669307854065559:=Nat
def tw8831901497812622673:=Nat
def tw8856732235024051363:=Nat
def tw8876545118664541667:=Nat
def tw8896583839581649548:=Nat
def tw8901706374095628430:=Nat
def tw8971716971843464383:=Nat
def tw8990932099953435021:=Nat
def tw9001269869293119913:=Nat
def tw9015376445267179295:=Nat
def tw902369716545609061:=Nat
def tw9075611893630126207:=Nat
def tw9141744177104638547:=Nat
def tw9146157962343792585:=Nat
def tw9154975166086724833:=Nat
def tw9187045235600915848:=Nat
def tw9224343063411503384:=Nat
def tw9248260189291558590:=Nat
def tw9263082033243487429:=Nat
def tw9288522818578588500:=Nat
def tw9291493519803464417:=Nat
def tw9348828720990890882:=Nat
def tw9366222643430251230:=Nat
def tw9392999312661538899:=Nat
def tw9404876026338763884:=Nat
def tw9427682603561445188:=Nat
def tw9436698140130093341:=Nat
def tw9447417675844518835:=Nat
def tw9451722868737490442:=Nat
def tw9524895200924247443:=Nat
def tw9537535353502147198:=Nat
def tw9538373179298579438:=Nat
def tw9564878251930015452:=Nat
def tw9581818233277039558:=Nat
def tw9599249478759769519:=Nat
def tw9611692535019751011:=Nat
def tw9619303320555548772:=Nat
def tw9630724561809356358:=Nat
def tw9654378017201371306:=Nat
def tw9681046680250817584:=Nat
def tw9729237858173945756:=Nat
def tw973457125272254369:=Nat
def tw9735615462286677475:=Nat
def tw980436123932121752:=Nat
def tw9841409267541014100:=Nat
def tw9867396939341240684:=Nat
def tw9871514352074404817:=Nat
def tw987368372057731455:=Nat
def tw9874355210459461402:=Nat
def tw9876684120025961246:=Nat
def tw9886574272201884069:=Nat
def tw9910412323179790953:=Nat
def tw9953510401282069952:=Nat
def tw9954807979056888432:=Nat
def tw9962288282320666800:=Nat
def tw9991837968447714867:=Nat
end PySem.W.Fast
open PySem PySem.W PyProof.Rows
local macro_rules | `(tactic| walk_at "df")=>`(tactic| ((refine' L2.dfx_mk ?a ?l ?c ?k);(case a|l|c|k=>k_is)))
local macro_rules | `(tactic| walk_at "na")=>`(tactic| repeat (first | exact trivial | ((refine' And.intro ?_ ?_);next=>first | k_is | (show _=_;k_is))))
local macro_rules | `(tactic| walk_at "dm")=>`(tactic| ((refine' L2.dmx_mk ?a ?l ?c ?k ?n ?i);(case a|l|c|k|n=>k_is);(case i=>walk_at "na")))
local macro_rules | `(tactic| walk_at "dd")=>`(tactic| ((refine' L2.ddx_mk ?a ?l ?c ?k ?n ?d ?s ?i);(case a|l|c|k|n|d=>k_is);(case s=>rfl);(case i=>walk_at "na")))
local macro_rules | `(tactic| walk_at "dc")=>`(tactic| ((refine' L2.dcx_mk ?a ?l ?c ?k ?n ?d ?e ?f);(case a|l|c|k|n|d|e|f=>k_is)))
local macro_rules | `(tactic| walk_at "ex")=>`(tactic| ((refine' L2.Exc.mk ?x ?a ?b ?c ?d ?e ?f ?g ?h);(case x=>k_exc);(case a|b|c|d|e|f|g|h=>k_is)))
local macro_rules | `(tactic| walk_at "cl")=>`(tactic| ((refine' L2.Cls.mk ?a ?b ?c ?d);(case a|b|c|d=>k_is)))
local macro_rules | `(tactic| walk_at "mi")=>`(tactic| ((refine' And.intro ?a ?b);(case a|b=>k_is)))
set_option maxRecDepth 100000 in
set_option maxHeartbeats 0 in
theorem PySem.Challenge.cw_padwright_k62_each_value_its_look_holds : PySem.Challenge.rw_padwright_k62_each_value_its_look.Holds := by
 w_on;o_law;k_head;(case hw=>w_witness2)
 k_fill
 refine Pw.walk (l:=PySem.Challenge.rw_padwright_k62_each_value_its_look) rfl rfl (fun w h Y=>PySem.W.kIn_of Y) ?F
 case F =>
  intro w mg fa h KX G hmg
  refine' Pw.all_mk hmg (Pw.Zs.mk ⟨_,KX,G⟩ (PySem.W.mg_of KX G ?va) (PySem.W.mg_of KX G ?vb) (PySem.W.mg_of KX G ?vc) (PySem.W.mg_of KX G ?vd) (PySem.W.mg_of KX G ?ve) (PySem.W.mg_of KX G ?vf) (PySem.W.mg_of KX G ?vg) (PySem.W.mg_of KX G ?vh) (PySem.W.mg_of KX G ?vi) (PySem.W.mg_of KX G ?vj) (PySem.W.mg_of KX G ?vk) (PySem.W.mg_of KX G ?vl) (PySem.W.mg_of KX G ?vm) (PySem.W.mg_none_of KX G ?vn) (PySem.W.mg_none_of KX G ?vo) (PySem.W.mg_none_of KX G ?vp) (PySem.W.mg_none_of KX G ?vq) (PySem.W.mg_none_of KX G ?vr) (PySem.W.mg_none_of KX G ?vs) (PySem.W.mg_none_of KX G ?vt) (PySem.W.mg_none_of KX G ?vu) (PySem.W.mg_none_of KX G ?vv) (PySem.W.mg_none_of KX G ?vw) (PySem.W.mg_none_of KX G ?vx) (PySem.W.mg_none_of KX G ?vy) (PySem.W.mg_none_of KX G ?vz) (PySem.W.mg_none_of KX G ?vA) (PySem.W.mg_of KX G ?vB) (PySem.W.mg_of KX G ?vC) (PySem.W.mg_of KX G ?vD) (PySem.W.mg_of KX G ?vE) ?vF ?f0 ?f1 ?f2 ?f3 ?f4 ?f5 ?f6 ?f7 ?f8 ?f9 ?vG ?vH ?vI ?vJ ?vK ?vL ?vM ?vN ?vO ?vP ?vQ ?vR ?vS ?vT ?vU ?vV ?vW ?vX ?vY ?vZ ?v0 ?v1 ?v2 ?v3 ?v4 ?v5 ?v6 ?v7 ?v8 ?v9 ?wa ?wb ?wc ?wd ?we ?wf ?wg ?wh ?wi ?wj ?wk ?wl ?wm ?wn ?wo ?wp ?wq ?wr ?ws ?wt ?wu ?wv ?ww ?wx ?wy ?wz ?wA ?wB ?wC ?wD ?wE ?wF ?wG ?wH ?wI ?wJ ?wK ?wL ?wM ?wN ?wO ?wP ?wQ ?wR ?wS ?wT ?wU ?wV ?wW ?wX ?vb ?vc ?vd ?ve ?wY ?wZ ?w0 ?w1 ?w2 ?w3 ?w4 ?w5 ?w6 ?Va ?Vb ?Vc ?Ga ?Gb ?Gc ?Ta ?Tb ?Tc ?Vx ?Gx ?Tx ?Xx ?Xk ?Xe ?xg ?xf ?xc ?xb ?w7 ?w8 ?w9 ?ua ?ub ?uc ?ud ?ue ?uf ?ug ?uh ?ui ?uj ?uk)
  (case va|vb|vc|vd|ve|vf|vg|vh|vi|vj|vk|vl|vm=>first | k_is | (show _=_;k_is))
  (case vn|vo|vp|vq|vr|vs|vt|vu|vv|vw|vx|vy|vz|vA|vB|vC|vD|vE|w7|w8|w9|ua|ud|ue|uh|ui=>first | k_is | (show _=_;k_is))
  (case vF=>(refine' L2.sty_mk ?d ?hp0 ?ha0 ?hb0 ?hp1 ?ha1 ?hb1 ?hp2 ?ha2 ?hb2 ?hp3 ?ha3 ?hb3 ?hp4 ?ha4 ?hb4);(case d=>k_is);(case hp0=>k_is);(case ha0=>k_is);(case hb0=>k_is);(case hp1=>k_is);(case ha1=>k_is);(case hb1=>k_is);(case hp2=>k_is);(case ha2=>k_is);(case hb2=>k_is);(case hp3=>k_is);(case ha3=>k_is);(case hb3=>k_is);(case hp4=>k_is);(case ha4=>k_is);(case hb4=>k_is))
  (case f0|f1|f2|f3|f4|f5|f6|f7|f8|f9|vG|vH|vI|vJ|vK|vL|vM|vN|vO|vP|vQ|vR|vZ|v6|v8|v9|wb|wh|wi|wj|wk|wl|wm|wn|wo|wp|wq|wr|ws|wt|wu|wv|ww|wx|wy|wz|wA|wB|wC|wD|wE|wF|wG|wH|wI|wJ|wK|wL|wM|wN|wO|wP=>walk_at "df")
  (case vS=>walk_at "dc")
  (case vT|vU|vV=>walk_at "dd")
  (case vW|vX|vY|v0|v1|v2|v3|v4|v5|v7|wa|wc|wd|we|wf|wg=>walk_at "dm")
  (case wQ|wR|wS|wT|wU|wV|wW|wX=>walk_at "ex")
  (case wY|w1|w4=>walk_at "cl")
  (case wZ|w2|w5=>walk_at "na")
  (case w0|w3|w6=>walk_at "mi")
  (case Va|Vb|Vc|Ga|Gb|Gc|Ta|Tb|Tc|Xk|Xe|ub|uc|uf|ug|uj|uk=>kit_is)
  (case Vx|Gx|Tx|Xx|xg|xf|xc|xb=>kts_exm)

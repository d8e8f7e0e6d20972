import PyProof.Rows.All
import KE.KDictList
import KE.KFromBytes
import KE.KItem
import KE.KNestM
import KE.KTryMore
import KE.RegKIsAll
import KE.RegKTryMore
import Wide.FinOn
import PyProof.Rows.ZipGen
import PyProof.Rows.FactsT2
import PyProof.Rows.StrJoin2
import PySem.Challenge.RW_padwright_k53_first_wrong_word
set_option Elab.async false
set_option linter.all false
set_option maxRecDepth 100000
set_option compiler.extract_closed false
local macro_rules | `(tactic|omega)=>`(tactic|first|decide|lia|omega (config:={}))
namespace L2
open PySem PySem.Spec PyProof.Rows
open List (length_cons mem_append_right mem_cons_of_mem)
open Nat (le_refl le_trans lt_irrefl lt_of_lt_of_le ne_of_lt)
abbrev Key:=Sum Int Str
def zJi:Key->Value->Bool
 | .inl k,v=>Value.isInt k v
 | .inr x,v=>Value.isStrOf x v
def zMI (w:World):Key->Int
 | .inl k=>hashInt k
 | .inr x=>hashStr w x
theorem qk : ∀ {k:Key} {v:Value},zJi k v=true->(∃ i t,k=Sum.inl i/\v=Value.int i t)\/(∃ x t,k=Sum.inr x/\v=Value.str x t)
 | .inl i,v,h=>by
  obtain ⟨t,e⟩:=Value.isInt_shape (k:=i) (v:=v) h
  exact .inl ⟨i,t,rfl,e⟩
 | .inr x,v,h=>by
  obtain ⟨t,e⟩:=Value.isStrOf_shape (x:=x) (v:=v) h
  exact .inr ⟨x,t,rfl,e⟩
theorem zIe (a b:Int):decide ((Sum.inl a:Key)=Sum.inl b)=(a == b):=by
 by_cases e:a=b
 ·subst e;simp
 ·have h : ¬ (Sum.inl a:Key)=Sum.inl b:=fun q=>e (Sum.inl.inj q)
  rw [decide_eq_false h]
  exact (beq_eq_false_iff_ne.mpr e).symm
theorem zJ7 (a b:Str):decide ((Sum.inr a:Key)=Sum.inr b)=decide (a=b):=by
 by_cases e:a=b
 ·subst e;simp
 ·have h : ¬ (Sum.inr a:Key)=Sum.inr b:=fun q=>e (Sum.inr.inj q)
  rw [decide_eq_false h,decide_eq_false e]
theorem zHz (a:Int) (b:Str):decide ((Sum.inl a:Key)=Sum.inr b)=false:=decide_eq_false (fun q=>nomatch q)
theorem zIr (a:Str) (b:Int):decide ((Sum.inr a:Key)=Sum.inl b)=false:=decide_eq_false (fun q=>nomatch q)
def zCP (prog:Program) (w:World):PySem.KeyKind prog w Key where
 is:=zJi
 hash:=zMI w
 inj:=fun v a b ha hb=>by
  rcases qk ha with ⟨i,t,rfl,rfl⟩ | ⟨x,t,rfl,rfl⟩
  ·rcases qk hb with ⟨j,u,rfl,e⟩ | ⟨y,u,rfl,e⟩
   ·injection e with e1 _;rw [e1]
   ·exact nomatch e
  ·rcases qk hb with ⟨j,u,rfl,e⟩ | ⟨y,u,rfl,e⟩
   ·exact nomatch e
   ·injection e with e1 _;rw [e1]
 byValue:=fun k v h=>by
  rcases qk h with ⟨i,t,rfl,rfl⟩ | ⟨x,t,rfl,rfl⟩ <;> rfl
 pyHash:=fun hv h=>by
  rcases qk hv with ⟨i,t,rfl,rfl⟩ | ⟨x,t,rfl,rfl⟩
  ·exact wpAny_pyHash_int h
  ·exact wpAny_pyHash_str h
 eqBool:=fun hu hv h=>by
  rcases qk hu with ⟨i,t,rfl,rfl⟩ | ⟨x,t,rfl,rfl⟩
  ·rcases qk hv with ⟨j,u,rfl,rfl⟩ | ⟨y,u,rfl,rfl⟩
   ·rw [zIe] at h;exact wpAny_eqBool_int h
   ·rw [zHz] at h;exact SeqAt.EqAt.int_str i t y u _ _ _ _ h
  ·rcases qk hv with ⟨j,u,rfl,rfl⟩ | ⟨y,u,rfl,rfl⟩
   ·rw [zIr] at h;exact SeqAt.EqAt.str_int x t j u _ _ _ _ h
   ·rw [zJ7] at h;exact wpAny_eqBool_str h
 «strs» := fun k x t v h=>by
  rcases qk h with ⟨i,u,rfl,e⟩ | ⟨y,u,rfl,e⟩
  ·exact nomatch e
  ·injection e with e1 _
   subst e1
   cases v <;> rfl
inductive V where
 | non | bl (b:Bool) | int (i:Int) | str (x:Str) | byt (b:Array UInt8) | flt (b:UInt64) | ref (a:Addr) | ty (n:String)
 deriving DecidableEq
def jz:V->Value->Prop
 | .non,u=>u=Value.none
 | .bl b,u=>u=Value.bool b
 | .int i,u=>∃ t,u=Value.int i t
 | .str x,u=>∃ t,u=Value.str x t
 | .byt b,u=>∃ t,u=Value.bytes b t
 | .flt b,u=>∃ t,u=Value.float b t
 | .ref a,u=>u=Value.ref a
 | .ty n,u=>u=Value.type n
abbrev qM:List V->List Value->Prop:=Paired jz
variable {us:List Value}
theorem qM.length {xs:List V} (r:qM xs us):xs.length=us.length:=Paired.length r
theorem qM.get : ∀ {xs:List V} {us:List Value} {i:Nat} {x:V},qM xs us->xs[i]? = some x -> ∃ u,us[i]? = some u/\jz x u
 | _,_,_,_,.nil,e=>by simp at e
 | _,_,0,_,.cons r _,e=>by simp at e;subst e;exact ⟨_,rfl,r⟩
 | _,_,i+1,x,.cons _ t,e=>by
  obtain ⟨u,h1,h2⟩:=qM.get (i:=i) (x:=x) t (by simpa using e)
  exact ⟨u,by simpa using h1,h2⟩
theorem qM.set {x:V} {u:Value} (r:jz x u) : ∀ {xs:List V} {us:List Value} (i:Nat),qM xs us->qM (xs.set i x) (us.set i u)
 | _,_,_,.nil=>.nil
 | _,_,0,.cons _ t=>.cons r t
 | _,_,i+1,.cons q t=>.cons q (qM.set r i t)
theorem qM.append : ∀ {xs ys:List V} {us ws:List Value},qM xs us->qM ys ws->qM (xs++ys) (us++ws)
 | _,_,_,_,.nil,s=>s
 | _,_,_,_,.cons r t,s=>.cons r (qM.append t s)
theorem qM.take : ∀ {xs:List V} {us:List Value} (n:Nat),qM xs us->qM (xs.take n) (us.take n)
 | _,_,0,_=>.nil
 | _,_,_+1,.nil=>.nil
 | _,_,n+1,.cons r t=>.cons r (qM.take n t)
theorem qM.drop : ∀ {xs:List V} {us:List Value} (n:Nat),qM xs us->qM (xs.drop n) (us.drop n)
 | _,_,0,r=>r
 | _,_,_+1,.nil=>.nil
 | _,_,n+1,.cons _ t=>qM.drop n t
theorem qM.none_of : ∀ {xs:List V} {us:List Value} {i:Nat},qM xs us->xs[i]? = none->us[i]? = none:=fun {xs us i} r e=>by
 have h1:=r.length
 have h2:xs.length<=i:=List.getElem?_eq_none_iff.mp e
 exact List.getElem?_eq_none_iff.mpr (by omega)
def zAM:Option V->Option Value->Prop
 | some v,some u=>jz v u
 | none,none=>True
 | _,_=>False
def KV {κ:Type}:List (κ × V)->List (κ × Value)->Prop:=Paired fun (p:κ × V) (q:κ × Value)=>p.1=q.1/\jz p.2 q.2
def kV:Key->V
 | .inl i=>.int i
 | .inr x=>.str x
inductive HO where
 | lst (xs:List V)
 | tup (xs:List V)
 | dK (kvs:List (Key × V)) | dT (kvs:List (List Key × V))
 | set (S:Int->Bool) (n:Nat)
 | ins (C dx:Addr) (fs:List (Str × V))
 | own (x:Addr)
 | xd (fs:List (Str × V))
 | met (f x:Addr)
 | rng (lo hi:Int)
 | frz (o:Obj) (u:HO)
 | tbl (ps:Array Value)
 | ext (φ:Heap->Prop)
abbrev Hp:=Addr->Option HO
def upd (H:Hp) (a:Addr) (o:HO):Hp:=fun b=>if b=a then some o else H b
variable {H:Hp} {a:Addr} {o:HO}
theorem zK:upd H a o a=some o:=by unfold upd;rw [if_pos rfl]
theorem zf {b:Addr} (h:b≠a):upd H a o b=H b:=by unfold upd;rw [if_neg h]
variable {u:HO}
theorem qo:upd (upd H a o) a u=upd H a u:=by
 funext b;unfold upd;split <;> rfl
theorem zg {b:Addr} (h:H a=some o) (h':H b=none):a≠b:=by
 intro e;subst e;rw [h] at h';cases h'
section
variable (P : Program) (w : World)
def jo (H:Hp) (h:Heap) (a:Addr):HO->Prop
 | .lst xs=>xs.length<=sizeLine /\ ∃ (its:List Value) (n:Nat),qM xs its/\h.get? a=some { cls:=.type "list", data:=.seq its.toArray n }
 | .tup xs=>xs.length<=sizeLine /\ ∃ its:List Value,qM xs its/\IsTup h a its.toArray
 | .dK kvs=>kvs.length<=sizeLine/\(a == sysModules)=false /\ ∃ vs,KV kvs vs/\h.DictOf (zCP P w) a vs
 | .dT kvs=>kvs.length<=sizeLine/\(a == sysModules)=false /\ ∃ xs:List (List Key × Addr × Value),
   Paired (fun (p:List Key × V) (q:List Key × Addr × Value)=>p.1=q.1/\H q.2.1=some (.tup (p.1.map kV))/\jz p.2 q.2.2) kvs xs /\
   ∃ o es ep,h.get? a=some o/\o.ExactDict/\o.data = .dict es ep/\es.toList=xs.map (entryOfKey (tupleKind (zCP P w)))/\(xs.map (·.1)).Nodup
 | .set S n=>h.SetOf (intKind P w) a S n
 | .ins C dx fs=>H dx=some (.own a)/\fs.length<=1000/\dx≠a/\h.get? a=some (W.instObj C dx) /\
   ∃ mA,h.Ns1 dx mA/\(∀ f,zAM (fs.lookup f) (mA f))/\PySem.Within mA (fs.map (·.1))
 | .own _=>∃ o,h.get? a=some o
 | .xd fs=>∃ mA,h.Ns1 a mA /\ ∀ f,zAM (fs.lookup f) (mA f)
 | .rng lo hi=>∃ t u v,h.get? a=some { cls:=.type "range", data:=.fields #[.int lo t,.int hi u,.int 1 v] }
 | .frz o u=>h.get? a=some o/\jo H h a u
 | .tbl ps=>h.get? a=some { cls:=.none,data:=.fields ps }
 | .met f x=>h.get? a=some (W.methodObj (.ref f) (.ref x))
 | .ext φ=>φ h/\(∃ o,h.get? a=some o) /\ ∀ h1 h2:Heap,φ h1->(∀ o,h1.get? a=some o->h2.get? a=some o)->φ h2
def HOk (H:Hp) (h:Heap):Prop:=∀ a o,H a=some o->jo P w H h a o
end
section
variable {P : Program} {w : World} {H H' : Hp} {h h' : Heap} {a : Addr} {o : HO}
theorem jo.lt (x:jo P w H h a o):a < h.objs.size:=by
 cases o with
 | lst xs=>obtain ⟨_,_,_,_,e⟩:=x;exact Heap.lt_size e
 | tup xs=>obtain ⟨_,_,_,p⟩:=x;exact p.lt
 | dK kvs=>obtain ⟨_,_,_,_,o,_,_,e,_⟩:=x;exact Heap.lt_size e
 | dT kvs=>obtain ⟨_,_,_,_,o,_,_,e,_⟩:=x;exact Heap.lt_size e
 | set S n=>obtain ⟨o,_,_,_,e,_⟩:=x;exact Heap.lt_size e
 | ins C dx fs=>obtain ⟨_,_,_,e,_⟩:=x;exact Heap.lt_size e
 | own y=>obtain ⟨_,e⟩:=x;exact Heap.lt_size e
 | xd fs=>obtain ⟨_,⟨_,_,_,e,_⟩,_⟩:=x;exact Heap.lt_size e
 | rng lo hi=>obtain ⟨_,_,_,e⟩:=x;exact Heap.lt_size e
 | frz ob u=>obtain ⟨e,_⟩:=x;exact Heap.lt_size e
 | tbl ps=>exact Heap.lt_size (show h.get? a=some _ from x)
 | met f y=>exact Heap.lt_size (show h.get? a=some _ from x)
 | ext φ=>obtain ⟨_,⟨_,e⟩,_⟩:=x;exact Heap.lt_size e
theorem Paired.mapP {α β:Type} {F G:α->β->Prop} : ∀ {l₁:List α} {l₂:List β},Paired F l₁ l₂->(∀ a b,F a b->G a b)->Paired G l₁ l₂
 | _,_,.nil,_=>.nil
 | _,_,.cons r t,f=>.cons (f _ _ r) (Paired.mapP t f)
theorem jo.stay (x:jo P w H h a o) (k : ∀ b u,(b=a\/H b=some (.own a))->h.get? b=some u->h'.get? b=some u)
  (ho : ∀ b,H b=some (.own a)->H' b=some (.own a)) (ht : ∀ b xs,H b=some (.tup xs)->H' b=some (.tup xs)):jo P w H' h' a o:=by
 induction o with
 | lst xs=>obtain ⟨z,its,n,r,e⟩:=x;exact ⟨z,its,n,r,k _ _ (.inl rfl) e⟩
 | tup xs=>obtain ⟨z,its,r,ob,e,c⟩:=x;exact ⟨z,its,r,ob,k _ _ (.inl rfl) e,c⟩
 | dK kvs=>obtain ⟨z,y,vs,r,ob,es,ep,e,c⟩:=x;exact ⟨z,y,vs,r,ob,es,ep,k _ _ (.inl rfl) e,c⟩
 | dT kvs =>
  obtain ⟨z,y,xs,r,ob,es,ep,e,c⟩:=x
  exact ⟨z,y,xs,Paired.mapP r fun p q z=>⟨z.1,ht _ _ z.2.1,z.2.2⟩,ob,es,ep,k _ _ (.inl rfl) e,c⟩
 | set S n=>obtain ⟨ob,es,ep,t,e,c⟩:=x;exact ⟨ob,es,ep,t,k _ _ (.inl rfl) e,c⟩
 | ins C dx fs =>
  obtain ⟨d,z,ne,e,mA,⟨od,es,ep,e2,c⟩,r⟩:=x
  exact ⟨ho _ d,z,ne,k _ _ (.inl rfl) e,mA,⟨od,es,ep,k _ _ (.inr d) e2,c⟩,r⟩
 | own y=>obtain ⟨ob,e⟩:=x;exact ⟨ob,k _ _ (.inl rfl) e⟩
 | xd fs=>obtain ⟨mA,⟨od,es,ep,e,c⟩,r⟩:=x;exact ⟨mA,⟨od,es,ep,k _ _ (.inl rfl) e,c⟩,r⟩
 | rng lo hi=>obtain ⟨t,u,v,e⟩:=x;exact ⟨t,u,v,k _ _ (.inl rfl) e⟩
 | frz ob u ih=>obtain ⟨e,q⟩:=x;exact ⟨k _ _ (.inl rfl) e,ih q⟩
 | tbl ps =>
  have e:h.get? a=some { cls:=.none,data:=.fields ps }:=x
  show h'.get? a=some { cls:=.none,data:=.fields ps }
  exact k a _ (.inl rfl) e
 | met f y =>
  have e:h.get? a=some (W.methodObj (.ref f) (.ref y)):=x
  show h'.get? a=some (W.methodObj (.ref f) (.ref y))
  exact k a _ (.inl rfl) e
 | ext φ=>obtain ⟨p,⟨o,e⟩,st⟩:=x;exact ⟨st _ _ p fun o q=>k _ _ (.inl rfl) q,⟨o,k _ _ (.inl rfl) e⟩,st⟩
theorem HOk.lt (x:HOk P w H h) (e:H a=some o):a < h.objs.size:=(x a o e).lt
theorem HOk.fresh (x:HOk P w H h) (e:h.objs.size<=a):H a=none:=by
 cases q:H a with
 | none=>rfl
 | some u=>exact absurd (lt_of_lt_of_le (x.lt q) e) (lt_irrefl _)
theorem HOk.kept (x:HOk P w H h) (k : ∀ b u,h.get? b=some u->h'.get? b=some u):HOk P w H h':=fun a o e =>
 (x a o e).stay (fun b u _ q=>k b u q) (fun _ q=>q) fun _ _ q=>q
theorem HOk.laid (x:HOk P w H h) (k : ∀ b u,h.get? b=some u->h'.get? b=some u) (hp:h.objs.size<=a) (new:jo P w (upd H a o) h' a o):HOk P w (upd H a o) h':=fun b u e=>by
 have hn:=x.fresh hp
 by_cases hb:b=a
 ·subst hb;rw [zK] at e;cases e;exact new
 ·rw [zf hb] at e
  exact (x b u e).stay (fun c v _ q=>k c v q) (fun c q=>by rw [zf (zg q hn)];exact q) fun c xs q=>by rw [zf (zg q hn)];exact q
end
def Rd (H:Hp) (a:Addr) (u:HO):Prop:=H a=some u \/ ∃ o,H a=some (.frz o u)
theorem Rd.of (h:H a=some u):Rd H a u:=.inl h
variable {P:Program} {w:World} {h:Heap}
theorem Rd.ok (r:Rd H a u) (x:HOk P w H h):jo P w H h a u:=by
 rcases r with r | ⟨o,r⟩
 ·exact x a u r
 ·obtain ⟨_,q⟩:=x a _ r
  exact q
def Mut:Option HO->Prop
 | some (.lst _)=>True
 | some (.dK _)=>True
 | some (.dT _)=>True
 | some (.set _ _)=>True
 | some (.ins _ _ _)=>True
 | some (.ext _)=>True
 | _=>False
section
variable {P : Program} {w : World} {H : Hp} {h h' : Heap} {x e : Addr} {o' : HO}
theorem HOk.write (ok:HOk P w H h) (mu:Mut (H x)) (he:e=x\/H e=some (.own x)) (k : ∀ b u,b≠e->h.get? b=some u->h'.get? b=some u) (heo : ∃ u,h'.get? e=some u)
  (new:jo P w (upd H x o') h' x o'):HOk P w (upd H x o') h':=fun b u q=>by
 have nown : ∀ c y,H c=some (.own y)->c≠x:=fun c y r z=>by subst z;rw [r] at mu;exact mu
 have ntup : ∀ c xs,H c=some (.tup xs)->c≠x:=fun c xs r z=>by subst z;rw [r] at mu;exact mu
 by_cases hb:b=x
 ·subst hb;rw [zK] at q;cases q;exact new
 ·rw [zf hb] at q
  by_cases hbe:b=e
  ·have q':H b=some (.own x):=by
    rcases he with z | z
    ·exact absurd (hbe.trans z) hb
    ·rw [hbe];exact z
   rw [q] at q';cases q'
   obtain ⟨v,hv⟩:=heo
   exact ⟨v,by rw [hbe];exact hv⟩
  ·refine (ok b u q).stay (fun c v hc r=>k c v ?_ r) (fun c r=>by rw [zf (nown c b r)];exact r) fun c xs r=>by rw [zf (ntup c xs r)];exact r
   rcases hc with rfl | hc
   ·exact hbe
   ·rintro rfl
    rcases he with z | z
    ·exact nown c b hc z
    ·rw [hc] at z;cases z;exact hb rfl
end
structure Un (fs ex:List Addr) (H H':Hp) (h h':Heap):Prop where
 keep : ∀ b o,h.get? b=some o->H b=none->b ∉ fs->b ∉ ex->h'.get? b=some o
 slot : ∀ b o,h.get? b=some o->H b=none->b ∈ fs->b ∉ ex -> ∃ sl,h'.get? b=some { o with slots:=sl }
 free : ∀ b o,h.get? b=some o->H b=none->b ∉ ex->H' b=none
 there : ∀ b o,h.get? b=some o->b ∉ ex -> ∃ o',h'.get? b=some o'
 tups : ∀ b xs,H b=some (.tup xs)->H' b=some (.tup xs)
 frzs : ∀ b o u,H b=some (.frz o u)->H' b=some (.frz o u)
 tbls : ∀ b ps,H b=some (.tbl ps) -> ∃ more,H' b=some (.tbl (ps++more))
section
variable {fs fs' ex ex' : List Addr} {H H1 H2 : Hp} {h h1 h2 h' : Heap} {a x e : Addr} {o : HO}
theorem Un.any (u:Un fs ex H H1 h h1) {b:Addr} {ob:Obj} (q:h.get? b=some ob) (n:H b=none) (hx:b ∉ ex) : ∃ sl,h1.get? b=some { ob with slots:=sl }:=by
 by_cases hb:b ∈ fs
 ·exact u.slot b ob q n hb hx
 ·exact ⟨ob.slots,u.keep b ob q n hb hx⟩
theorem Un.trans (a:Un fs ex H H1 h h1) (b:Un fs ex H1 H2 h1 h2):Un fs ex H H2 h h2 where
 keep:=fun c ob q n hc hx=>b.keep c ob (a.keep c ob q n hc hx) (a.free c ob q n hx) hc hx
 slot:=fun c ob q n hc hx=>by
  obtain ⟨sl,e1⟩:=a.slot c ob q n hc hx
  obtain ⟨sl',e2⟩:=b.slot c _ e1 (a.free c ob q n hx) hc hx
  exact ⟨sl',e2⟩
 free:=fun c ob q n hx=>by
  obtain ⟨o',e1⟩:=a.there c ob q hx
  exact b.free c o' e1 (a.free c ob q n hx) hx
 there:=fun c ob q hx=>by
  obtain ⟨o',e1⟩:=a.there c ob q hx
  exact b.there c o' e1 hx
 tups:=fun c xs q=>b.tups c xs (a.tups c xs q)
 frzs:=fun c ob xs q=>b.frzs c ob xs (a.frzs c ob xs q)
 tbls:=fun c ps q=>by
  obtain ⟨m1,e1⟩:=a.tbls c ps q
  obtain ⟨m2,e2⟩:=b.tbls c _ e1
  exact ⟨m1++m2,by rw [e2,Array.append_assoc]⟩
theorem Un.kept (k : ∀ b u,h.get? b=some u->h'.get? b=some u):Un fs ex H H h h':=
 ⟨fun b ob q _ _ _=>k b ob q,fun b ob q _ _ _=>⟨ob.slots,k b ob q⟩,fun _ _ _ n _=>n,fun b ob q _=>⟨ob,k b ob q⟩,fun _ _ q=>q,fun _ _ _ q=>q,fun _ ps q=>⟨#[],by rw [q];simp⟩⟩
theorem Un.refl:Un fs ex H H h h:=Un.kept fun _ _ q=>q
theorem Un.laid (k : ∀ b u,h.get? b=some u->h'.get? b=some u) (hp:h.objs.size<=a) (hn:H a=none):Un fs ex H (upd H a o) h h' where
 keep:=fun b u q _ _ _=>k b u q
 slot:=fun b u q _ _ _=>⟨u.slots,k b u q⟩
 free:=fun b u q n _=>by rw [zf (ne_of_lt (lt_of_lt_of_le (Heap.lt_size q) hp))];exact n
 there:=fun b u q _=>⟨u,k b u q⟩
 tups:=fun b xs q=>by rw [zf (zg q hn)];exact q
 frzs:=fun b u xs q=>by rw [zf (zg q hn)];exact q
 tbls:=fun b ps q=>⟨#[],by rw [zf (zg q hn),q];simp⟩
theorem Un.write (mu:Mut (H x)) (he:e=x\/H e=some (.own x)) (k : ∀ b u,b≠e->h.get? b=some u->h'.get? b=some u) (heo : ∃ u,h'.get? e=some u):Un fs ex H (upd H x o) h h':=by
 have hx : ∀ b,H b=none->b≠x:=fun b n z=>by subst z;rw [n] at mu;exact mu
 have hb : ∀ b,H b=none->b≠e:=fun b n z=>by
  subst z
  rcases he with r | r
  ·exact hx b n r
  ·rw [n] at r;cases r
 have hm : ∀ b u,H b=some u -> ¬ Mut (some u)->b≠x:=fun b u q nm z=>by subst z;rw [q] at mu;exact nm mu
 refine ⟨fun b u q n _ _=>k b u (hb b n) q,fun b u q n _ _=>⟨u.slots,k b u (hb b n) q⟩,fun b u q n _=>by rw [zf (hx b n)];exact n,fun b u q _=>?_,
  fun b xs q=>by rw [zf (hm b _ q fun z=>z)];exact q,fun b u xs q=>by rw [zf (hm b _ q fun z=>z)];exact q,fun b ps q=>⟨#[],by rw [zf (hm b _ q fun z=>z),q];simp⟩⟩
 by_cases hbe:b=e
 ·subst hbe;exact heo
 ·exact ⟨u,k b u hbe q⟩
theorem Un.mono (u:Un fs ex H H1 h h1) (hs : ∀ b ∈ fs,b ∈ fs') (hx : ∀ b ∈ ex,b ∈ ex'):Un fs' ex' H H1 h h1:=
 ⟨fun b ob q n hb he=>u.keep b ob q n (fun z=>hb (hs b z)) fun z=>he (hx b z),fun _ _ q n _ he=>u.any q n fun z=>he (hx _ z),fun b ob q n he=>u.free b ob q n fun z=>he (hx b z),fun b ob q he=>u.there b ob q fun z=>he (hx b z),u.tups,u.frzs,u.tbls⟩
end
def trk (h:Heap) (H:Hp):List Addr:=(List.range h.objs.size).filter fun a=>(H a).isSome
def zEK (h:Heap) (H:Hp):Heap:=W.hideAll h (trk h H)
theorem zCi (h:Heap) (H:Hp):(zEK h H).objs.size=h.objs.size:=W.hideAll_size _ _
theorem zES {b:Addr} {o:Obj} (e:h.get? b=some o) (n:H b=none):(zEK h H).get? b=some o:=
 W.hideAll_get _ e fun hm=>by
  have q:(H b).isSome=true:=(List.mem_filter.mp hm).2
  rw [n] at q;simp at q
theorem zGA {b:Addr} {o:Obj} (e:(zEK h H).get? b=some o):h.get? b=some o/\H b=none:=by
 have e':h.get? b=some o:=W.of_hideAll (trk h H) e
 refine ⟨e',?_⟩
 cases q:H b with
 | none=>rfl
 | some x =>
  have hm:b ∈ trk h H:=List.mem_filter.mpr ⟨List.mem_range.mpr (Heap.lt_size e'),by simp [q]⟩
  have z:(zEK h H).get? b=none:=W.hideAll_none (trk h H) hm
  rw [z] at e;cases e
def zFu (g h:Heap) (L:Addr):List (Addr × Obj):=(List.range h.objs.size).filterMap fun a=>if a=L\/(g.get? a).isSome=true then none else (h.get? a).map fun o=>(a,o)
def yp (g h:Heap) (L d:Addr):List (Addr × Obj):=(zFu g h L).filter fun p=>decide (p.1≠d)
structure Mod (K:W.Frag) (mg:Str->Option Value) (base:Heap):Prop where
 kin:K.In base
 glob:base.Ns mainGlobals mg
 blt : ∃ mb,base.Ns builtinsNs mb /\ ∀ x:Str,x ≠ "__name__" -> mb x=bootBuiltins x
 nolimit:base.NoLimit
structure Cx where
 prog:Program
 w:World
 K:W.Frag
 mg:Str->Option Value
 base:Heap
 A:Around
 N:List Str
 s₀:Shared
 H₀:Hp
 env:Env
 outer:List Env
 stack:List Env
 ex:List Addr
 fn:Str->Bool
 calm:Bool
 pn:List (Addr × Obj)
 xe:Value->Shared->Prop
def frs (l:List Env):List Addr:=l.filterMap (·.frame)
abbrev Cx.fs (X:Cx):List Addr:=frs X.outer
def Vis (sc:Scope) (x:Str):Prop:=sc.names.lookup x=some .local\/sc.names.lookup x=some .cell\/sc.names.lookup x=some .free
def Loc (sc:Scope) (x:Str):Prop:=sc.names.lookup x=some .local\/sc.names.lookup x=some .cell
def zL6 (env:Env) (h:Heap) (m:Str->Option Value) (x:Str) (u:Value):Prop:=
 (env.kindOf x=some .local/\m x=some u)\/((env.kindOf x=some .cell\/env.kindOf x=some .free) /\ ∃ c,env.cells.lookup x=some c/\h.IsCell c (some u))
structure Cx.Ok (X:Cx):Prop where
 mod:Mod X.K X.mg X.base
 kind:X.env.scope.kind = .function
 glob:X.env.globals=mainGlobals
 blt:X.env.builtins=builtinsNs
 above:X.s₀.heap.objs.size<=X.env.locals
 inj : ∀ x y c,X.env.cells.lookup x=some c->X.env.cells.lookup y=some c->x=y
 has : ∀ x,(X.env.kindOf x=some .cell\/X.env.kindOf x=some .free) -> ∃ c,X.env.cells.lookup x=some c
 cab : ∀ x c,X.fn x=true->X.env.cells.lookup x=some c->X.s₀.heap.objs.size<=c
 hd:X.calm=true->X.A.handled=none
 frames:X.A.frames=some X.stack
 stk:X.stack=X.outer\/(X.stack=X.env::X.outer/\X.env.frame=some X.env.locals)
 exf : ∀ b ∈ X.ex,b≠X.env.locals /\ ∀ x c,X.env.cells.lookup x=some c->c≠b
 bs : ∀ b o,X.base.get? b=some o->X.s₀.heap.get? b=some o/\X.H₀ b=none
 bsz:X.base.objs.size<=X.s₀.heap.objs.size
 noex : ∀ b o,X.base.get? b=some o->b ∉ X.ex
 exfs : ∀ b ∈ X.ex,b ∉ X.fs
 funs:X.s₀.heap.FunFrames X.base X.outer
 frf : ∀ b ∈ X.fs,X.H₀ b=none
structure Inv (X:Cx) (pins:List (Addr × Obj)) (σ:List (Option V)) (H:Hp) (s:Shared):Prop where
 ok:X.Ok
 os:s.os=X.s₀.os
 bare:AllBare s.gens
 base:Un X.fs X.ex X.H₀ H X.s₀.heap s.heap
 loc : ∃ m,s.heap.Ns X.env.locals m /\ ∀ (i:Nat) (x:Str) (v:V),X.N[i]? = some x->σ[i]? = some (some v)->Vis X.env.scope x -> ∃ u,jz v u/\zL6 X.env s.heap m x u
 cell : ∀ x c,X.env.cells.lookup x=some c -> ∃ v,s.heap.IsCell c v
 free:H X.env.locals=none
 freeC : ∀ x c,X.env.cells.lookup x=some c->H c=none
 pin : ∀ p ∈ X.pn++pins,s.heap.get? p.1=some p.2/\H p.1=none/\p.1≠X.env.locals/\p.1 ∉ X.fs /\ ∀ v,p.2.data ≠ .cell v
 hok:HOk X.prog X.w H s.heap
 len:σ.length=X.N.length
section
variable {X : Cx} {pins : List (Addr × Obj)} {σ : List (Option V)} {H H' : Hp} {s : Shared} {h' : Heap}
theorem Cx.Ok.nofr (ok:X.Ok) {b:Addr} {o:Obj} (e:X.base.get? b=some o):b ∉ X.fs:=fun hb=>by
 have:=(ok.funs.mem hb).1
 rw [e] at this;cases this
theorem Inv.bs (I:Inv X pins σ H s) : ∀ b o,X.base.get? b=some o->s.heap.get? b=some o/\H b=none:=fun b o e =>
 ⟨I.base.keep b o (I.ok.bs b o e).1 (I.ok.bs b o e).2 (I.ok.nofr e) (I.ok.noex b o e),I.base.free b o (I.ok.bs b o e).1 (I.ok.bs b o e).2 (I.ok.noex b o e)⟩
theorem Inv.bk (I:Inv X pins σ H s) : ∀ b o,X.base.get? b=some o->s.heap.get? b=some o:=fun b o e=>(I.bs b o e).1
theorem Inv.mod (I:Inv X pins σ H s):Mod X.K X.mg X.base:=I.ok.mod
theorem Inv.kIn (I:Inv X pins σ H s):X.K.In s.heap:=I.ok.mod.kin.keeps I.bk
theorem Inv.nolimit (I:Inv X pins σ H s):s.heap.NoLimit:=I.ok.mod.nolimit.keeps I.bk
theorem Inv.fr (I:Inv X pins σ H s) : ∃ m,Fr X.base X.env.locals s.heap m:=
 let ⟨m,hn,_⟩:=I.loc
 ⟨m,hn,I.bk,le_trans I.ok.bsz I.ok.above⟩
theorem Inv.lt (I:Inv X pins σ H s):X.env.locals < s.heap.objs.size:=let ⟨_,hn,_⟩:=I.loc;hn.lt
theorem Inv.sz (I:Inv X pins σ H s):X.s₀.heap.objs.size<=s.heap.objs.size:=le_trans I.ok.above (Nat.le_of_lt I.lt)
theorem Inv.nofs (I:Inv X pins σ H s) (h:s.heap.objs.size<=a):a ∉ X.fs:=fun hb=>by
 obtain ⟨_,o,ho,_⟩:=I.ok.funs.mem hb
 exact absurd (lt_of_lt_of_le (Heap.lt_size ho) (le_trans I.sz h)) (lt_irrefl _)
theorem Inv.cne (I:Inv X pins σ H s) : ∀ x c,X.env.cells.lookup x=some c->c≠X.env.locals:=fun x c e z=>by
 obtain ⟨v,o,ho,hd⟩:=I.cell x c e
 obtain ⟨m,⟨o',es,ep,ho',hd',_⟩,_⟩:=I.loc
 rw [z,ho'] at ho;cases ho;rw [hd'] at hd;cases hd
theorem Inv.funs (I:Inv X pins σ H s):s.heap.FunFrames X.base X.outer:=by
 have all : ∀ (l:List Env),(∀ b ∈ frs l,b ∈ X.fs)->X.s₀.heap.FunFrames X.base l->s.heap.FunFrames X.base l:=by
  intro l
  induction l with
  | nil=>intro _ _;trivial
  | cons env r ih =>
   intro hs hl
   obtain ⟨hk,⟨L,o,hf,hn,ho,hd⟩,hr⟩:=hl
   have hL:L ∈ X.fs:=hs L (by unfold frs;rw [List.filterMap_cons,hf];exact List.mem_cons_self)
   obtain ⟨sl,e⟩:=I.base.slot L o ho (I.ok.frf L hL) hL fun z=>I.ok.exfs L z hL
   exact ⟨hk,⟨L,_,hf,hn,e,hd⟩,ih (fun b hb=>hs b (by unfold frs;rw [List.filterMap_cons,hf];exact mem_cons_of_mem _ hb)) hr⟩
 exact all X.outer (fun _ hb=>hb) I.ok.funs
theorem Inv.stack (I:Inv X pins σ H s):s.heap.FunFrames X.base X.stack:=by
 rcases I.ok.stk with e | ⟨e,hf⟩
 ·rw [e];exact I.funs
 ·rw [e]
  obtain ⟨m,hn,_⟩:=I.loc
  refine .cons (by rw [I.ok.kind];decide) hf hn ?_ I.funs
  exact Heap.get?_none_of_le (le_trans I.ok.bsz I.ok.above)
theorem Inv.stkSub (I:Inv X pins σ H s) : ∀ b ∈ frs X.stack,b ∈ X.env.locals::X.fs:=fun b hb=>by
 rcases I.ok.stk with e | ⟨e,hf⟩
 ·rw [e] at hb;exact mem_cons_of_mem _ hb
 ·rw [e] at hb
  unfold frs at hb
  rw [List.filterMap_cons,hf] at hb
  exact hb
theorem Inv.stkFree (I:Inv X pins σ H s) : ∀ b ∈ frs X.stack,H b=none:=fun b hb=>by
 rcases List.mem_cons.mp (I.stkSub b hb) with e | hb
 ·rw [e];exact I.free
 ·obtain ⟨_,o,ho,_⟩:=I.ok.funs.mem hb
  exact I.base.free b o ho (I.ok.frf b hb) fun z=>I.ok.exfs b z hb
variable {t':Nat} {ch:List Addr}
theorem Inv.step {g':Array GenState} {d':Drawn} (I:Inv X pins σ H s)
  (hch : ∀ b ∈ ch,(b ∈ X.ex\/X.s₀.heap.objs.size<=b)/\b≠X.env.locals/\(∀ x c,X.env.cells.lookup x=some c->c≠b) /\ ∀ p ∈ X.pn++pins,p.1≠b)
  (keep : ∀ b o,b≠X.env.locals->b ∉ X.fs->b ∉ ch->s.heap.get? b=some o->H b=none->h'.get? b=some o)
  (slot : ∀ b o,b≠X.env.locals->b ∈ X.fs->b ∉ ch->s.heap.get? b=some o->H b=none -> ∃ sl,h'.get? b=some { o with slots:=sl }) (free : ∀ b o,b ∉ ch->s.heap.get? b=some o->H b=none->H' b=none)
  (there : ∀ b o,b ∉ ch->s.heap.get? b=some o -> ∃ o',h'.get? b=some o')
  (tups : ∀ b xs,H b=some (.tup xs)->H' b=some (.tup xs)) (frzs : ∀ b o u,H b=some (.frz o u)->H' b=some (.frz o u)) (tbls : ∀ b ps,H b=some (.tbl ps) -> ∃ more,H' b=some (.tbl (ps++more)))
  (ns : ∀ m,s.heap.Ns X.env.locals m->h'.Ns X.env.locals m) (hok:HOk X.prog X.w H' h') (hg:AllBare g') :
  Inv X pins σ H' { s with heap:=h',gens:=g',drawn:=d',toks:=t' }:=by
 have neL : ∀ b o,X.s₀.heap.get? b=some o->b≠X.env.locals:=fun b o e=>ne_of_lt (lt_of_lt_of_le (Heap.lt_size e) I.ok.above)
 have neC : ∀ b o,X.s₀.heap.get? b=some o->b ∉ X.ex->b ∉ ch:=fun b o e hx hb=>by
  rcases (hch b hb).1 with z | z
  ·exact hx z
  ·exact absurd (lt_of_lt_of_le (Heap.lt_size e) z) (lt_irrefl _)
 have cellK : ∀ x c,X.env.cells.lookup x=some c -> ∀ v,s.heap.IsCell c v->h'.IsCell c v:=fun x c e v ⟨o,ho,hd⟩=>by
  have nch:c ∉ ch:=fun z=>(hch c z).2.2.1 x c e rfl
  by_cases hc:c ∈ X.fs
  ·obtain ⟨sl,q⟩:=slot c o (I.cne x c e) hc nch ho (I.freeC x c e)
   exact ⟨_,q,hd⟩
  ·exact ⟨o,keep c o (I.cne x c e) hc nch ho (I.freeC x c e),hd⟩
 refine ⟨I.ok,I.os,hg,⟨fun b o e n hb hx=>?_,fun b o e n hb hx=>?_,fun b o e n hx=>?_,fun b o e hx=>?_,fun b xs e=>tups b xs (I.base.tups b xs e),fun b o xs e=>frzs b o xs (I.base.frzs b o xs e),fun b ps e=>?_⟩,?_,fun x c e=>?_,?_,fun x c e=>?_,fun p hp=>?_,hok,I.len⟩
 ·exact keep b o (neL b o e) hb (neC b o e hx) (I.base.keep b o e n hb hx) (I.base.free b o e n hx)
 ·obtain ⟨sl,e1⟩:=I.base.slot b o e n hb hx
  obtain ⟨sl',e2⟩:=slot b _ (neL b o e) hb (neC b o e hx) e1 (I.base.free b o e n hx)
  exact ⟨sl',e2⟩
 ·obtain ⟨o',e1⟩:=I.base.there b o e hx
  exact free b o' (neC b o e hx) e1 (I.base.free b o e n hx)
 ·obtain ⟨o',e1⟩:=I.base.there b o e hx
  exact there b o' (neC b o e hx) e1
 ·obtain ⟨m1,e1⟩:=I.base.tbls b ps e
  obtain ⟨m2,e2⟩:=tbls b _ e1
  exact ⟨m1++m2,by rw [e2,Array.append_assoc]⟩
 ·obtain ⟨m,hn,hl⟩:=I.loc
  refine ⟨m,ns m hn,fun i x v e1 e2 e3=>?_⟩
  obtain ⟨u,r,l⟩:=hl i x v e1 e2 e3
  refine ⟨u,r,?_⟩
  rcases l with l | ⟨k,c,e,z⟩
  ·exact .inl l
  ·exact .inr ⟨k,c,e,cellK x c e _ z⟩
 ·obtain ⟨v,z⟩:=I.cell x c e
  exact ⟨v,cellK x c e v z⟩
 ·obtain ⟨m,⟨o,_,_,ho,_⟩,_⟩:=I.loc
  exact free _ o (fun z=>(hch _ z).2.1 rfl) ho I.free
 ·obtain ⟨v,o,ho,hd⟩:=I.cell x c e
  exact free c o (fun z=>(hch c z).2.2.1 x c e rfl) ho (I.freeC x c e)
 ·obtain ⟨e,n,ne,nf,d⟩:=I.pin p hp
  have nch:p.1 ∉ ch:=fun z=>(hch p.1 z).2.2.2 p hp rfl
  exact ⟨keep p.1 p.2 ne nf nch e n,free p.1 p.2 nch e n,ne,nf,d⟩
theorem Inv.un (I:Inv X pins σ H s) (u:Un X.fs [] H H' s.heap h') (hok:HOk X.prog X.w H' h'):Inv X pins σ H' { s with heap:=h',toks:=t' }:=by
 obtain ⟨m,⟨o,es,ep,ho,r⟩,_⟩:=id I.loc
 obtain ⟨sl,hL⟩:=u.any ho I.free (by simp)
 exact I.step (g':=s.gens) (d':=s.drawn) (ch:=[]) (fun _ z=>nomatch z) (fun b o _ hb _ e n=>u.keep b o e n hb (by simp)) (fun b o _ hb _ e n=>u.slot b o e n hb (by simp)) (fun b o _ e n=>u.free b o e n (by simp)) (fun b o _ e=>u.there b o e (by simp)) u.tups u.frzs u.tbls (fun m' hm=>by
  obtain ⟨o',es',ep',ho',r'⟩:=hm
  rw [ho] at ho';cases ho'
  exact ⟨_,es',ep',hL,r'⟩) hok I.bare
theorem Inv.call {g':Array GenState} {d':Drawn} (I:Inv X pins σ H s) (u:Un (frs X.stack) ch H H' s.heap h') (hok:HOk X.prog X.w H' h') (hg:AllBare g')
  (hch : ∀ b ∈ ch,(b ∈ X.ex\/X.s₀.heap.objs.size<=b)/\b≠X.env.locals/\(∀ x c,X.env.cells.lookup x=some c->c≠b) /\ ∀ p ∈ X.pn++pins,p.1≠b) :
  Inv X pins σ H' { s with heap:=h',gens:=g',drawn:=d',toks:=t' }:=by
 obtain ⟨m,⟨o,es,ep,ho,r⟩,_⟩:=id I.loc
 obtain ⟨sl,hL⟩:=u.any ho I.free fun z=>(hch _ z).2.1 rfl
 exact I.step (ch:=ch) hch (fun b o hL hb hc e n=>u.keep b o e n (fun z=>(List.mem_cons.mp (I.stkSub b z)).elim hL hb) hc) (fun b o _ _ hc e n=>u.any e n hc) (fun b o hc e n=>u.free b o e n hc) (fun b o hc e=>u.there b o e hc) u.tups u.frzs u.tbls (fun m' hm=>by
  obtain ⟨o',es',ep',ho',r'⟩:=hm
  rw [ho] at ho';cases ho'
  exact ⟨_,es',ep',hL,r'⟩) hok hg
theorem Inv.turned {it:Addr} (I:Inv X pins σ H s) (k : ∀ b o,b≠it->s.heap.get? b=some o->h'.get? b=some o) (hn:H it=none) (hL:it≠X.env.locals)
  (h1:it ∈ X.ex\/X.s₀.heap.objs.size<=it) (h2 : ∀ x c,X.env.cells.lookup x=some c->c≠it) (h3 : ∀ p ∈ X.pn++pins,p.1≠it):Inv X pins σ H { s with heap:=h',toks:=t' }:=by
 have nit : ∀ b u,H b=some u->b≠it:=fun b u e z=>by rw [z,hn] at e;cases e
 refine I.step (g':=s.gens) (d':=s.drawn) (ch:=[it]) (fun b hb=>?_) (fun b o _ _ hc e _=>k b o (fun z=>hc (by simp [z])) e) (fun b o _ _ hc e _=>⟨o.slots,k b o (fun z=>hc (by simp [z])) e⟩) (fun _ _ _ _ n=>n)
  (fun b o hc e=>⟨o,k b o (fun z=>hc (by simp [z])) e⟩) (fun _ _ e=>e) (fun _ _ _ e=>e) (fun b ps e=>⟨#[],by rw [e];simp⟩) (fun m hm=>?_) (fun b u e=>?_) I.bare
 ·have e:b=it:=by simpa using hb
  subst e
  exact ⟨h1,hL,h2,h3⟩
 ·obtain ⟨o,es,ep,ho,r⟩:=hm
  exact ⟨o,es,ep,k _ o (Ne.symm hL) ho,r⟩
 ·refine (I.hok b u e).stay (fun c v hc q=>k c v ?_ q) (fun _ q=>q) fun _ _ q=>q
  rcases hc with z | z
  ·rw [z];exact nit b u e
  ·exact nit c _ z
theorem Inv.tok (I:Inv X pins σ H s) (t:Nat):Inv X pins σ H { s with toks:=t }:=I.un (h':=s.heap) (t':=t) Un.refl I.hok
theorem Inv.kept (I:Inv X pins σ H s) (k : ∀ b u,s.heap.get? b=some u->h'.get? b=some u):Inv X pins σ H { s with heap:=h',toks:=t' }:=I.un (Un.kept k) (I.hok.kept k)
theorem Inv.laid (I:Inv X pins σ H s) (k : ∀ b u,s.heap.get? b=some u->h'.get? b=some u) (hp:s.heap.objs.size<=a) (new:jo X.prog X.w (upd H a o) h' a o) :
  Inv X pins σ (upd H a o) { s with heap:=h',toks:=t' }:=I.un (Un.laid k hp (I.hok.fresh hp)) (I.hok.laid k hp new)
theorem Inv.write {x e:Addr} (I:Inv X pins σ H s) (mu:Mut (H x)) (he:e=x\/H e=some (.own x)) (k : ∀ b u,b≠e->s.heap.get? b=some u->h'.get? b=some u) (heo : ∃ u,h'.get? e=some u)
  (new:jo X.prog X.w (upd H x o) h' x o):Inv X pins σ (upd H x o) { s with heap:=h',toks:=t' }:=I.un (Un.write mu he k heo) (I.hok.write mu he k heo new)
theorem Inv.weak {σ':List (Option V)} (I:Inv X pins σ H s) (hl:σ'.length=σ.length) (w : ∀ (i:Nat) v,σ'[i]? = some (some v)->σ[i]? = some (some v)):Inv X pins σ' H s:=
 ⟨I.ok,I.os,I.bare,I.base,let ⟨m,hn,hl'⟩:=I.loc;⟨m,hn,fun i x v e1 e2 e3=>hl' i x v e1 (w i v e2) e3⟩,I.cell,I.free,I.freeC,I.pin,I.hok,hl.trans I.len⟩
theorem Inv.pins_of {pins':List (Addr × Obj)} (I:Inv X pins σ H s) (h : ∀ p ∈ pins',s.heap.get? p.1=some p.2/\H p.1=none/\p.1≠X.env.locals/\p.1 ∉ X.fs /\ ∀ v,p.2.data ≠ .cell v):Inv X pins' σ H s:=
 ⟨I.ok,I.os,I.bare,I.base,I.loc,I.cell,I.free,I.freeC,fun p hp=>(List.mem_append.mp hp).elim (fun z=>I.pin p (List.mem_append_left _ z)) (h p),I.hok,I.len⟩
variable {i:Nat} {x:Str}
theorem WO {N:List Str} (hN:N.Nodup) {j:Nat} (a:N[i]? = some x) (b:N[j]? = some x):i=j:=by
 obtain ⟨h1,e1⟩:=List.getElem?_eq_some_iff.mp a
 obtain ⟨h2,e2⟩:=List.getElem?_eq_some_iff.mp b
 exact (List.getElem_inj hN).mp (e1.trans e2.symm)
theorem J2 {M:Model} {A:Around} {E:Value->Shared->Prop} {v:V} {u:Value} {Q:Unit->Shared->Prop} (I:Inv X pins σ H s) (hN:X.N.Nodup) (hi:X.N[i]? = some x) (hx:Loc X.env.scope x) (r:jz v u)
  (h : ∀ s',Inv X pins (σ.set i (some v)) H s'->(∃ a,Heap.SameBut a s.heap s'.heap/\(a=X.env.locals\/X.env.cells.lookup x=some a))->Q () s') (hf:X.fn x=true\/X.env.scope.names.lookup x=some .local:=by first | exact .inl rfl | exact .inr rfl | assumption):wpAny M A (storeName X.env x u) Q E s:=by
 obtain ⟨m,hn,hl⟩:=id I.loc
 have hcls:(X.env.scope.kind == .class || (X.env.scope.kind == .module && X.env.locals != X.env.globals))=false:=by rw [I.ok.kind];rfl
 have hiσ:i < σ.length:=by rw [I.len];exact (List.getElem?_eq_some_iff.mp hi).1
 have cne:=I.cne
 have tracked : ∀ {a:Addr} {h':Heap},(∃ o,s.heap.get? a=some o/\H a=none)->Heap.SameBut a s.heap h'->HOk X.prog X.w H h':=fun {a h'} ha hs b ob e=>by
  obtain ⟨_,_,hfree⟩:=ha
  refine (I.hok b ob e).stay (fun c w' hc q=>(hs.2 c ?_).trans q) (fun _ q=>q) fun _ _ q=>q
  rintro rfl
  rcases hc with rfl | hc
  ·rw [hfree] at e;cases e
  ·rw [hfree] at hc;cases hc
 rcases hx with hk | hk
 ·refine wpAny_storeName_local hk hn (fun h' hn' hs=>?_) hcls
  obtain ⟨oL,_,_,hoL,_⟩:=id hn
  refine h _ ⟨I.ok,I.os,I.bare,⟨fun b o e n hb hx=>?_,fun b o e n hb hx=>?_,I.base.free,fun b o e hx=>?_,I.base.tups,I.base.frzs,I.base.tbls⟩,⟨_,hn',fun j y v' e1 e2 e3=>?_⟩,fun y c e=>?_,I.free,I.freeC,fun p hp=>?_,tracked ⟨oL,hoL,I.free⟩ hs,by simpa using I.len⟩ ⟨_,hs,.inl rfl⟩
  ·exact (hs.2 b (ne_of_lt (lt_of_lt_of_le (Heap.lt_size e) I.ok.above))).trans (I.base.keep b o e n hb hx)
  ·obtain ⟨sl,e1⟩:=I.base.slot b o e n hb hx
   exact ⟨sl,(hs.2 b (ne_of_lt (lt_of_lt_of_le (Heap.lt_size e) I.ok.above))).trans e1⟩
  ·obtain ⟨o',e1⟩:=I.base.there b o e hx
   exact ⟨o',(hs.2 b (ne_of_lt (lt_of_lt_of_le (Heap.lt_size e) I.ok.above))).trans e1⟩
  ·by_cases hj:j=i
   ·subst hj
    rw [hi] at e1;cases e1
    rw [List.getElem?_set_self hiσ] at e2
    cases e2
    exact ⟨u,r,.inl ⟨hk,by simp⟩⟩
   ·rw [List.getElem?_set_ne (Ne.symm hj)] at e2
    obtain ⟨u',r',q⟩:=hl j y v' e1 e2 e3
    refine ⟨u',r',?_⟩
    rcases q with ⟨k,e⟩ | ⟨k,c,e,z⟩
    ·refine .inl ⟨k,?_⟩
     have:y≠x:=fun e=>hj (WO hN e1 (e ▸ hi))
     simp [this,e]
    ·exact .inr ⟨k,c,e,z.sameBut hs (cne y c e)⟩
  ·obtain ⟨w',z⟩:=I.cell y c e
   exact ⟨w',z.sameBut hs (cne y c e)⟩
  ·obtain ⟨e,n,ne,nf,d⟩:=I.pin p hp
   exact ⟨(hs.2 p.1 ne).trans e,n,ne,nf,d⟩
 ·have hfn:X.fn x=true:=by
   rcases hf with z | z
   ·exact z
   ·rw [z] at hk;cases hk
  obtain ⟨c,hc⟩:=I.ok.has x (.inl hk)
  obtain ⟨w',z⟩:=I.cell x c hc
  refine wpAny_storeName_cell I.ok.kind hk hc z (fun h' hc' hs=>?_)
  obtain ⟨oc,hoc,hocd⟩:=id z
  refine h { s with heap:=h' } ⟨I.ok,I.os,I.bare,⟨fun b o e n hb hx=>?_,fun b o e n hb hx=>?_,I.base.free,fun b o e hx=>?_,I.base.tups,I.base.frzs,I.base.tbls⟩,⟨m,hn.sameBut hs (Ne.symm (cne x c hc)),fun j y v' e1 e2 e3=>?_⟩,fun y c' e=>?_,I.free,I.freeC,fun p hp=>?_,tracked ⟨oc,hoc,I.freeC x c hc⟩ hs,by simpa using I.len⟩ ⟨c,hs,.inr hc⟩
  ·exact (hs.2 b (ne_of_lt (lt_of_lt_of_le (Heap.lt_size e) (I.ok.cab x c hfn hc)))).trans (I.base.keep b o e n hb hx)
  ·obtain ⟨sl,e1⟩:=I.base.slot b o e n hb hx
   exact ⟨sl,(hs.2 b (ne_of_lt (lt_of_lt_of_le (Heap.lt_size e) (I.ok.cab x c hfn hc)))).trans e1⟩
  ·obtain ⟨o',e1⟩:=I.base.there b o e hx
   exact ⟨o',(hs.2 b (ne_of_lt (lt_of_lt_of_le (Heap.lt_size e) (I.ok.cab x c hfn hc)))).trans e1⟩
  ·by_cases hj:j=i
   ·subst hj
    rw [hi] at e1;cases e1
    rw [List.getElem?_set_self hiσ] at e2
    cases e2
    exact ⟨u,r,.inr ⟨.inl hk,c,hc,hc'⟩⟩
   ·rw [List.getElem?_set_ne (Ne.symm hj)] at e2
    obtain ⟨u',r',q⟩:=hl j y v' e1 e2 e3
    refine ⟨u',r',?_⟩
    rcases q with q | ⟨k,c',e,z'⟩
    ·exact .inl q
    ·refine .inr ⟨k,c',e,z'.sameBut hs ?_⟩
     rintro rfl
     exact hj (WO hN e1 (I.ok.inj _ _ _ e hc ▸ hi))
  ·by_cases hcc:c'=c
   ·subst hcc;exact ⟨_,hc'⟩
   ·obtain ⟨w2,z2⟩:=I.cell y c' e
    exact ⟨w2,z2.sameBut hs hcc⟩
  ·obtain ⟨e,n,ne,nf,d⟩:=I.pin p hp
   refine ⟨(hs.2 p.1 ?_).trans e,n,ne,nf,d⟩
   intro q
   rw [q,hoc] at e
   have q':oc=p.2:=Option.some.inj e
   exact d w' (by rw [<- q'];exact hocd)
theorem YY {M:Model} {A:Around} {E:Value->Shared->Prop} {v:V} {u:Value} {Q:Unit->Shared->Prop} (I:Inv X pins σ H s) (hN:X.N.Nodup) (hi:X.N[i]? = some x) (hx:Loc X.env.scope x) (r:jz v u)
  (h : ∀ s',Inv X pins (σ.set i (some v)) H s'->Q () s') (hf:X.fn x=true\/X.env.scope.names.lookup x=some .local:=by first | exact .inl rfl | exact .inr rfl | assumption):wpAny M A (storeName X.env x u) Q E s:=
 J2 I hN hi hx r (fun s' I' _=>h s' I') hf
theorem Inv.call' {s':Shared} (I:Inv X pins σ H s) (ho:s'.os=s.os) (u:Un (frs X.stack) ch H H' s.heap s'.heap) (hok:HOk X.prog X.w H' s'.heap) (hg:AllBare s'.gens)
  (hch : ∀ b ∈ ch,(b ∈ X.ex\/X.s₀.heap.objs.size<=b)/\b≠X.env.locals/\(∀ x c,X.env.cells.lookup x=some c->c≠b) /\ ∀ p ∈ X.pn++pins,p.1≠b):Inv X pins σ H' s':=by
 obtain ⟨h',g',d',t',o'⟩:=s'
 have e:o'=s.os:=ho
 subst e
 exact I.call (g':=g') (t':=t') (d':=d') u hok hg hch
end
abbrev XK:=Value->Option Addr->Hp->Prop
abbrev St:=List (Option V)
abbrev VK:=V->Hp->Prop
abbrev TE:=St->Hp->VK->Prop
abbrev TT:=St->Hp->(Bool->Hp->Prop)->Prop
abbrev TA:=St->Hp->(List V->Hp->Prop)->Prop
structure Z9 where
 nx:St->Hp->Prop
 rt:VK
 bk:St->Hp->Prop:=fun _ _=>False
 ct:St->Hp->Prop:=fun _ _=>False
abbrev TS:=Z9->St->Hp->Prop
def EP (X:Cx) (pins:List (Addr × Obj)) (σ:St) (Q:VK) (u:Value) (s':Shared):Prop:=∃ v H',Inv X pins σ H' s'/\jz v u/\Q v H'
def TP (X:Cx) (pins:List (Addr × Obj)) (σ:St) (Q:Bool->Hp->Prop) (b:Bool) (s':Shared):Prop:=∃ H',Inv X pins σ H' s'/\Q b H'
def AP (X:Cx) (pins:List (Addr × Obj)) (σ:St) (Q:List V->Hp->Prop) (us:List Value) (s':Shared):Prop:=∃ vs H',Inv X pins σ H' s'/\qM vs us/\Q vs H'
def SP (X:Cx) (pins:List (Addr × Obj)) (D:Z9) (f:Flow) (s':Shared):Prop:=
 match f with
 | .next=>∃ σ' H',Inv X pins σ' H' s'/\D.nx σ' H'
 | .brk=>∃ σ' H',Inv X pins σ' H' s'/\D.bk σ' H'
 | .cont=>∃ σ' H',Inv X pins σ' H' s'/\D.ct σ' H'
 | .ret u=>∃ v σ' H',Inv X pins σ' H' s'/\jz v u/\D.rt v H'
def PE (X:Cx) (e:Expr) (t:TE):Prop:=
 ∀ (pins:List (Addr × Obj)) (s:Shared) (σ:St) (H:Hp) (Q:VK),Inv X pins σ H s->t σ H Q->wpAny (model X.prog X.w) X.A (eval e X.env) (EP X pins σ Q) X.xe s
def PT (X:Cx) (e:Expr) (t:TT):Prop:=
 ∀ (pins:List (Addr × Obj)) (s:Shared) (σ:St) (H:Hp) (Q:Bool->Hp->Prop),Inv X pins σ H s->t σ H Q->wpAny (model X.prog X.w) X.A (isTrue e X.env (eval e X.env)) (TP X pins σ Q) X.xe s
def PW (X:Cx) (e:Expr) (t:TT):Prop:=
 ∀ (whole:Sem Value) (pins:List (Addr × Obj)) (s:Shared) (σ:St) (H:Hp) (Q:Bool->Hp->Prop),Inv X pins σ H s->t σ H Q->wpAny (model X.prog X.w) X.A (isTrue e X.env whole) (TP X pins σ Q) X.xe s
variable {X:Cx}
theorem PW.pt {e:Expr} {t:TT} (h:PW X e t):PT X e t:=h _
def PA (X:Cx) (es:List Expr) (t:TA):Prop:=
 ∀ (pos:Pos) (pins:List (Addr × Obj)) (s:Shared) (σ:St) (H:Hp) (Q:List V->Hp->Prop),Inv X pins σ H s->t σ H Q->wpAny (model X.prog X.w) X.A (spliced (backTo pos (starEach es X.env))) (AP X pins σ Q) X.xe s
def PS (X:Cx) (st:Stmt) (t:TS):Prop:=
 ∀ (pins:List (Addr × Obj)) (s:Shared) (σ:St) (H:Hp) (D:Z9),Inv X pins σ H s->t D σ H->wpAny (model X.prog X.w) X.A (exec st X.env) (SP X pins D) X.xe s
def PSs (X:Cx) (st:List Stmt) (t:TS):Prop:=
 ∀ (pins:List (Addr × Obj)) (s:Shared) (σ:St) (H:Hp) (D:Z9),Inv X pins σ H s->t D σ H->wpAny (model X.prog X.w) X.A (execs st X.env) (SP X pins D) X.xe s
variable {A:Around} {E:Value->Shared->Prop}
theorem thn {α:Type} {t:Sem α} {Q Q':α->Shared->Prop} {M:Model} {s:Shared} (h:wpAny M A t Q E s) (hQ : ∀ a s,Q a s->Q' a s):wpAny M A t Q' E s:=wpAny_mono h hQ fun _ _ x=>x
section
variable {X : Cx}
def zFB (i:Nat):TE:=fun σ H Q=>∃ v,σ[i]? = some (some v)/\Q v H
def tC (v:V):TE:=fun _ H Q=>Q v H
variable {x:Str} {pos:Pos}
theorem zJu {i:Nat} (hN:X.N[i]? = some x) (hv:Vis X.env.scope x) (hd:(x == ("__debug__" : Str))=false:=by decide) (hcd:(x == ("__classdict__" : Str))=false:=by decide):PE X (.Name x pos) (zFB i):=by
 intro pins s σ H Q I h
 obtain ⟨v,e,h⟩:=h
 obtain ⟨m,hn,hl⟩:=I.loc
 obtain ⟨u,r,l⟩:=hl i x v hN e hv
 have fin:EP X pins σ Q u s:=⟨v,H,I,r,h⟩
 rcases l with ⟨hk,hm⟩ | ⟨hk,c,hc,hcell⟩
 ·exact wpAny_Name (wpAny_loadName_local I.ok.kind hk hn hm fin) hd
 ·rcases hk with hk | hk
  ·exact wpAny_Name (wpAny_loadName_cell I.ok.kind hk hc hcell fin) hd
  ·exact wpAny_Name (wpAny_loadName_free I.ok.kind hk hc hcell fin hcd) hd
theorem zB {i j pos}:PE X (.Constant (.int i) j pos) (tC (.int i)):=fun _ _ _ H _ I h=>wpAny_Constant_int ⟨.int i,H,I.tok _,⟨_,rfl⟩,h⟩
theorem Qm {b j pos}:PE X (.Constant (.bool b) j pos) (tC (.bl b)):=fun _ _ _ H _ I h=>Constant_bool ⟨.bl b,H,I,rfl,h⟩
theorem Jl {j pos}:PE X (.Constant .none j pos) (tC .non):=fun _ _ _ H _ I h=>Constant_none ⟨.non,H,I,rfl,h⟩
theorem zZ {x j pos}:PE X (.Constant (.str x) j pos) (tC (.str x)):=fun _ _ _ H _ I h=>Calls.Constant_str ⟨.str x,H,I.tok _,⟨_,rfl⟩,h⟩
def Gl (X:Cx) (x:Str):Prop:=X.env.kindOf x=some .globalImplicit
theorem jr {pins:List (Addr × Obj)} {s:Shared} {σ:St} {u:Value} {Q:Value->Shared->Prop} (I:Inv X pins σ H s) (hg:Gl X x) (hm:X.mg x=some u) (h:Q u s)
  (hd:(x == ("__debug__" : Str))=false:=by decide):wpAny (model X.prog X.w) X.A (eval (.Name x pos) X.env) Q E s:=
 Calls.Name_function_global I.ok.kind hg (Calls.loadGlobal_global (by rw [I.ok.glob];exact I.mod.glob.keeps I.bk) hm h) hd
theorem YC {pins:List (Addr × Obj)} {s:Shared} {σ:St} {u:Value} {Q:Value->Shared->Prop} (I:Inv X pins σ H s) (hg:Gl X x) (hm:X.mg x=none) (hv:bootBuiltins x=some u) (h:Q u s)
  (hn:x ≠ "__name__" := by decide) (hd:(x == ("__debug__" : Str))=false:=by decide):wpAny (model X.prog X.w) X.A (eval (.Name x pos) X.env) Q E s:=by
 obtain ⟨mb,h1,h2⟩:=I.mod.blt
 exact Calls.Name_function_global I.ok.kind hg (Calls.loadGlobal_builtin (by rw [I.ok.glob];exact I.mod.glob.keeps I.bk) hm (by rw [I.ok.blt];exact h1.keeps I.bk) ((h2 x hn).trans hv) h) hd
theorem qq {v:V} {u:Value} (hg:Gl X x) (hm:X.mg x=some u) (r:jz v u) (hd:(x == ("__debug__" : Str))=false:=by decide):PE X (.Name x pos) (tC v):=
 fun _ _ _ H _ I h=>jr I hg hm ⟨v,H,I,r,h⟩ hd
theorem ki {v:V} {u:Value} (hg:Gl X x) (hm:X.mg x=none) (hv:bootBuiltins x=some u) (r:jz v u) (hn:x ≠ "__name__" := by decide) (hd:(x == ("__debug__" : Str))=false:=by decide):PE X (.Name x pos) (tC v):=
 fun _ _ _ H _ I h=>YC I hg hm hv ⟨v,H,I,r,h⟩ hn hd
variable {a b : Expr} {ta tb : TE} {pos : Pos}
def tB (t:TE):TT:=fun σ H Q=>t σ H fun x H1=>∃ c,x = .bl c/\Q c H1
theorem qd {e:Expr} {t:TE} (h:PE X e t) (he : ∀ whole,isTrue e X.env whole=(do let v <- whole;standAt e.pos;holding [v] (truthy v)):=by intro _;rfl):PT X e (tB t):=by
 intro pins s σ H Q I hw
 refine isTrue_plain (thn (h pins s σ H _ I hw) fun v s1 zq=>?_) (he _)
 obtain ⟨x,H1,I1,r1,q1⟩:=zq
 obtain ⟨d,rfl,q⟩:=q1
 cases r1
 exact wpAny_truthy_bool ⟨H1,I1,q⟩
variable {tA tB' : TT} {yp : List Expr}
def zLh (t u:TT):TT:=fun σ H Q=>t σ H fun c H1=>if c=true then u σ H1 Q else Q false H1
def tOr (t u:TT):TT:=fun σ H Q=>t σ H fun c H1=>if c=true then Q true H1 else u σ H1 Q
def zLw (t:TT):TT:=fun σ H Q=>t σ H fun c H1=>Q (!c) H1
theorem Zv (ha:PT X a tA):PW X (.BoolOp .And [a] pos) tA:=by
 intro wh pins s σ H Q I h
 refine isTrue_and (thn (ha pins s σ H Q I h) fun c s1 e=>?_)
 cases c with
 | true=>exact isTrue_and_nil e
 | false=>exact e
theorem j8 (ha:PT X a tA):PW X (.BoolOp .Or [a] pos) tA:=by
 intro wh pins s σ H Q I h
 refine isTrue_or (thn (ha pins s σ H Q I h) fun c s1 e=>?_)
 cases c with
 | false=>exact isTrue_or_nil e
 | true=>exact e
theorem Ji (ha:PT X a tA) (hb:PW X (.BoolOp .And (b::yp) pos) tB'):PW X (.BoolOp .And (a::b::yp) pos) (zLh tA tB'):=by
 intro wh pins s σ H Q I h
 refine isTrue_and (thn (ha pins s σ H _ I h) fun c s1 zq=>?_)
 obtain ⟨H1,I1,q1⟩:=zq
 cases c with
 | true=>exact hb wh pins s1 σ H1 Q I1 q1
 | false=>exact ⟨H1,I1,q1⟩
theorem kz (ha:PT X a tA) (hb:PW X (.BoolOp .Or (b::yp) pos) tB'):PW X (.BoolOp .Or (a::b::yp) pos) (tOr tA tB'):=by
 intro wh pins s σ H Q I h
 refine isTrue_or (thn (ha pins s σ H _ I h) fun c s1 zq=>?_)
 obtain ⟨H1,I1,q1⟩:=zq
 cases c with
 | true=>exact ⟨H1,I1,q1⟩
 | false=>exact hb wh pins s1 σ H1 Q I1 q1
theorem xb (ha:PT X a tA):PT X (.UnaryOp .Not a pos) (zLw tA):=by
 intro pins s σ H Q I h
 exact isTrue_not (ha pins s σ H (fun c H1=>Q (!c) H1) I h)
def zHg (ta tb:TE):TE:=fun σ H Q=>ta σ H fun x H1=>∃ c,x = .bl c/\if c=true then tb σ H1 Q else Q (.bl false) H1
def zLT (ta tb:TE):TE:=fun σ H Q=>ta σ H fun x H1=>∃ c,x = .bl c/\if c=true then Q (.bl true) H1 else tb σ H1 Q
def zII (ta:TE):TE:=fun σ H Q=>ta σ H fun x H1=>∃ c,x = .bl c/\Q (.bl (!c)) H1
theorem ku {op} {t:TE} (h:PE X a t):PE X (.BoolOp op [a] pos) t:=fun pins s σ H Q I hw=>BoolOp_one (h pins s σ H Q I hw)
theorem Qt (ha:PE X a ta) (hb:PE X (.BoolOp .And (b::yp) pos) tb):PE X (.BoolOp .And (a::b::yp) pos) (zHg ta tb):=by
 intro pins s σ H Q I h
 refine BoolOp_and (thn (ha pins s σ H _ I h) fun v s1 zq=>?_)
 obtain ⟨x,H1,I1,r1,q1⟩:=zq
 obtain ⟨c,rfl,q1⟩:=q1
 cases r1
 refine wpAny_truthy_bool ?_
 cases c with
 | true=>exact hb pins s1 σ H1 Q I1 q1
 | false=>exact ⟨.bl false,H1,I1,rfl,q1⟩
theorem zHN (ha:PE X a ta) (hb:PE X (.BoolOp .Or (b::yp) pos) tb):PE X (.BoolOp .Or (a::b::yp) pos) (zLT ta tb):=by
 intro pins s σ H Q I h
 refine BoolOp_or (thn (ha pins s σ H _ I h) fun v s1 zq=>?_)
 obtain ⟨x,H1,I1,r1,q1⟩:=zq
 obtain ⟨c,rfl,q1⟩:=q1
 cases r1
 refine wpAny_truthy_bool ?_
 cases c with
 | false=>exact hb pins s1 σ H1 Q I1 q1
 | true=>exact ⟨.bl true,H1,I1,rfl,q1⟩
theorem zBx (ha:PE X a ta):PE X (.UnaryOp .Not a pos) (zII ta):=by
 intro pins s σ H Q I h
 refine UnaryOp_ (thn (ha pins s σ H _ I h) fun v s1 zq=>?_)
 obtain ⟨x,H1,I1,r1,q1⟩:=zq
 obtain ⟨c,rfl,q1⟩:=q1
 cases r1
 exact not_of (wpAny_truthy_bool ⟨.bl (!c),H1,I1,rfl,q1⟩)
def tIf (t:TT) (ta tb:TE):TE:=fun σ H Q=>t σ H fun c H1=>if c=true then ta σ H1 Q else tb σ H1 Q
theorem xV {c:Expr} (hc:PT X c tA) (ha:PE X a ta) (hb:PE X b tb):PE X (.IfExp c a b pos) (tIf tA ta tb):=by
 intro pins s σ H Q I h
 refine wpAny_IfExp (thn (hc pins s σ H _ I h) fun d s1 zq=>?_)
 obtain ⟨H1,I1,q1⟩:=zq
 cases d with
 | true=>exact ha pins s1 σ H1 Q I1 q1
 | false=>exact hb pins s1 σ H1 Q I1 q1
end
def SqL (K:W.Frag) (H:Hp) (a:Addr) (xs:List V):Prop:=
 Rd H a (.lst xs) \/
  ∃ (o:Obj) (its:Array Value) (n:Nat),K.lookup a=some o/\o.cls = .type "list" /\ o.dict=none/\o.data = .seq its n/\its.size<=sizeLine/\qM xs its.toList
def SqT (K:W.Frag) (H:Hp) (a:Addr) (xs:List V):Prop:=
 Rd H a (.tup xs) \/
  ∃ (o:Obj) (its:Array Value) (n:Nat),K.lookup a=some o/\o.cls = .type "tuple" /\ o.data = .seq its n/\its.size<=sizeLine/\qM xs its.toList
def zMA:Value->Option V
 | .none=>some .non
 | .bool b=>some (.bl b)
 | .int i _=>some (.int i)
 | .str x _=>some (.str x)
 | .bytes b _=>some (.byt b)
 | .float b _=>some (.flt b)
 | .ref a=>some (.ref a)
 | .type n=>some (.ty n)
 | _=>none
variable {x:V}
theorem jz.abs {u:Value} (r:jz x u):zMA u=some x:=by
 cases x with
 | non=>cases r;rfl
 | bl _=>cases r;rfl
 | int _=>obtain ⟨t,rfl⟩:=r;rfl
 | str _=>obtain ⟨t,rfl⟩:=r;rfl
 | byt _=>obtain ⟨t,rfl⟩:=r;rfl
 | flt _=>obtain ⟨t,rfl⟩:=r;rfl
 | ref _=>cases r;rfl
 | ty _=>cases r;rfl
variable {y:V}
theorem jz.inj {u:Value} (r:jz x u) (q:jz y u):x=y:=Option.some.inj (r.abs.symm.trans q.abs)
theorem qM.inj : ∀ {xs ys:List V} {us:List Value},qM xs us->qM ys us->xs=ys
 | _,_,_,.nil,.nil=>rfl
 | _,_,_,.cons r t,.cons r' t'=>by rw [r.inj r',qM.inj t t']
section
variable {X : Cx} {pins : List (Addr × Obj)} {σ : St} {H : Hp} {s : Shared} {a : Addr} {xs ys : List V}
theorem SqL.of {K:W.Frag} (h:H a=some (.lst xs)):SqL K H a xs:=.inl (.inl h)
theorem SqT.of {K:W.Frag} (h:H a=some (.tup xs)):SqT K H a xs:=.inl (.inl h)
theorem Inv.list (I:Inv X pins σ H s) (h:SqL X.K H a xs) : ∃ its:List Value,qM xs its/\PlainL s.heap a its.toArray/\xs.length<=sizeLine:=by
 rcases h with h | ⟨o,its,n,hk,hc,hd,hs,hz,r⟩
 ·obtain ⟨z,its,n,r,e⟩:=h.ok I.hok
  exact ⟨its,r,⟨_,n,e,rfl,rfl,rfl⟩,z⟩
 ·refine ⟨its.toList,r,⟨o,n,I.kIn a o hk,hc,hd,by simpa using hs⟩,?_⟩
  have e:=r.length
  simp only [Array.length_toList] at e
  omega
theorem Inv.tuple (I:Inv X pins σ H s) (h:SqT X.K H a xs) : ∃ its:List Value,qM xs its/\IsTup s.heap a its.toArray/\xs.length<=sizeLine:=by
 rcases h with h | ⟨o,its,n,hk,hc,hs,hz,r⟩
 ·obtain ⟨z,its,r,p⟩:=h.ok I.hok
  exact ⟨its,r,p,z⟩
 ·refine ⟨its.toList,r,⟨o,I.kIn a o hk,hc,n,by simpa using hs⟩,?_⟩
  have e:=r.length
  simp only [Array.length_toList] at e
  omega
theorem Inv.list_inj (I:Inv X pins σ H s) (h:SqL X.K H a xs) (h':SqL X.K H a ys):xs=ys:=by
 obtain ⟨its,r,⟨o,n,e,_,_,d⟩,_⟩:=I.list h
 obtain ⟨its',r',⟨o',n',e',_,_,d'⟩,_⟩:=I.list h'
 rw [e] at e';cases e'
 rw [d] at d'
 injection d' with d1 _
 have:its=its':=by simpa using congrArg Array.toList d1
 subst this
 exact r.inj r'
end
abbrev Cx.wish (X:Cx) (E:Value->Shared->Prop):Cx:={ X with xe:=E }
abbrev Cx.nox (X:Cx):Cx:=X.wish fun _ _=>False
theorem Cx.Ok.wish (ok:X.Ok) (E:Value->Shared->Prop):(X.wish E).Ok:=
 ⟨ok.mod,ok.kind,ok.glob,ok.blt,ok.above,ok.inj,ok.has,ok.cab,ok.hd,ok.frames,ok.stk,ok.exf,ok.bs,ok.bsz,ok.noex,ok.exfs,ok.funs,ok.frf⟩
theorem Cx.Ok.unwish (ok:(X.wish E).Ok):X.Ok:=
 ⟨ok.mod,ok.kind,ok.glob,ok.blt,ok.above,ok.inj,ok.has,ok.cab,ok.hd,ok.frames,ok.stk,ok.exf,ok.bs,ok.bsz,ok.noex,ok.exfs,ok.funs,ok.frf⟩
section
variable {X : Cx} {pins : List (Addr × Obj)} {σ : St} {H : Hp} {s : Shared} {E : Value -> Shared -> Prop}
theorem Inv.wish (I:Inv X pins σ H s) (E:Value->Shared->Prop):Inv (X.wish E) pins σ H s:=⟨I.ok.wish E,I.os,I.bare,I.base,I.loc,I.cell,I.free,I.freeC,I.pin,I.hok,I.len⟩
theorem Inv.unwish (I:Inv (X.wish E) pins σ H s):Inv X pins σ H s:=⟨I.ok.unwish,I.os,I.bare,I.base,I.loc,I.cell,I.free,I.freeC,I.pin,I.hok,I.len⟩
theorem SP.unwish {D:Z9} {f:Flow} {s':Shared} (h:SP (X.wish E) pins D f s'):SP X pins D f s':=by
 cases f with
 | next=>obtain ⟨σ',H',I,q⟩:=h;exact ⟨σ',H',I.unwish,q⟩
 | brk=>obtain ⟨σ',H',I,q⟩:=h;exact ⟨σ',H',I.unwish,q⟩
 | cont=>obtain ⟨σ',H',I,q⟩:=h;exact ⟨σ',H',I.unwish,q⟩
 | ret u=>obtain ⟨v,σ',H',I,r,q⟩:=h;exact ⟨v,σ',H',I.unwish,r,q⟩
theorem PE.nox {e:Expr} {t:TE} (h:PE X.nox e t):PE X e t:=fun pins s σ H Q I hw =>
 wpAny_mono (h pins s σ H Q (I.wish _) hw) (fun _ _ ⟨v,H',I',r,q⟩=>⟨v,H',I'.unwish,r,q⟩) fun _ _ z=>False.elim z
theorem PT.nox {e:Expr} {t:TT} (h:PT X.nox e t):PT X e t:=fun pins s σ H Q I hw =>
 wpAny_mono (h pins s σ H Q (I.wish _) hw) (fun _ _ ⟨H',I',q⟩=>⟨H',I'.unwish,q⟩) fun _ _ z=>False.elim z
theorem PSs.nox {st:List Stmt} {t:TS} (h:PSs X.nox st t):PSs X st t:=fun pins s σ H D I hw =>
 wpAny_mono (h pins s σ H D (I.wish _) hw) (fun _ _ q=>q.unwish) fun _ _ z=>False.elim z
end
section
variable {X : Cx} {st : Stmt} {yp : List Stmt} {t u : TS} {e : Expr} {te : TE} {pos : Pos}
def zIL:TS:=fun D σ H=>D.nx σ H
def zJJ (t u:TS):TS:=fun D σ H=>t { D with nx:=u D } σ H
theorem zX:PSs X [] zIL:=fun _ _ σ H _ I h=>wpAny_execs_nil ⟨σ,H,I,h⟩
theorem zD (h1:PS X st t) (h2:PSs X yp u):PSs X (st::yp) (zJJ t u):=by
 intro pins s σ H D I h
 refine wpAny_execs_cons (thn (h1 pins s σ H { D with nx:=u D } I h) fun f s1 q=>?_)
 cases f with
 | next =>
  obtain ⟨σ',H',I',q⟩:=q
  exact h2 pins s1 σ' H' D I' q
 | ret v=>exact q
 | brk=>exact q
 | cont=>exact q
theorem zF (h1:PS X st t):PSs X [st] t:=by
 intro pins s σ H D I h
 refine wpAny_execs_cons (thn (h1 pins s σ H D I h) fun f s1 q=>?_)
 cases f with
 | next=>exact wpAny_execs_nil q
 | ret v=>exact q
 | brk=>exact q
 | cont=>exact q
theorem Inv.quiet {pins:List (Addr × Obj)} {σ:St} {s:Shared} (I:Inv X pins σ H s):interactive X.env=false:=by simp [interactive,I.ok.kind]
def zI0 (te:TE):TS:=fun D σ H=>te σ H fun _ H1=>D.nx σ H1
theorem jE (he:PE X e te) (hs:swapsWith e none pos.line X.env=pure false:=by rfl):PS X (.Expr e pos) (zI0 te):=by
 intro pins s σ H D I h
 exact wpAny_Expr_any (thn (he pins s σ H _ I h) fun v s1 ⟨x,H1,I1,r1,q1⟩=>⟨σ,H1,I1,q1⟩) I.quiet hs
def zLn (te:TE):TS:=fun D σ H=>te σ H D.rt
theorem zQ (he:PE X e te):PS X (.Return (some e) pos) (zLn te):=by
 intro pins s σ H D I h
 exact wpAny_Return_some (thn (he pins s σ H _ I h) fun v s1 ⟨x,H1,I1,r1,q1⟩=>⟨x,σ,H1,I1,r1,q1⟩)
def zLU (c:TT) (t u:TS):TS:=fun D σ H=>c σ H fun b H1=>if b=true then t D σ H1 else u D σ H1
theorem z5 {c:Expr} {a b:List Stmt} {tc:TT} (hc:PT X c tc) (ha:PSs X a t) (hb:PSs X b u):PS X (.If c a b pos) (zLU tc t u):=by
 intro pins s σ H D I h
 refine wpAny_If (thn (hc pins s σ H _ I h) fun d s1 zq=>?_)
 obtain ⟨H1,I1,q1⟩:=zq
 cases d with
 | true=>exact ha pins s1 σ H1 D I1 q1
 | false=>exact hb pins s1 σ H1 D I1 q1
def zJX:TS:=fun _ _ _=>False
theorem WZ:PS X st zJX:=fun _ _ _ _ _ _ h=>h.elim
end
abbrev TG:=V->St->Hp->(St->Hp->Prop)->Prop
abbrev TGs:=List V->St->Hp->(St->Hp->Prop)->Prop
def PG (X:Cx) (target:Expr) (t:TG):Prop:=
 ∀ (pins:List (Addr × Obj)) (s:Shared) (σ:St) (H:Hp) (v:V) (u:Value) (Q:St->Hp->Prop),Inv X pins σ H s->jz v u->t v σ H Q ->
  wpAny (model X.prog X.w) X.A (assign target X.env u) (fun _ s'=>∃ σ' H',Inv X pins σ' H' s'/\Q σ' H') X.xe s
def PGs (X:Cx) (ts:List Expr) (t:TGs):Prop:=
 ∀ (pins:List (Addr × Obj)) (s:Shared) (σ:St) (H:Hp) (vs:List V) (us:List Value) (Q:St->Hp->Prop),Inv X pins σ H s->qM vs us->t vs σ H Q ->
  wpAny (model X.prog X.w) X.A (assignInOrder ((assignEach ts X.env).map (·.2)) us) (fun _ s'=>∃ σ' H',Inv X pins σ' H' s'/\Q σ' H') X.xe s
abbrev zKI:=V->V->V->Hp->(Hp->Prop)->Prop
def zLG (X:Cx) (t:zKI):Prop:=
 ∀ (pins:List (Addr × Obj)) (s:Shared) (σ:St) (H:Hp) (o i v:V) (ov iv u:Value) (Q:Hp->Prop),Inv X pins σ H s->jz o ov->jz i iv->jz v u->t o i v H Q ->
  wpAny (model X.prog X.w) X.A (setItem ov iv u) (fun _ s'=>∃ H',Inv X pins σ H' s'/\Q H') X.xe s
section
variable {X : Cx} {pos : Pos}
def zBZ (i:Nat):TG:=fun v σ H Q=>Q (σ.set i (some v)) H
theorem qF {i:Nat} {x:Str} (hN:X.N.Nodup) (hi:X.N[i]? = some x) (hx:Loc X.env.scope x) (hf:X.fn x=true\/X.env.scope.names.lookup x=some .local:=by first | exact .inl rfl | exact .inr rfl | assumption):PG X (.Name x pos) (zBZ i):=by
 intro pins s σ H v u Q I r h
 exact wpAny_assign_Name (YY I hN hi hx r (fun s' I'=>⟨_,H,I',h⟩) hf)
def zLk:TGs:=fun vs σ H Q=>vs=[]/\Q σ H
def zIG (t:TG) (u:TGs):TGs:=fun vs σ H Q=>∃ v r,vs=v::r/\t v σ H fun σ' H'=>u r σ' H' Q
theorem XO:PGs X [] zLk:=by
 intro pins s σ H vs us Q I r h
 obtain ⟨e,h⟩:=h
 subst e
 cases r
 exact assignInOrder_nil ⟨σ,H,I,h⟩
theorem qN {e:Expr} {es:List Expr} {t:TG} {u:TGs} (h1:PG X e t) (h2:PGs X es u)
  (hs:(assignEach (e::es) X.env).map (·.2)=assign e X.env::(assignEach es X.env).map (·.2):=by rfl):PGs X (e::es) (zIG t u):=by
 intro pins s σ H vs us Q I r h
 obtain ⟨v,vr,e1,h⟩:=h
 subst e1
 cases r with
 | cons r rr =>
  rw [hs]
  refine assignInOrder_cons (thn (h1 pins s σ H _ _ _ I r h) fun _ s1 zq=>?_)
  obtain ⟨σ1,H1,I1,q1⟩:=zq
  exact h2 pins s1 σ1 H1 _ _ Q I1 rr q1
def zLm (K:W.Frag) (n:Nat) (t:TGs):TG:=fun v σ H Q=>∃ a xs,v = .ref a/\SqT K H a xs/\xs.length=n/\t xs σ H Q
theorem Vl {es:List Expr} {k:Nat} {t:TGs} {n:Nat} (hc:X.calm=true) (h:PGs X es t)
  (hn:(assignEach es X.env).length=n:=by rfl) (hst:(assignEach es X.env).findIdx? (·.1)=none:=by rfl):PG X (.Tuple es k pos) (zLm X.K n t):=by
 intro pins s σ H v u Q I r hw
 obtain ⟨a,xs,e1,hq,hl,hw⟩:=hw
 subst e1
 cases r
 obtain ⟨its,rv,ht,hz⟩:=I.tuple hq
 refine assign_Tuple_tuple (I.ok.hd hc) ht (by simp [hn,<- hl,rv.length]) hst fun h' hx=>?_
 have I1:Inv X pins σ H { s with heap:=h' }:=I.kept (t':=s.toks) fun b o e=>hx b o (ne_of_lt (Heap.lt_size e)) e
 exact h pins _ σ H xs _ Q I1 (by simpa using rv) hw
def zLR (to ti:TE) (t:zKI):TG:=fun v σ H Q=>to σ H fun o H1=>ti σ H1 fun i H2=>t o i v H2 fun H3=>Q σ H3
theorem YG {o i:Expr} {to ti:TE} {t:zKI} (ho:PE X o to) (hi:PE X i ti) (hs:zLG X t)
  (ha : ∀ v,assign (.Subscript o i pos) X.env v=(do
   let ov <- holding [v] (eval o X.env)
   let iv <- holding [v,ov] (eval i X.env)
   standAt pos
   holding [v,ov,iv] (setItem ov iv v)
   release [v,ov,iv] []):=by intro _;rfl):PG X (.Subscript o i pos) (zLR to ti t):=by
 intro pins s σ H v u Q I r h
 rw [ha]
 refine wpAny_bind (wpAny_holding (thn (ho pins s σ H _ I h) fun ov s1 zq=>?_))
 obtain ⟨x,H1,I1,r1,q1⟩:=zq
 refine wpAny_bind (wpAny_holding (thn (hi pins s1 σ H1 _ I1 q1) fun iv s2 zq=>?_))
 obtain ⟨y,H2,I2,r2,q2⟩:=zq
 refine wpAny_bind (wpAny_standAt (wpAny_bind (wpAny_holding (thn (hs pins s2 σ H2 x y v ov iv u _ I2 r1 r2 r q2) fun _ s3 zq=>?_))))
 obtain ⟨H3,I3,q3⟩:=zq
 exact wpAny_release ⟨σ,H3,I3,q3⟩
def zIw (te:TE) (g:TG):TS:=fun D σ H=>te σ H fun x H1=>g x σ H1 D.nx
theorem ZU {tg e:Expr} {te:TE} {g:TG} (he:PE X e te) (hg:PG X tg g) (hs:swapsWithSole [tg] e pos.line X.env=pure false:=by rfl) (hw:swappedStores [tg] e X.env=pure none:=by rfl)
  (h1:(assignEach [tg] X.env).map (·.2)=[assign tg X.env]:=by rfl):PS X (.Assign [tg] e pos) (zIw te g):=by
 intro pins s σ H D I h
 refine wpAny_Assign_stores (thn (he pins s σ H _ I h) fun v s1 zq=>?_) hs hw
 obtain ⟨x,H1,I1,r1,q1⟩:=zq
 rw [h1]
 exact thn (hg pins s1 σ H1 x v _ I1 r1 q1) fun _ s2 q=>q
theorem zI {i:Nat} {x:Str} {e:Expr} {te:TE} {pos':Pos} (hN:X.N.Nodup) (hi:X.N[i]? = some x) (hx:Loc X.env.scope x) (he:PE X e te) (hs:swapsWith e (some (.Name x pos')) pos.line X.env=pure false:=by rfl) (hf:X.fn x=true\/X.env.scope.names.lookup x=some .local:=by first | exact .inl rfl | exact .inr rfl | assumption) :
  PS X (.Assign [.Name x pos'] e pos) (zIw te (zBZ i)):=by
 intro pins s σ H D I h
 refine wpAny_Assign_Name (thn (he pins s σ H _ I h) fun v s1 zq=>?_) hs
 obtain ⟨y,H1,I1,r1,q1⟩:=zq
 exact YY I1 hN hi hx r1 (fun s2 I2=>⟨_,H1,I2,q1⟩) hf
end
section
variable {X : Cx} {pos : Pos}
def zFN (c:TT) (tb:TS):TS:=fun D σ H=>∃ W:Nat->St->Hp->Prop,(∃ m,W m σ H) /\ ∀ m σ H,W m σ H ->
 c σ H fun b H1=>if b=true then ∃ N:St->Hp->Prop,(∀ σ' H',N σ' H' -> ∃ m',m' < m/\W m' σ' H')/\tb { D with nx:=N,ct:=N,bk:=D.nx } σ H1 else D.nx σ H1
theorem Yg {c:Expr} {body:List Stmt} {tc:TT} {tb:TS} (hp:PassesOwn (model X.prog X.w) X.A X.env X.xe) (hc:PT X c tc) (hb:PSs X body tb):PS X (.While c body [] pos) (zFN tc tb):=by
 intro pins s σ H D I h
 obtain ⟨W,⟨m0,w0⟩,turn⟩:=h
 refine wpAny_While (codeAny_whileLoop (fun n s'=>∃ σ' H',Inv X pins σ' H' s'/\W n σ' H') ?_ m0 ⟨σ,H,I,w0⟩)
 rintro n s1 ⟨σ1,H1,I1,w1⟩
 refine wpAny_passesOwn hp (thn (hc pins s1 σ1 H1 _ I1 (turn n σ1 H1 w1)) fun b s2 zq=>?_)
 obtain ⟨H2,I2,q2⟩:=zq
 cases b with
 | true =>
  obtain ⟨N,hN,q2⟩:=q2
  rw [if_pos rfl]
  refine wpAny_passesOwn hp (thn (hb pins s2 σ1 H2 _ I2 q2) fun f s3 q3=>?_)
  cases f with
  | next =>
   obtain ⟨σ3,H3,I3,n3⟩:=q3
   obtain ⟨m',hm,w3⟩:=hN σ3 H3 n3
   exact ⟨m',hm,σ3,H3,I3,w3⟩
  | cont =>
   obtain ⟨σ3,H3,I3,n3⟩:=q3
   obtain ⟨m',hm,w3⟩:=hN σ3 H3 n3
   exact ⟨m',hm,σ3,H3,I3,w3⟩
  | brk=>exact q3
  | ret v=>exact q3
 | false =>
  rw [if_neg Bool.false_ne_true]
  exact wpAny_execs_nil ⟨σ1,H2,I2,q2⟩
end
structure It where
 go:Nat->Hp->Prop
 yld:Nat->Hp->V->Hp->Prop
 stop:Nat->Hp->Prop
def zAe (X:Cx) (pins:List (Addr × Obj)) (H:Hp) (b:Addr):Prop:=
 H b=none/\b≠X.env.locals/\b ∉ X.fs/\(b ∈ X.ex\/X.s₀.heap.objs.size<=b)/\(∀ x c,X.env.cells.lookup x=some c->c≠b) /\ ∀ p ∈ X.pn++pins,p.1≠b
variable {pins:List (Addr × Obj)} {σ:St}
theorem Inv.fpOk {H':Hp} {s:Shared} {b:Addr} (I:Inv X pins σ H s) (hb:s.heap.objs.size<=b) (hn:H' b=none):zAe X pins H' b:=by
 refine ⟨hn,Nat.ne_of_gt (lt_of_lt_of_le I.lt hb),I.nofs hb,.inr (le_trans I.sz hb),fun x c e z=>?_,fun p hp z=>?_⟩
 ·obtain ⟨v,q⟩:=I.cell x c e
  exact absurd (lt_of_lt_of_le q.lt (by rw [z];exact hb)) (lt_irrefl _)
 ·exact absurd (lt_of_lt_of_le (Heap.lt_size (I.pin p hp).1) (by rw [z];exact hb)) (lt_irrefl _)
structure zIl (P:Program) (w:World) (K:W.Frag) (tg:Expr) (J:It) (fp:List Addr) (it:Addr) (tn:Nat->Heap->Prop):Prop where
 mem:it ∈ fp
 obj : ∀ i h,tn i h -> ∀ b ∈ fp,∃ o,h.get? b=some o /\ ∀ v,o.data ≠ .cell v
 keep : ∀ i h h',tn i h->(∀ b ∈ fp,∀ o,h.get? b=some o->h'.get? b=some o)->tn i h'
 item : ∀ (X:Cx),X.prog=P->X.w=w->X.K=K->X.calm=true -> ∀ (i:Nat) (pins:List (Addr × Obj)) (s:Shared) (σ:St) (H:Hp) (E:Value->Shared->Prop),Inv X pins σ H s->(∀ b ∈ fp,zAe X pins H b)->tn i s.heap->J.go i H ->
  wpAny (model P w) X.A (pyNext (.ref it)) (fun r s1=>∃ u,r=some u /\
   wpAny (model P w) X.A (letOwnedTupleGo tg (.ref it) u) (fun _ s2=>∃ x H',Inv X pins σ H' s2/\jz x u/\J.yld i H x H'/\tn (i+1) s2.heap /\ ∀ b ∈ fp,H' b=none) E s1) E s
 done : ∀ (X:Cx),X.prog=P->X.w=w->X.K=K->X.calm=true -> ∀ (i:Nat) (pins:List (Addr × Obj)) (s:Shared) (σ:St) (H:Hp) (E:Value->Shared->Prop),Inv X pins σ H s->(∀ b ∈ fp,zAe X pins H b)->tn i s.heap->J.stop i H ->
  wpAny (model P w) X.A (pyNext (.ref it)) (fun r s1=>r=none/\Inv X pins σ H s1) E s
 self : ∀ (A:Around) (i:Nat) (s:Shared) (Q:Value->Shared->Prop) (E:Value->Shared->Prop),tn i s.heap->Q (.ref it) s->wpAny (model P w) A (pyIter (.ref it)) Q E s
abbrev TI:=St->Hp->(It->Hp->Prop)->Prop
def PIE (X:Cx) (pins:List (Addr × Obj)) (σ:St) (tg:Expr) (R:It->Hp->Prop) (itv:Value) (s2:Shared):Prop:=
 ∃ (it:Addr) (fp:List Addr) (tn:Nat->Heap->Prop) (J:It) (H':Hp),itv = .ref it/\Inv X pins σ H' s2/\zIl X.prog X.w X.K tg J fp it tn/\tn 0 s2.heap/\(∀ b ∈ fp,zAe X pins H' b)/\R J H'
def PI (X:Cx) (tg iter:Expr) (wi:TI):Prop:=
 ∀ (pins:List (Addr × Obj)) (s:Shared) (σ:St) (H:Hp) (R:It->Hp->Prop),Inv X pins σ H s->wi σ H R ->
  wpAny (model X.prog X.w) X.A (eval iter X.env) (fun v s1=>wpAny (model X.prog X.w) X.A (pyIter v) (PIE X pins σ tg R) X.xe s1) X.xe s
variable {tg:Expr} {Q:Unit -> Shared -> Prop}
theorem zFV {M : Model} {s : Shared} {it : Addr} {u : Value} {o : Obj} {n : String} {vs : Array Value} (ho : s.heap.get? it = some o) (hc : o.cls = .type n) (hd : o.data = .fields vs)
    (hn : ["enumerate", "zip", "dict_itemiterator", "dict_reverseitemiterator", "odict_iterator", "itertools.zip_longest", "itertools.pairwise"].contains n = false) (hQ : Q () s) : wpAny M A (letOwnedTupleGo tg (.ref it) u) Q E s := by
  unfold letOwnedTupleGo
  cases tg <;> first
    | exact wpAny_pure hQ
    | (cases u <;> first
        | exact wpAny_pure hQ
        | (refine wpAny_bind (wpAny_load ho ?_)
           rw [hc, hd]
           show wpAny M A (if (["enumerate", "zip", "dict_itemiterator", "dict_reverseitemiterator", "odict_iterator", "itertools.zip_longest", "itertools.pairwise"].contains n && vs[0]? == some (rawInt _)) = true then _ else _) Q E s
           rw [if_neg (by intro h; rw [hn, Bool.false_and] at h; cases h)]
           exact wpAny_pure hQ))
def Itl (K:W.Frag) (a:Addr):It:=
 ⟨fun i H=>∃ xs x,SqL K H a xs/\xs[i]? = some x,fun i H x H'=>H'=H /\ ∀ xs,SqL K H a xs->xs[i]? = some x,fun i H=>∃ xs,SqL K H a xs/\xs.length<=i⟩
def Itr (lo:Int) (n:Nat):It:=⟨fun i _=>i < n,fun i H x H'=>H'=H/\x = .int (lo+i),fun i _=>n<=i⟩
variable {K:W.Frag}
theorem zBP (a it:Addr):zIl P w K tg (Itl K a) [it] it (fun i h=>h.IsListIter it a i) where
 mem:=by simp
 obj:=fun i h st b hb=>by
  have e:b=it:=by simpa using hb
  subst e
  obtain ⟨o,e,c,d⟩:=st
  exact ⟨o,e,fun v z=>by rw [d] at z;cases z⟩
 keep:=fun i h h' st k=>st.at fun o e=>k it (by simp) o e
 item:=by
  intro X hP hw hK hc i pins s σ H E I hf st hg
  subst hP hw hK
  obtain ⟨xs,x,hq,hx⟩:=hg
  obtain ⟨its,rv,p,hz⟩:=I.list hq
  obtain ⟨u,hu,ru⟩:=rv.get hx
  obtain ⟨f0,f1,f2,f3,f4,f5⟩:=hf it (by simp)
  refine wpAny_pyNext_list_item st p.isList (x:=u) (by simpa using hu) fun h' st' sb=>?_
  have I1:Inv X pins σ H { s with heap:=h' }:=I.turned (t':=s.toks) (fun b o hb e=>(sb.2 b hb).trans e) f0 f1 f3 f4 f5
  obtain ⟨o,e,c,d⟩:=id st'
  exact ⟨u,rfl,zFV (s:={ s with heap:=h' }) e c d (by decide) ⟨x,H,I1,ru,⟨rfl,fun ys hy=>by rw [I.list_inj hy hq];exact hx⟩,st',fun b hb=>(hf b hb).1⟩⟩
 done:=by
  intro X hP hw hK hc i pins s σ H E I hf st hg
  subst hP hw hK
  obtain ⟨xs,hq,hx⟩:=hg
  obtain ⟨its,rv,p,hz⟩:=I.list hq
  obtain ⟨f0,f1,f2,f3,f4,f5⟩:=hf it (by simp)
  have hl:=rv.length
  exact wpAny_pyNext_list_end (I.ok.hd hc) st p.isList (by simp;omega) fun h' eb=>⟨rfl,I.turned (t':=s.toks) (fun b o hb e=>eb b o hb e) f0 f1 f3 f4 f5⟩
 self:=fun _ _ _ _ _ st h=>wpAny_pyIter_listiter st h
theorem Wv {K:PySem.W.Frag} (it:Addr) (lo:Int) (n:Nat):zIl P w K tg (Itr lo n) [it] it (fun i h=>IsRangeIter h it (lo+(i:Nat)*1) ((n:Int) - (i:Nat)) 1) where
 mem:=by simp
 obj:=fun i h st b hb=>by
  have e:b=it:=by simpa using hb
  subst e
  exact ⟨_,st,fun v z=>by
   have z':Data.fields _=Data.cell v:=z
   cases z'⟩
 keep:=fun i h h' st k=>k it (by simp) _ st
 item:=by
  intro X hP hw hK hc i pins s σ H E I hf st hg
  subst hP hw hK
  obtain ⟨f0,f1,f2,f3,f4,f5⟩:=hf it (by simp)
  have W:=Walks.range (prog:=X.prog) (w:=X.w) (I.ok.hd hc) it lo 1 n
  refine W.item i s _ _ hg st fun v h' tk hv st' kk=>?_
  obtain ⟨t,rfl⟩:=hv
  have I1:Inv X pins σ H { s with heap:=h',toks:=tk }:=I.turned (fun b o hb e=>kk b o (by simpa using hb) e) f0 f1 f3 f4 f5
  refine ⟨_,rfl,zFV (s:={ s with heap:=h',toks:=tk }) (n:="range_iterator") st' rfl rfl (by decide) ⟨.int (lo+i),H,I1,⟨t,?_⟩,⟨rfl,rfl⟩,st',fun b hb=>(hf b hb).1⟩⟩
  rw [Int.mul_one]
 done:=by
  intro X hP hw hK hc i pins s σ H E I hf st hg
  subst hP hw hK
  obtain ⟨f0,f1,f2,f3,f4,f5⟩:=hf it (by simp)
  exact wpAny_pyNext_range_end (I.ok.hd hc) st (by have:n<=i:=hg;omega) fun h' eb=>⟨rfl,I.turned (t':=s.toks) (fun b o hb e=>eb b o hb e) f0 f1 f3 f4 f5⟩
 self:=fun _ _ _ _ _ st h=>wpAny_pyIter_rangeiter st h
section
variable {X : Cx} {tg : Expr}
def zFh (K:W.Frag) (tl:TE):TI:=fun σ H R=>tl σ H fun x H1=>∃ a,x = .ref a/\(∃ xs,SqL K H1 a xs)/\R (Itl K a) H1
theorem y0 {l:Expr} {tl:TE} (hl:PE X l tl):PI X tg l (zFh X.K tl):=by
 intro pins s σ H R I h
 refine thn (hl pins s σ H _ I h) fun v s1 zq=>?_
 obtain ⟨x,H1,I1,r1,q1⟩:=zq
 obtain ⟨a,e,⟨xs,hq⟩,q⟩:=q1
 subst e
 cases r1
 obtain ⟨its,rv,p,hz⟩:=I1.list hq
 refine wpAny_pyIter_list p.isList ?_
 refine ⟨s1.heap.objs.size,[s1.heap.objs.size],_,_,H1,rfl,I1.kept (t':=s1.toks) fun b o e=>Heap.get?_push_of_some _ e,zBP a _,⟨_,Heap.get?_push_size _ rfl,rfl,rfl⟩,fun b hb=>?_,q⟩
 have e:b=s1.heap.objs.size:=by simpa using hb
 subst e
 exact I1.fpOk (le_refl _) (I1.hok.fresh (le_refl _))
theorem zDN {s:Shared} {R:It->Hp->Prop} {lo hi:Int} {t u v:Tok} {tk:Nat} (I:Inv X pins σ H s) (h1 : -(2 ^ 62)<=lo) (h2:lo < 2 ^ 62) (h3 : -(2 ^ 62)<=hi) (h4:hi < 2 ^ 62)
  (q:R (Itr lo (hi - lo).toNat) H):wpAny (model X.prog X.w) X.A (pyIter (.ref s.heap.objs.size)) (PIE X pins σ tg R) E { s with heap:=s.heap.push { cls:=.type "range", data:=.fields #[.int lo t,.int hi u,.int 1 v] },toks:=tk }:=by
 refine wpAny_pyIter_range (IsRange.new ..) (small_one h1 h2 h3 h4) ?_
 have I1:Inv X pins σ H { s with heap:=s.heap.push { cls:=.type "range", data:=.fields #[.int lo t,.int hi u,.int 1 v] },toks:=tk }:=I.kept fun b o e=>Heap.get?_push_of_some _ e
 refine ⟨(s.heap.push { cls:=.type "range", data:=.fields #[.int lo t,.int hi u,.int 1 v] }).objs.size,[(s.heap.push { cls:=.type "range", data:=.fields #[.int lo t,.int hi u,.int 1 v] }).objs.size],_,_,H,rfl,
  I1.kept (t':=tk) fun b o e=>Heap.get?_push_of_some _ e,Wv _ lo (hi - lo).toNat,?_,fun b hb=>?_,q⟩
 ·have e1:lo+((0:Nat):Int)*1=lo:=by simp
  have e2:(((hi - lo).toNat:Nat):Int) - ((0:Nat):Int)=Builtin.Range.rangeSize lo hi 1:=by rw [rangeSize_one];split <;> omega
  show IsRangeIter _ _ (lo+((0:Nat):Int)*1) ((((hi - lo).toNat:Nat):Int) - ((0:Nat):Int)) 1
  rw [e1,e2]
  exact Heap.get?_push_size _ rfl
 ·have e:b=(s.heap.push { cls:=.type "range", data:=.fields #[.int lo t,.int hi u,.int 1 v] }).objs.size:=by simpa using hb
  subst e
  exact I1.fpOk (le_refl _) (I1.hok.fresh (le_refl _))
def zGJ (ta:TA):TI:=fun σ H R=>ta σ H fun vs H1=>∃ j:Int,vs=[.int j] /\ -(2 ^ 62)<=j/\j < 2 ^ 62/\R (Itr 0 j.toNat) H1
theorem xp {a:Expr} {ta:TA} {p pos:Pos} (hg:Gl X "range") (hm:X.mg "range" = none) (ha:PA X [a] ta) (hs:starEach [a] X.env=[(false,eval a X.env)]:=by rfl):PI X tg (.Call (.Name "range" p) [a] [] pos) (zGJ ta):=by
 intro pins s σ H R I h
 refine Call_ (YC I hg hm boot_range (PyProof.Rows.callWith_type1 (thn (ha pos pins s σ H _ I h) fun us s1 zq=>?_) hs rfl))
 obtain ⟨vs,H1,I1,r1,q1⟩:=zq
 obtain ⟨j,e,q1,q2,q⟩:=q1
 subst e
 cases r1 with
 | cons r rr =>
  cases rr
  obtain ⟨t,rfl⟩:=r
  exact call_range_1 (zDN I1 (by omega) (by omega) q1 q2 (by simpa using q))
def zKJ (wi:TI) (g:TG) (tb:TS):TS:=fun D σ H=>wi σ H fun J H1=>∃ W:Nat->Nat->St->Hp->Prop,(∃ m,W 0 m σ H1) /\ ∀ i m σ H,W i m σ H ->
 (J.stop i H/\D.nx σ H)\/(J.go i H /\ ∃ N:St->Hp->Prop,(∀ σ' H',N σ' H' -> ∃ m',m' < m/\W (i+1) m' σ' H') /\ ∀ x H',J.yld i H x H'->g x σ H' fun σ2 H2=>tb { D with nx:=N,ct:=N,bk:=D.nx } σ2 H2)
def Y8 (fp:List Addr) (h:Heap):List (Addr × Obj):=fp.filterMap fun b=>(h.get? b).map fun o=>(b,o)
variable {fp:List Addr}
theorem ZN {b:Addr} {o:Obj} (hb:b ∈ fp) (e:h.get? b=some o):(b,o) ∈ Y8 fp h:=List.mem_filterMap.mpr ⟨b,hb,by rw [e];rfl⟩
theorem zAn {p:Addr × Obj} (hp:p ∈ Y8 fp h):p.1 ∈ fp/\h.get? p.1=some p.2:=by
 obtain ⟨b,hb,e⟩:=List.mem_filterMap.mp hp
 cases q:h.get? b with
 | none=>rw [q] at e;cases e
 | some o =>
  rw [q] at e
  have e':(b,o)=p:=Option.some.inj e
  subst e'
  exact ⟨hb,q⟩
theorem Inv.pinned {s:Shared} (I:Inv X pins σ H s) (hf : ∀ b ∈ fp,zAe X pins H b) (ho : ∀ b ∈ fp,∃ o,s.heap.get? b=some o /\ ∀ v,o.data ≠ .cell v):Inv X (pins++Y8 fp s.heap) σ H s:=
 I.pins_of fun p hp=>(List.mem_append.mp hp).elim (fun z=>I.pin p (mem_append_right _ z)) fun z=>by
  obtain ⟨hb,e⟩:=zAn z
  obtain ⟨f0,f1,f2,_⟩:=hf p.1 hb
  obtain ⟨o,e',d⟩:=ho p.1 hb
  rw [e] at e';cases e'
  exact ⟨e,f0,f1,f2,d⟩
theorem Inv.unpinned {pl:List (Addr × Obj)} {s:Shared} (I:Inv X (pins++pl) σ H s):Inv X pins σ H s:=I.pins_of fun p hp=>I.pin p (mem_append_right _ (List.mem_append_left _ hp))
theorem J8 {iter:Expr} {body:List Stmt} {wi:TI} {g:TG} {tb:TS} {pos:Pos} (hp:PassesOwn (model X.prog X.w) X.A X.env X.xe) (hc:X.calm=true) (hi:PI X tg iter wi) (hg:PG X tg g) (hb:PSs X body tb)
  (hs : ∀ x,foldedSetIterable iter X.env x=pure x:=by intro _;rfl):PS X (.For tg iter body [] pos) (zKJ wi g tb):=by
 intro pins s σ H D I h
 refine wpAny_For (thn (hi pins s σ H _ I h) fun v s1 h1=>thn h1 fun itv s2 h2=>?_) hs
 obtain ⟨it,fp,tn,J,H2,e,I2,T,st2,f2,W,⟨m0,w0⟩,turn⟩:=h2
 subst e
 have stat : ∀ {H':Hp},(∀ b ∈ fp,H' b=none) -> ∀ b ∈ fp,zAe X pins H' b:=fun hn b hb=>⟨hn b hb,(f2 b hb).2⟩
 refine codeAny_forLoop_any (fun n s'=>∃ i σ' H',Inv X pins σ' H' s'/\tn i s'.heap/\(∀ b ∈ fp,H' b=none)/\W i n σ' H') ?_ m0 ⟨0,σ,H2,I2,st2,fun b hb=>(f2 b hb).1,w0⟩
 rintro n s3 ⟨i,σ3,H3,I3,st3,fr3,w3⟩
 rcases turn i n σ3 H3 w3 with ⟨stop,qn⟩ | ⟨go,N,hN,step⟩
 ·refine wpAny_passesOwn hp (thn (T.done X rfl rfl rfl hc i pins s3 σ3 H3 X.xe I3 (stat fr3) st3 stop) fun r s4 zq=>?_)
  obtain ⟨hr,I4⟩:=zq
  subst hr
  exact wpAny_execs_nil ⟨σ3,H3,I4,qn⟩
 ·refine wpAny_passesOwn hp (thn (T.item X rfl rfl rfl hc i pins s3 σ3 H3 X.xe I3 (stat fr3) st3 go) fun r s4 zq=>?_)
  obtain ⟨u,hr,h4⟩:=zq
  subst hr
  refine wpAny_passesOwn hp (thn h4 fun _ s5 zq=>?_)
  obtain ⟨x,H5,I5,r5,y5,st5,fr5⟩:=zq
  have I5':=I5.pinned (stat fr5) (T.obj _ _ st5)
  refine wpAny_passesOwn hp (thn (hg _ s5 σ3 H5 x u _ I5' r5 (step x H5 y5)) fun _ s6 zq=>?_)
  obtain ⟨σ6,H6,I6,q6⟩:=zq
  refine wpAny_passesOwn hp (thn (hb _ s6 σ6 H6 _ I6 q6) fun f s7 q7=>?_)
  have again : ∀ {σ7:St} {H7:Hp},Inv X (pins++Y8 fp s5.heap) σ7 H7 s7->N σ7 H7 -> ∃ m,m < n /\ ∃ i σ' H',Inv X pins σ' H' s7/\tn i s7.heap/\(∀ b ∈ fp,H' b=none)/\W i m σ' H':=fun {σ7 H7} I7 n7=>by
   obtain ⟨m',hm,w7⟩:=hN σ7 H7 n7
   refine ⟨m',hm,i+1,σ7,H7,I7.unpinned,T.keep _ _ _ st5 fun b hb o e=>(I7.pin (b,o) (mem_append_right _ (mem_append_right _ (ZN hb e)))).1,fun b hb=>?_,w7⟩
   obtain ⟨o,e,d⟩:=T.obj _ _ st5 b hb
   exact (I7.pin (b,o) (mem_append_right _ (mem_append_right _ (ZN hb e)))).2.1
  cases f with
  | next=>obtain ⟨σ7,H7,I7,n7⟩:=q7;exact again I7 n7
  | cont=>obtain ⟨σ7,H7,I7,n7⟩:=q7;exact again I7 n7
  | brk=>obtain ⟨σ7,H7,I7,q7⟩:=q7;exact ⟨σ7,H7,I7.unpinned,q7⟩
  | ret v=>obtain ⟨x7,σ7,H7,I7,r7,q7⟩:=q7;exact ⟨x7,σ7,H7,I7.unpinned,r7,q7⟩
end
theorem zEQ {K:PySem.W.Frag} {xs:List V} {g:TG} {tb:TS} {D:Z9} (Pv:Nat->St->Hp->Prop) (h0:Pv 0 σ H) (hl : ∀ i σ H,i<=xs.length->Pv i σ H->SqL K H a xs)
  (hs : ∀ i x σ H,xs[i]? = some x->Pv i σ H->g x σ H fun σ2 H2=>tb { D with nx:=Pv (i+1),ct:=Pv (i+1),bk:=D.nx } σ2 H2) (hd : ∀ σ H,Pv xs.length σ H->D.nx σ H) :
  ∃ W:Nat->Nat->St->Hp->Prop,(∃ m,W 0 m σ H) /\ ∀ i m σ H,W i m σ H ->
   ((Itl K a).stop i H/\D.nx σ H)\/((Itl K a).go i H /\ ∃ N:St->Hp->Prop,(∀ σ' H',N σ' H' -> ∃ m',m' < m/\W (i+1) m' σ' H') /\ ∀ x H',(Itl K a).yld i H x H'->g x σ H' fun σ2 H2=>tb { D with nx:=N,ct:=N,bk:=D.nx } σ2 H2):=by
 refine ⟨fun i m σ H=>m=xs.length - i/\i<=xs.length/\Pv i σ H,⟨xs.length,by simp,Nat.zero_le _,h0⟩,?_⟩
 rintro i m σ H ⟨rfl,hi,p⟩
 have q:=hl i σ H hi p
 by_cases hlt:i < xs.length
 ·refine .inr ⟨⟨xs,xs[i],q,by simp [hlt]⟩,Pv (i+1),fun σ' H' p'=>⟨xs.length - (i+1),by omega,rfl,hlt,p'⟩,fun x H' y=>?_⟩
  obtain ⟨e,y⟩:=y
  subst e
  exact hs i x σ _ (y xs q) p
 ·have e:i=xs.length:=by omega
  subst e
  exact .inl ⟨⟨xs,q,le_refl _⟩,hd σ H p⟩
theorem zCw {lo:Int} {n:Nat} {g:TG} {tb:TS} {D:Z9} (Pv:Nat->St->Hp->Prop) (h0:Pv 0 σ H)
  (hs : ∀ i σ H,i < n->Pv i σ H->g (.int (lo+i)) σ H fun σ2 H2=>tb { D with nx:=Pv (i+1),ct:=Pv (i+1),bk:=D.nx } σ2 H2) (hd : ∀ σ H,Pv n σ H->D.nx σ H) :
  ∃ W:Nat->Nat->St->Hp->Prop,(∃ m,W 0 m σ H) /\ ∀ i m σ H,W i m σ H ->
   ((Itr lo n).stop i H/\D.nx σ H)\/((Itr lo n).go i H /\ ∃ N:St->Hp->Prop,(∀ σ' H',N σ' H' -> ∃ m',m' < m/\W (i+1) m' σ' H') /\ ∀ x H',(Itr lo n).yld i H x H'->g x σ H' fun σ2 H2=>tb { D with nx:=N,ct:=N,bk:=D.nx } σ2 H2):=by
 refine ⟨fun i m σ H=>m=n - i/\i<=n/\Pv i σ H,⟨n,by simp,Nat.zero_le _,h0⟩,?_⟩
 rintro i m σ H ⟨rfl,hi,p⟩
 by_cases hlt:i < n
 ·refine .inr ⟨hlt,Pv (i+1),fun σ' H' p'=>⟨n - (i+1),by omega,rfl,hlt,p'⟩,fun x H' y=>?_⟩
  obtain ⟨e,y⟩:=y
  subst e y
  exact hs i σ _ hlt p
 ·have e:i=n:=by omega
  subst e
  exact .inl ⟨le_refl _,hd σ H p⟩
abbrev R2:=V->V->Hp->VK->Prop
def OpR (X:Cx) (f:Value->Value->Sem Value) (r:R2):Prop:=
 ∀ (pins:List (Addr × Obj)) (s:Shared) (σ:St) (H:Hp) (x y:V) (v u:Value) (Q:VK),Inv X pins σ H s->jz x v->jz y u->r x y H Q ->
  wpAny (model X.prog X.w) X.A (f v u) (EP X pins σ Q) X.xe s
def UnR (X:Cx) (f:Value->Sem Value) (r:V->Hp->VK->Prop):Prop:=
 ∀ (pins:List (Addr × Obj)) (s:Shared) (σ:St) (H:Hp) (x:V) (v:Value) (Q:VK),Inv X pins σ H s->jz x v->r x H Q ->
  wpAny (model X.prog X.w) X.A (f v) (EP X pins σ Q) X.xe s
def jC (X:Cx) (f:Value) (r:List V->Hp->VK->Prop):Prop:=
 ∀ (pins:List (Addr × Obj)) (s:Shared) (σ:St) (H:Hp) (xs:List V) (us:List Value) (Q:VK),Inv X pins σ H s->qM xs us->r xs H Q ->
  wpAny (model X.prog X.w) X.A (call f us) (EP X pins σ Q) X.xe s
def tOp (r:R2) (ta tb:TE):TE:=fun σ H Q=>ta σ H fun x H1=>tb σ H1 fun y H2=>r x y H2 Q
def tUn (r:V->Hp->VK->Prop) (ta:TE):TE:=fun σ H Q=>ta σ H fun x H1=>r x H1 Q
def rI (C:Int->Int->Prop) (g:Int->Int->V):R2:=fun x y H Q=>∃ i j,x = .int i/\y = .int j/\C i j/\Q (g i j) H
def rI0 (g:Int->Int->V):R2:=fun x y H Q=>∃ i j,x = .int i/\y = .int j/\Q (g i j) H
def rU (g:Int->V):V->Hp->VK->Prop:=fun x H Q=>∃ i,x = .int i/\Q (g i) H
section
variable {X : Cx} {a b c : Expr} {ta tb tc : TE} {pos : Pos}
variable {f:Value->Value->Sem Value}
theorem zK0 (ha:PE X a ta) (hb:PE X b tb) {s:Shared} {R:V->V->Hp->Prop} (I:Inv X pins σ H s)
  (h:ta σ H fun x H1=>tb σ H1 fun y H2=>R x y H2) {Q:Value->Shared->Prop}
  (hf : ∀ v u s2 x y H2,Inv X pins σ H2 s2->jz x v->jz y u->R x y H2->wpAny (model X.prog X.w) X.A (f v u) Q X.xe s2) :
  wpAny (model X.prog X.w) X.A (eval a X.env) (fun v s₁=>wpAny (model X.prog X.w) X.A (eval b X.env) (fun u s₂=>wpAny (model X.prog X.w) X.A (f v u) Q X.xe s₂) X.xe s₁) X.xe s:=by
 refine thn (ha pins s σ H _ I h) fun v s1 zq=>?_
 obtain ⟨x,H1,I1,r1,q1⟩:=zq
 refine thn (hb pins s1 σ H1 _ I1 q1) fun u s2 zq=>?_
 obtain ⟨y,H2,I2,r2,q2⟩:=zq
 exact hf v u s2 x y H2 I2 r1 r2 q2
theorem zP {op:Operator} {r:R2} (ho:OpR X (binaryOp op) r) (ha:PE X a ta) (hb:PE X b tb):PE X (.BinOp a op b pos) (tOp r ta tb):=by
 intro pins s σ H Q I h
 exact wpAny_BinOp (zK0 ha hb I h fun v u s2 x y H2 I2 rx ry q=>ho pins s2 σ H2 x y v u Q I2 rx ry q)
theorem Zk {op:UnaryOp} {r:V->Hp->VK->Prop} (ho:UnR X (unaryOp op) r) (ha:PE X a ta):PE X (.UnaryOp op a pos) (tUn r ta):=by
 intro pins s σ H Q I h
 exact UnaryOp_ (thn (ha pins s σ H _ I h) fun v s1 ⟨x,H1,I1,r1,q1⟩=>ho pins s1 σ H1 x v Q I1 r1 q1)
theorem opI {C:Int->Int->Prop} {g:Int->Int->Int}
  (rule : ∀ (i j:Int) (t u:Tok) (s:Shared) (Q:Value->Shared->Prop) (E:Value->Shared->Prop),C i j->Q (.int (g i j) s.toks) { s with toks:=s.toks+1 }->wpAny (model X.prog X.w) X.A (f (.int i t) (.int j u)) Q E s) :
  OpR X f (rI C fun i j=>.int (g i j)):=by
 intro pins s σ H x y v u Q I rx ry h
 obtain ⟨i,j,rfl,rfl,hc,q⟩:=h
 obtain ⟨t,rfl⟩:=rx
 obtain ⟨t',rfl⟩:=ry
 exact rule i j t t' s _ _ hc ⟨.int (g i j),H,I.tok _,⟨_,rfl⟩,q⟩
theorem zLV {g:Int->Int->Int}
  (rule : ∀ (i j:Int) (t u:Tok) (s:Shared) (Q:Value->Shared->Prop) (E:Value->Shared->Prop),Q (.int (g i j) s.toks) { s with toks:=s.toks+1 }->wpAny (model X.prog X.w) X.A (f (.int i t) (.int j u)) Q E s) :
  OpR X f (rI0 fun i j=>.int (g i j)):=by
 intro pins s σ H x y v u Q I rx ry h
 obtain ⟨i,j,rfl,rfl,q⟩:=h
 obtain ⟨t,rfl⟩:=rx
 obtain ⟨t',rfl⟩:=ry
 exact rule i j t t' s _ _ ⟨.int (g i j),H,I.tok _,⟨_,rfl⟩,q⟩
theorem zKG {g:Int->Int->Bool}
  (rule : ∀ (i j:Int) (t u:Tok) (s:Shared) (Q:Value->Shared->Prop) (E:Value->Shared->Prop),Q (.bool (g i j)) s->wpAny (model X.prog X.w) X.A (f (.int i t) (.int j u)) Q E s) :
  OpR X f (rI0 fun i j=>.bl (g i j)):=by
 intro pins s σ H x y v u Q I rx ry h
 obtain ⟨i,j,rfl,rfl,q⟩:=h
 obtain ⟨t,rfl⟩:=rx
 obtain ⟨t',rfl⟩:=ry
 exact rule i j t t' s _ _ ⟨.bl (g i j),H,I,rfl,q⟩
def zKT (i j:Int):Prop:=0<=j/\j<=1000000/\i.natAbs < 2 ^ 64
def zJx (i j:Int):Prop:=(-(2 ^ 64) < i/\i < 2 ^ 64)\/(-(2 ^ 64) < j/\j < 2 ^ 64)
theorem zJx.ok {i j:Int} (h:zJx i j):IntMulOk i j:=by
 rcases h with ⟨h1,h2⟩ | ⟨h1,h2⟩
 ·exact .of_left (intBits_le_64 h1 h2)
 ·exact .of_right (intBits_le_64 h1 h2)
theorem two_pow_nn (k:Nat):(0:Int)<=2 ^ k:=by
 rw [two_pow_cast]
 exact Int.natCast_nonneg _
theorem z9:OpR X (binaryOp .Add) (rI0 fun i j=>.int (i+j)):=zLV fun _ _ _ _ _ _ _ q=>add_int q
theorem k7:OpR X (binaryOp .Sub) (rI0 fun i j=>.int (i - j)):=zLV fun _ _ _ _ _ _ _ q=>sub_int q
theorem zH1:OpR X (binaryOp .Mod) (rI (fun _ j=>0 < j) fun i j=>.int (i % j)):=opI fun i j _ _ _ _ _ hc q=>by
 have h1:(0:Int) < j:=hc
 exact mod_int' (by omega) (by rw [Int.fmod_eq_emod_of_nonneg i (by omega)];exact q)
theorem zJm:OpR X (binaryOp .Pow) (rI zKT fun i j=>.int (i ^ j.toNat)):=opI fun _ _ _ _ _ _ _ hc q=>pow_int_small hc.1 hc.2.1 hc.2.2 q
theorem zJD:OpR X (binaryOp .RShift) (rI (fun _ j=>0<=j) fun i j=>.int (i / 2 ^ j.toNat)):=opI fun i j _ _ _ _ _ hc q =>
 rshift_int hc (by rw [Int.fdiv_eq_ediv_of_nonneg i (two_pow_nn _)];exact q)
theorem unI {f:Value->Sem Value} {g:Int->Int}
  (rule : ∀ (i:Int) (t:Tok) (s:Shared) (Q:Value->Shared->Prop) (E:Value->Shared->Prop),Q (.int (g i) s.toks) { s with toks:=s.toks+1 }->wpAny (model X.prog X.w) X.A (f (.int i t)) Q E s) :
  UnR X f (rU fun i=>.int (g i)):=by
 intro pins s σ H x v Q I rx h
 obtain ⟨i,rfl,q⟩:=h
 obtain ⟨t,rfl⟩:=rx
 exact rule i t s _ _ ⟨.int (g i),H,I.tok _,⟨_,rfl⟩,q⟩
theorem xr:UnR X (unaryOp .USub) (rU fun i=>.int (-i)):=unI fun _ _ _ _ _ q=>neg_int q
end
def zLi:V->V->Bool
 | .non,.non=>true | .non,.int _=>true | .int _,.non=>true | .non,.bl _=>true | .bl _,.non=>true | .non,.str _=>true | .str _,.non=>true
 | .int _,.int _=>true | .bl _,.bl _=>true | .str _,.str _=>true | .byt _,.byt _=>true
 | .int _,.str _=>true | .str _,.int _=>true | .bl _,.str _=>true | .str _,.bl _=>true
 | _,_=>false
def rEq:R2:=fun x y H Q=>zLi x y=true/\Q (.bl (decide (x=y))) H
def rNe:R2:=fun x y H Q=>zLi x y=true/\Q (.bl (!decide (x=y))) H
theorem zBw {i j:Int}:decide (V.int i=V.int j)=(i == j):=by
 rw [Bool.eq_iff_iff]
 simp
theorem zFK {i j:Bool}:decide (V.bl i=V.bl j)=(i == j):=by
 rw [Bool.eq_iff_iff]
 simp
theorem zBi {i j:Str}:decide (V.str i=V.str j)=(i == j):=by
 rw [Bool.eq_iff_iff]
 simp
theorem zCx {i j:Array UInt8}:decide (V.byt i=V.byt j)=(i.toList == j.toList):=by
 rw [Bool.eq_iff_iff]
 cases i
 cases j
 simp
section
variable {X : Cx} {a b c : Expr} {ta tb tc : TE} {pos : Pos}
theorem qR {s:Shared} {Q:VK} {k k':Bool} (I:Inv X pins σ H s) (q:Q (.bl k) H) (e:k=k'):EP X pins σ Q (.bool k') s:=by
 subst e
 exact ⟨.bl k,H,I,rfl,q⟩
theorem qJ:OpR X (compareOp .Eq) rEq:=by
 intro pins s σ H x y v u Q I rx ry h
 obtain ⟨hs,q⟩:=h
 cases x with
 | non =>
  cases rx
  cases y with
  | non=>cases ry;exact PySem.EqNone.eq_none_none (qR I q (by simp))
  | bl j=>cases ry;exact PySem.EqNone.eq_none_bool (qR I q (by simp))
  | int j=>obtain ⟨t',rfl⟩:=ry;exact PySem.EqNone.eq_none_int (qR I q (by simp))
  | str j=>obtain ⟨t',rfl⟩:=ry;exact PySem.EqNone.eq_none_str (qR I q (by simp))
  | _=>exact absurd (show false=true from hs) Bool.false_ne_true
 | bl i =>
  cases rx
  cases y with
  | non=>cases ry;exact PySem.EqNone.eq_bool_none (qR I q (by simp))
  | bl j=>cases ry;exact eq_bool (qR I q zFK)
  | str j=>obtain ⟨t',rfl⟩:=ry;exact PySem.EqMixed.eq_bool_str (qR I q (by simp))
  | _=>exact absurd (show false=true from hs) Bool.false_ne_true
 | int i =>
  obtain ⟨t,rfl⟩:=rx
  cases y with
  | non=>cases ry;exact PySem.EqNone.eq_int_none (qR I q (by simp))
  | int j=>obtain ⟨t',rfl⟩:=ry;exact eq_int (qR I q zBw)
  | str j=>obtain ⟨t',rfl⟩:=ry;exact PySem.EqMixed.eq_int_str (qR I q (by simp))
  | _=>exact absurd (show false=true from hs) Bool.false_ne_true
 | str i =>
  obtain ⟨t,rfl⟩:=rx
  cases y with
  | non=>cases ry;exact PySem.EqNone.eq_str_none (qR I q (by simp))
  | bl j=>cases ry;exact PySem.EqMixed.eq_str_bool (qR I q (by simp))
  | int j=>obtain ⟨t',rfl⟩:=ry;exact PySem.EqMixed.eq_str_int (qR I q (by simp))
  | str j=>obtain ⟨t',rfl⟩:=ry;exact eq_str (qR I q zBi)
  | _=>exact absurd (show false=true from hs) Bool.false_ne_true
 | byt i =>
  obtain ⟨t,rfl⟩:=rx
  cases y with
  | byt j=>obtain ⟨t',rfl⟩:=ry;exact W.eq_bytes (qR I q zCx)
  | _=>exact absurd (show false=true from hs) Bool.false_ne_true
 | _=>cases y <;> exact absurd (show false=true from hs) Bool.false_ne_true
theorem kg:OpR X (compareOp .NotEq) rNe:=by
 intro pins s σ H x y v u Q I rx ry h
 obtain ⟨hs,q⟩:=h
 cases x with
 | non =>
  cases rx
  cases y with
  | non=>cases ry;exact PySem.EqNone.ne_none_none (qR I q (by simp))
  | bl j=>cases ry;exact PySem.EqNone.ne_none_bool (qR I q (by simp))
  | int j=>obtain ⟨t',rfl⟩:=ry;exact PySem.EqNone.ne_none_int (qR I q (by simp))
  | str j=>obtain ⟨t',rfl⟩:=ry;exact PySem.EqNone.ne_none_str (qR I q (by simp))
  | _=>exact absurd (show false=true from hs) Bool.false_ne_true
 | bl i =>
  cases rx
  cases y with
  | non=>cases ry;exact PySem.EqNone.ne_bool_none (qR I q (by simp))
  | bl j=>cases ry;exact ne_bool (qR I q (congrArg not zFK))
  | str j=>obtain ⟨t',rfl⟩:=ry;exact PySem.EqMixed.ne_bool_str (qR I q (by simp))
  | _=>exact absurd (show false=true from hs) Bool.false_ne_true
 | int i =>
  obtain ⟨t,rfl⟩:=rx
  cases y with
  | non=>cases ry;exact PySem.EqNone.ne_int_none (qR I q (by simp))
  | int j=>obtain ⟨t',rfl⟩:=ry;exact ne_int (qR I q (congrArg not zBw))
  | str j=>obtain ⟨t',rfl⟩:=ry;exact PySem.EqMixed.ne_int_str (qR I q (by simp))
  | _=>exact absurd (show false=true from hs) Bool.false_ne_true
 | str i =>
  obtain ⟨t,rfl⟩:=rx
  cases y with
  | non=>cases ry;exact PySem.EqNone.ne_str_none (qR I q (by simp))
  | bl j=>cases ry;exact PySem.EqMixed.ne_str_bool (qR I q (by simp))
  | int j=>obtain ⟨t',rfl⟩:=ry;exact PySem.EqMixed.ne_str_int (qR I q (by simp))
  | str j=>obtain ⟨t',rfl⟩:=ry;exact ne_str (qR I q (congrArg not zBi))
  | _=>exact absurd (show false=true from hs) Bool.false_ne_true
 | byt i =>
  obtain ⟨t,rfl⟩:=rx
  cases y with
  | byt j=>obtain ⟨t',rfl⟩:=ry;exact W.ne_bytes (qR I q (congrArg not zCx))
  | _=>exact absurd (show false=true from hs) Bool.false_ne_true
 | _=>cases y <;> exact absurd (show false=true from hs) Bool.false_ne_true
theorem zB4:OpR X (compareOp .Lt) (rI0 fun i j=>.bl (decide (i < j))):=zKG fun _ _ _ _ _ _ _ q=>lt_int q
theorem V3:OpR X (compareOp .LtE) (rI0 fun i j=>.bl (decide (i<=j))):=zKG fun _ _ _ _ _ _ _ q=>le_int q
theorem Zp:OpR X (compareOp .Gt) (rI0 fun i j=>.bl (decide (j < i))):=zKG fun _ _ _ _ _ _ _ q=>gt_int q
theorem zGl:OpR X (compareOp .GtE) (rI0 fun i j=>.bl (decide (j<=i))):=zKG fun _ _ _ _ _ _ _ q=>ge_int q
theorem zAq:OpR X (compareOp .Lt) (fun x y H Q=>∃ i j,x = .str i/\y = .str j/\Q (.bl (decide (i.cps.toList < j.cps.toList))) H):=by
 intro pins s σ H x y v u Q I rx ry h
 obtain ⟨i,j,rfl,rfl,q⟩:=h
 obtain ⟨t,rfl⟩:=rx
 obtain ⟨t',rfl⟩:=ry
 exact lt_str (qR I q rfl)
theorem zA8:OpR X (compareOp .In) (fun x y H Q=>∃ i j,x = .str i/\y = .str j/\Q (.bl (!(Builtin.Str.occurrences j i 0 j.length 1).isEmpty)) H):=by
 intro pins s σ H x y v u Q I rx ry h
 obtain ⟨i,j,rfl,rfl,q⟩:=h
 obtain ⟨t,rfl⟩:=rx
 obtain ⟨t',rfl⟩:=ry
 exact in_str (qR I q rfl)
theorem zG8:OpR X (compareOp .IsNot) (fun x y H Q=>y = .non/\Q (.bl (!decide (x = .non))) H):=by
 intro pins s σ H x y v u Q I rx ry h
 obtain ⟨rfl,q⟩:=h
 cases ry
 refine isnot_none_gen (qR I q ?_)
 cases x <;> first
  | (cases rx;rfl)
  | (obtain ⟨t,rfl⟩:=rx;rfl)
variable {r r':R2}
theorem OpR.or {f:Value->Value->Sem Value} (h:OpR X f r) (h':OpR X f r'):OpR X f (fun x y H Q=>r x y H Q\/r' x y H Q):=by
 intro pins s σ H x y v u Q I rx ry q
 rcases q with q | q
 ·exact h pins s σ H x y v u Q I rx ry q
 ·exact h' pins s σ H x y v u Q I rx ry q
variable {op:CmpOp}
theorem zS (b:Expr) (h:op ≠ .In:=by decide) (h2:op ≠ .NotIn:=by decide):behindInMarks op b=false:=by
 have e1:(op == CmpOp.In)=false:=by cases op <;> first | rfl | exact absurd rfl h
 have e2:(op == CmpOp.NotIn)=false:=by cases op <;> first | rfl | exact absurd rfl h2
 cases b <;> simp [behindInMarks,e1,e2]
theorem zy (ho:OpR X (compareOp op) r) (ha:PE X a ta) (hb:PE X b tb) (hm:behindInMarks op b=false):PE X (.Compare a [op] [b] pos) (tOp r ta tb):=by
 intro pins s σ H Q I h
 exact wpAny_Compare1 (zK0 ha hb I h fun v u s2 x y H2 I2 rx ry q=>ho pins s2 σ H2 x y v u Q I2 rx ry q) hm
def zFg (t:TE):TT:=fun σ H Q=>t σ H fun x H'=>∃ k,x = .bl k/\Q k H'
theorem zT (ho:OpR X (compareOp op) r) (ha:PE X a ta) (hb:PE X b tb) (hm:behindInMarks op b=false):PT X (.Compare a [op] [b] pos) (zFg (tOp r ta tb)):=by
 intro pins s σ H Q I h
 refine wpAny_isTrue_Compare1 (thn (ha pins s σ H _ I h) fun v s1 ⟨x,H1,I1,r1,q1⟩=>thn (hb pins s1 σ H1 _ I1 q1) fun u s2 ⟨y,H2,I2,r2,q2⟩ =>
  thn (ho pins s2 σ H2 x y v u _ I2 r1 r2 q2) fun c s3 ⟨z,H3,I3,r3,k,e,q3⟩=>?_) hm
 subst e
 cases r3
 exact wpAny_truthy_bool ⟨H3,I3,q3⟩
def zCe (r r':R2) (ta tb tc:TE):TE:=fun σ H Q=>ta σ H fun x H1=>tb σ H1 fun y H2=>r x y H2 fun z H3=>∃ k,z = .bl k /\
 (if k=true then tc σ H3 fun w' H4=>r' y w' H4 Q else Q (.bl false) H3)
theorem WM {op':CmpOp} (ho:OpR X (compareOp op) r) (ho':OpR X (compareOp op') r') (ha:PE X a ta) (hb:PE X b tb) (hc:PE X c tc)
  (hm:lastMarks [op,op'] [b,c]=false:=by with_unfolding_all rfl):PE X (.Compare a [op,op'] [b,c] pos) (zCe r r' ta tb tc):=by
 intro pins s σ H Q I h
 refine Compare_chain (thn (ha pins s σ H _ I h) fun v s1 ⟨x,H1,I1,r1,q1⟩=>chain_link (thn (hb pins s1 σ H1 _ I1 q1) fun u s2 ⟨y,H2,I2,r2,q2⟩ =>
  thn (ho pins s2 σ H2 x y v u _ I2 r1 r2 q2) fun d s3 ⟨z,H3,I3,r3,k,e,q3⟩=>?_)) hm
 subst e
 cases r3
 refine wpAny_truthy_bool ?_
 cases k with
 | false=>exact ite_ff ⟨.bl false,H3,I3,rfl,q3⟩
 | true=>exact ite_tt (chain_last (thn (hc pins s3 σ H3 _ I3 q3) fun w' s4 ⟨z',H4,I4,r4,q4⟩=>ho' pins s4 σ H4 y z' u w' Q I4 r2 r4 q4))
theorem zDH {op':CmpOp} (ho:OpR X (compareOp op) r) (ho':OpR X (compareOp op') r') (ha:PE X a ta) (hb:PE X b tb) (hc:PE X c tc)
  (hm:lastMarks [op,op'] [b,c]=false:=by with_unfolding_all rfl):PT X (.Compare a [op,op'] [b,c] pos) (zFg (zCe r r' ta tb tc)):=by
 intro pins s σ H Q I h
 refine isTrue_chain (thn (ha pins s σ H _ I h) fun v s1 ⟨x,H1,I1,r1,q1⟩=>test_link (thn (hb pins s1 σ H1 _ I1 q1) fun u s2 ⟨y,H2,I2,r2,q2⟩ =>
  thn (ho pins s2 σ H2 x y v u _ I2 r1 r2 q2) fun d s3 ⟨z,H3,I3,r3,k,e,q3⟩=>?_)) hm
 subst e
 cases r3
 refine wpAny_truthy_bool ?_
 cases k with
 | false =>
  obtain ⟨k',e',q'⟩:=q3
  cases e'
  exact ite_ff ⟨H3,I3,q'⟩
 | true =>
  refine ite_tt (test_last (thn (hc pins s3 σ H3 _ I3 q3) fun w' s4 ⟨z',H4,I4,r4,q4⟩=>thn (ho' pins s4 σ H4 y z' u w' _ I4 r2 r4 q4) fun d' s5 zq=>?_))
  obtain ⟨z2,H5,I5,r5,k2,e2,q5⟩:=zq
  subst e2
  cases r5
  exact wpAny_truthy_bool ⟨H5,I5,q5⟩
theorem Q3:(sizeLine:Nat) < 2 ^ 63:=by rw [sizeLine_eq];decide
theorem We:OpR X (binaryOp .Add) (fun x y H Q=>∃ i j,x = .str i/\y = .str j/\i.length+j.length<=sizeLine/\Q (.str (i++j)) H):=by
 intro pins s σ H x y v u Q I rx ry h
 obtain ⟨i,j,rfl,rfl,hz,q⟩:=h
 obtain ⟨t,rfl⟩:=rx
 obtain ⟨t',rfl⟩:=ry
 exact add_str (fun t' tk=>⟨.str (i++j),H,I.tok _,⟨_,rfl⟩,q⟩) hz
theorem Jm (r:qM [x] us) : ∃ u,us=[u]/\jz x u:=by
 cases r with
 | cons r1 r2=>cases r2;exact ⟨_,rfl,r1⟩
theorem Y1 (r:qM [x,y] us) : ∃ u w',us=[u,w']/\jz x u/\jz y w':=by
 cases r with
 | cons r1 r2 =>
  cases r2 with
  | cons r3 r4=>cases r4;exact ⟨_,_,rfl,r1,r3⟩
theorem zDB:jC X (.builtin "abs") (fun xs H Q=>∃ i,xs=[.int i]/\Q (.int (if i < 0 then -i else i)) H):=by
 intro pins s σ H xs us Q I r h
 obtain ⟨i,rfl,q⟩:=h
 obtain ⟨u,rfl,t,rfl⟩:=Jm r
 exact call_abs_int fun u tk=>⟨.int (if i < 0 then -i else i),H,I.tok _,⟨_,rfl⟩,q⟩
theorem zCX (hc:X.calm=true):jC X (.builtin "max") (fun xs H Q=>∃ i j,xs=[.int i,.int j]/\Q (.int (if j > i then j else i)) H):=by
 intro pins s σ H xs us Q I r h
 obtain ⟨i,j,rfl,q⟩:=h
 obtain ⟨u,w',rfl,⟨t,rfl⟩,⟨t',rfl⟩⟩:=Y1 r
 refine max_two_ints (I.ok.hd hc) fun h' tk k=>⟨_,H,I.kept k,?_,q⟩
 by_cases hj:j > i
 ·rw [if_pos hj,if_pos hj];exact ⟨_,rfl⟩
 ·rw [if_neg hj,if_neg hj];exact ⟨_,rfl⟩
theorem zAw (hc:X.calm=true):jC X (.builtin "min") (fun xs H Q=>∃ i j,xs=[.int i,.int j]/\Q (.int (if j < i then j else i)) H):=by
 intro pins s σ H xs us Q I r h
 obtain ⟨i,j,rfl,q⟩:=h
 obtain ⟨u,w',rfl,⟨t,rfl⟩,⟨t',rfl⟩⟩:=Y1 r
 refine min_two_ints (I.ok.hd hc) fun h' tk k=>⟨_,H,I.kept k,?_,q⟩
 by_cases hj:j < i
 ·rw [if_pos hj,if_pos hj];exact ⟨_,rfl⟩
 ·rw [if_neg hj,if_neg hj];exact ⟨_,rfl⟩
theorem zCF:jC X (.type "int") (fun xs H Q=>(∃ i,xs=[.int i]/\Q (.int i) H) \/ ∃ k,xs=[.bl k]/\Q (.int (if k then 1 else 0)) H):=by
 intro pins s σ H xs us Q I r h
 rcases h with ⟨i,rfl,q⟩ | ⟨k,rfl,q⟩
 ·obtain ⟨u,rfl,t,rfl⟩:=Jm r
  exact call_int_int ⟨.int i,H,I,⟨_,rfl⟩,q⟩
 ·obtain ⟨u,rfl,r1⟩:=Jm r
  cases r1
  exact call_int_bool ⟨.int (if k then 1 else 0),H,I.tok _,⟨_,rfl⟩,q⟩
theorem Qy:jC X (.type "str") (fun xs H Q=>∃ i,xs=[.int i]/\i.natAbs.log2 < 1920/\Q (.str (toString i)) H):=by
 intro pins s σ H xs us Q I r h
 obtain ⟨i,rfl,hz,q⟩:=h
 obtain ⟨u,rfl,t,rfl⟩:=Jm r
 exact PySem.P.str_of_int hz ⟨.str _,H,I.tok _,⟨_,rfl⟩,q⟩
end
structure zG3 (h:Heap) (x dx C:Addr) (mA:Str->Option Value):Prop where
 obj:h.get? x=some (W.instObj C dx)
 ns:h.Ns1 dx mA
 ne:dx≠x
theorem Jo {dx:Addr} {mA:Str->Option Value} (n:h.Ns1 dx mA) : ∃ od,h.get? dx=some od /\ ∀ name,W.lookIn name od=some (mA name):=by
 obtain ⟨o,es,ep,ho,hd,hk,_,hm⟩:=n
 refine ⟨o,ho,fun name=>?_⟩
 have e:=hm name
 unfold nsFind findBy at e
 rw [<- Array.find?_toList] at e
 unfold W.lookIn
 rw [hd]
 dsimp only
 split
 ·rename_i y q
  rw [q] at e
  exact congrArg some e
 ·rename_i q
  rw [q] at e
  have a:es.toList.any (·.refKey)=false:=by
   rw [List.any_eq_false]
   intro y hy
   obtain ⟨z,t,hkey⟩:=hk y (Array.mem_toList_iff.mp hy)
   simp [DictEntry.refKey,hkey]
  have a' : ¬ es.toList.any (·.refKey)=true:=by rw [a];exact Bool.false_ne_true
  rw [if_neg a']
  exact congrArg some e
variable {C:Addr}
theorem zG3.look {x dx:Addr} {mA:Str->Option Value} (I:zG3 h x dx C mA) : ∃ od,W.InstAt h x (W.instObj C dx) C (some od) /\ ∀ name,W.lookIn name od=some (mA name):=
 let ⟨od,ho,hl⟩:=Jo I.ns
 ⟨od,⟨I.obj,rfl,rfl,ho⟩,hl⟩
section
variable {prog : Program} {w : World} {A : Around} {E : Value -> Shared -> Prop} {s : Shared} {K : W.Frag} {x dx C f : Addr} {mA : Str -> Option Value} {name : Str} {v : Value}
theorem zFZ {expr:Bool} {Q:Value->Shared->Prop} (X:K.In s.heap) (I:zG3 s.heap x dx C mA) (hg:W.plainGet K C name=true) (hh:W.hasDictIn K C=true)
  (ha:W.findIn K (.ref C) name=some none) (hv:mA name=some v) (hv':W.handedIn v=true) (h:Q v { s with toks:=s.toks+1 }) :
  wpAny (model prog w) A (getAttr (.ref x) name expr) Q E s:=by
 obtain ⟨od,J,hl⟩:=I.look
 exact W.get_value X J (W.plainGet_of hg).1 (W.findObj_own hh ha rfl (by rw [hl,hv])) hv' h
theorem zDp {pl:Sem Bool} {Q:Value × List Value->Shared->Prop} (X:K.In s.heap) (I:zG3 s.heap x dx C mA) (hg:W.plainGet K C name=true)
  (hf:W.findIn K (.ref C) name=some (some (.ref f))) (ht:W.isFn K (.ref f)=true) (hv:mA name=none) (h:Q (.ref f,[.ref x]) s) :
  wpAny (model prog w) A (getMethod (.ref x) name pl) Q E s:=by
 obtain ⟨od,J,hl⟩:=I.look
 exact W.method_fn X J (W.plainGet_of hg).1 (W.plainGet_of hg).2 hf (beq_iff_eq.mp ht) (by show (W.lookIn name od).map (·.isSome)=some false;rw [hl,hv];rfl) h
theorem zF9 {ns:List Str} (X:K.In s.heap) (I:zG3 s.heap x dx C mA)
  (hs:W.findIn K (.ref C) "__setattr__" = some (some (.builtin "object.__setattr__"))) (hp:W.plainOver K C=true) (ht:W.takerIn K C name=some none) (hh:W.hasDictIn K C=true)
  (hw:PySem.Within mA ns) (hsz:ns.length<=sizeLine)
  (h : ∀ h',zG3 h' x dx C (fun y=>if y=name then some v else mA y)->Heap.SameBut dx s.heap h'->Q () { s with heap:=h',toks:=s.toks+2 }) :
  wpAny (model prog w) A (setAttr (.ref x) name v) Q E s:=by
 obtain ⟨od,J,hl⟩:=I.look
 refine W.set_plain X J hs (W.osa_open (s:={ s with toks:=s.toks+1 }) (r:=none) X J hp ht fun b=>?_)
 obtain ⟨cd,hc,hd'⟩:=W.any_some hh
 have hx:s.heap.get? x=some ⟨.ref C,some dx,.plain,#[]⟩:=I.obj
 refine wpAny_bind (wpAny_pure (wpAny_bind (wpAny_bind (wpAny_loadPart hx (wpAny_bind (W.Looks.here (s:={ s with toks:=s.toks+1 }) (W.looks_clsIn X hc) ?_))))))
 rw [hd']
 refine wpAny_pure (a:=some dx) (wpAny_bind (wpAny_pure (wpAny_bind ?_)))
 refine wpAny_nsSet1 (s:={ s with toks:=s.toks+1 }) I.ns fun h' hn2 hs2=>?_
 obtain ⟨oD,esD,epD,hoD,hdD,hcD⟩:=hn2.count (PySem.Within.cons name v hw)
 refine wpAny_bind (wpAny_lookBehind hoD (by rw [hdD];exact pastItsLine_dict (le_trans hcD (by rw [length_cons];omega))) ?_)
 exact wpAny_pure (h _ ⟨(hs2.2 _ (Ne.symm I.ne)).trans I.obj,hn2,I.ne⟩ hs2)
theorem zD7 {R:Result->Shared->Prop} {vs:List Value} {kw:List (Str × Value)} (X:K.In s.heap) (hm:W.makesIn K C=true)
  (hi:W.findIn K (.ref C) "__init__" = some (some (.ref f))) (hf:W.typeIn K (.ref f)=some (.type "function"))
  (h:codeAny (model prog w) (A.under (.builtin "type.__call__" ⟨.ref C::vs,kw⟩)) (.call (.ref f) ⟨.ref (s.heap.objs.size+1)::vs,kw⟩) (W.InitBack (s.heap.objs.size+1) R)
   { s with heap:=(s.heap.push W.emptyDict).push (W.instObj C s.heap.objs.size) }) :
  codeAny (model prog w) A (.call (.ref C) ⟨vs,kw⟩) R s:=by
 obtain ⟨hh,g,d,t,os⟩:=s
 exact W.make_core (W.makes_of X hm) (W.looks_findIn X hi) (fun self=>W.bind_fn X self hf) (.inl rfl) h
end
def Z0 (f:Str) (v:V):List (Str × V)->List (Str × V)
 | []=>[(f,v)]
 | (g,x)::r=>if g=f then (g,v)::r else (g,x)::Z0 f v r
theorem Jq (f g:Str) (v:V) : ∀ fs:List (Str × V),(Z0 f v fs).lookup g=if g=f then some v else fs.lookup g
 | []=>by
  show List.lookup g [(f,v)]=_
  by_cases h:g=f
  ·have hb:(g == f)=true:=beq_iff_eq.mpr h
   simp only [List.lookup,hb,if_pos h]
  ·have hb:(g == f)=false:=beq_eq_false_iff_ne.mpr h
   simp only [List.lookup,hb,if_neg h]
 | (k,x)::r=>by
  have ih:=Jq f g v r
  rw [show Z0 f v ((k,x)::r)=(if k=f then (k,v)::r else (k,x)::Z0 f v r) from rfl]
  by_cases hk:k=f
  ·rw [if_pos hk]
   by_cases h:g=k
   ·have hb:(g == k)=true:=beq_iff_eq.mpr h
    simp only [List.lookup,hb,if_pos (h.trans hk)]
   ·have hb:(g == k)=false:=beq_eq_false_iff_ne.mpr h
    simp only [List.lookup,hb,if_neg (fun e:g=f=>h (e.trans hk.symm))]
  ·rw [if_neg hk]
   by_cases h:g=k
   ·have hb:(g == k)=true:=beq_iff_eq.mpr h
    simp only [List.lookup,hb,if_neg (fun e:g=f=>hk (h.symm.trans e))]
   ·have hb:(g == k)=false:=beq_eq_false_iff_ne.mpr h
    simp only [List.lookup,hb]
    exact ih
theorem Jz (f:Str) (v:V) : ∀ fs:List (Str × V),f ∈ (Z0 f v fs).map (·.1) /\ ∀ g,g ∈ fs.map (·.1)->g ∈ (Z0 f v fs).map (·.1)
 | []=>⟨by simp [Z0],fun g h=>by simp at h⟩
 | (k,x)::r=>by
  obtain ⟨i1,i2⟩:=Jz f v r
  rw [show Z0 f v ((k,x)::r)=(if k=f then (k,v)::r else (k,x)::Z0 f v r) from rfl]
  by_cases hk:k=f
  ·rw [if_pos hk]
   subst hk
   exact ⟨by simp,fun g h=>by simpa using h⟩
  ·rw [if_neg hk]
   refine ⟨?_,fun g h=>?_⟩
   ·rw [List.map_cons]
    exact mem_cons_of_mem _ i1
   ·rw [List.map_cons] at h ⊢
    rcases List.mem_cons.mp h with e | e
    ·exact List.mem_cons.mpr (.inl e)
    ·exact mem_cons_of_mem _ (i2 g e)
theorem XZ (f:Str) (v:V) : ∀ fs:List (Str × V),(Z0 f v fs).length<=fs.length+1
 | []=>by simp [Z0]
 | (k,x)::r=>by
  have ih:=XZ f v r
  rw [show Z0 f v ((k,x)::r)=(if k=f then (k,v)::r else (k,x)::Z0 f v r) from rfl]
  by_cases hk:k=f
  ·rw [if_pos hk,length_cons,length_cons];omega
  ·rw [if_neg hk,length_cons,length_cons];omega
theorem zAM.some_of {v:V} {o:Option Value} (r:zAM (some v) o) : ∃ u,o=some u/\jz v u:=by
 cases o with
 | none=>exact (show False from r).elim
 | some u=>exact ⟨u,rfl,r⟩
theorem zAM.none_of {o:Option Value} (r:zAM none o):o=none:=by
 cases o with
 | none=>rfl
 | some u=>exact (show False from r).elim
theorem Vq {v:V} {u:Value} (r:jz v u):W.handedIn u=true:=by
 cases v with
 | non=>cases (show u=Value.none from r);rfl
 | bl b=>cases (show u=Value.bool b from r);rfl
 | int i=>obtain ⟨t,e⟩:=(show ∃ t,u=Value.int i t from r);cases e;rfl
 | str x=>obtain ⟨t,e⟩:=(show ∃ t,u=Value.str x t from r);cases e;rfl
 | byt b=>obtain ⟨t,e⟩:=(show ∃ t,u=Value.bytes b t from r);cases e;rfl
 | flt b=>obtain ⟨t,e⟩:=(show ∃ t,u=Value.float b t from r);cases e;rfl
 | ref a=>cases (show u=Value.ref a from r);rfl
 | ty n=>cases (show u=Value.type n from r);rfl
section
variable {P : Program} {w : World} {H H' : Hp} {h h' : Heap} {a C dx : Addr} {fs fs' : List (Str × V)}
theorem Yp (hok:HOk P w H h) (e:H a=some (.ins C dx fs)) : ∃ mA,zG3 h a dx C mA/\(∀ f,zAM (fs.lookup f) (mA f))/\PySem.Within mA (fs.map (·.1))/\fs.length<=1000/\H dx=some (.own a):=by
 obtain ⟨d,z,ne,ob,mA,n,r,q⟩:=(show jo P w H h a (.ins C dx fs) from hok a _ e)
 exact ⟨mA,⟨ob,n,ne⟩,r,q,z,d⟩
end
structure Cls (K:W.Frag) (C:Addr):Prop where
 pg:W.plainGet K C Str.empty=true
 hd:W.hasDictIn K C=true
 po:W.plainOver K C=true
 sa:W.findIn K (.ref C) "__setattr__" = some (some (.builtin "object.__setattr__"))
theorem Cls.get (c:Cls K C) (f:Str):W.plainGet K C f=true:=c.pg
def ya (K:W.Frag) (C:Addr) (f:Str):Prop:=W.findIn K (.ref C) f=some none
theorem ya.taker {f:Str} (n:ya K C f):W.takerIn K C f=some none:=by
 unfold W.takerIn
 rw [show W.findIn K (.ref C) f=some none from n]
 rfl
structure zKA (K:W.Frag) (C:Addr) (m:Str) (f:Addr):Prop where
 at_:W.findIn K (.ref C) m=some (some (.ref f))
 fn:W.isFn K (.ref f)=true
 kp:W.keepIn K (.ref f)=true
section
variable {X : Cx} {pins : List (Addr × Obj)} {σ : St} {H : Hp} {s : Shared} {a C dx : Addr} {fs : List (Str × V)} {f : Str} {v : V} {A : Around} {E : Value -> Shared -> Prop}
theorem Wl {b:Bool} {Q:Value->Shared->Prop} (I:Inv X pins σ H s) (e:H a=some (.ins C dx fs)) (c:Cls X.K C) (n:ya X.K C f) (l:fs.lookup f=some v)
  (h : ∀ u s',Inv X pins σ H s'->jz v u->Q u s'):wpAny (model X.prog X.w) A (getAttr (.ref a) f b) Q E s:=by
 obtain ⟨mA,O,r,_,_,_⟩:=Yp I.hok e
 obtain ⟨u,hu,ru⟩:=zAM.some_of (v:=v) (o:=mA f) (by rw [<- l];exact r f)
 exact zFZ I.kIn O (c.get f) c.hd n hu (Vq ru) (h u _ (I.tok _) ru)
theorem X6 {m:Str} {g:Addr} {pl:Sem Bool} {Q:Value × List Value->Shared->Prop} (I:Inv X pins σ H s) (e:H a=some (.ins C dx fs)) (c:Cls X.K C) (k:zKA X.K C m g) (l:fs.lookup m=none)
  (h:Q (.ref g,[.ref a]) s):wpAny (model X.prog X.w) A (getMethod (.ref a) m pl) Q E s:=by
 obtain ⟨mA,O,r,_,_,_⟩:=Yp I.hok e
 have hn:mA m=none:=zAM.none_of (by rw [<- l];exact r m)
 exact zDp I.kIn O (c.get m) k.at_ k.fn hn h
theorem Wx {u:Value} (I:Inv X pins σ H s) (e:H a=some (.ins C dx fs)) (c:Cls X.K C) (n:ya X.K C f) (hl:fs.length < 1000) (ry:jz y u)
  (h : ∀ s',Inv X pins σ (upd H a (.ins C dx (Z0 f y fs))) s'->Q () s'):wpAny (model X.prog X.w) A (setAttr (.ref a) f u) Q E s:=by
 obtain ⟨mA,O,r,wi,_,ho⟩:=Yp I.hok e
 have hz:(fs.map (·.1)).length<=sizeLine:=by rw [List.length_map,sizeLine_eq];omega
 refine zF9 I.kIn O c.sa c.po n.taker c.hd wi hz fun h' O' sb=>h _ ?_
 have hd : ∃ o,h'.get? dx=some o:=let ⟨o,_,_,e',_⟩:=O'.ns;⟨o,e'⟩
 refine I.write (x:=a) (e:=dx) (by rw [e];exact True.intro) (.inr ho) (fun b q hb z=>(sb.2 b hb).trans z) hd ?_
 refine ⟨by rw [zf O.ne];exact ho,?_,O.ne,O'.obj,_,O'.ns,fun g=>?_,fun g hg=>?_⟩
 ·have:=XZ f y fs;omega
 ·show zAM ((Z0 f y fs).lookup g) (if g=f then some u else mA g)
  rw [Jq]
  by_cases q:g=f
  ·rw [if_pos q,if_pos q];exact ry
  ·rw [if_neg q,if_neg q];exact r g
 ·by_cases q:g=f
  ·rw [q];exact (Jz f y fs).1
  ·refine (Jz f y fs).2 g (wi g fun z=>hg ?_)
   show (if g=f then some u else mA g)=none
   rw [if_neg q];exact z
theorem Inv.made (I:Inv X pins σ H s):Inv X pins σ (upd (upd H s.heap.objs.size (.own (s.heap.objs.size+1))) (s.heap.objs.size+1) (.ins C s.heap.objs.size []))
  { s with heap:=(s.heap.push W.emptyDict).push (W.instObj C s.heap.objs.size) }:=by
 have e1:(s.heap.push W.emptyDict).get? s.heap.objs.size=some W.emptyDict:=Heap.get?_push_size s.heap rfl
 have e2:((s.heap.push W.emptyDict).push (W.instObj C s.heap.objs.size)).get? (s.heap.objs.size+1)=some (W.instObj C s.heap.objs.size):=by
  have:=Heap.get?_push_size (s.heap.push W.emptyDict) (o:=W.instObj C s.heap.objs.size) rfl
  rwa [Heap.size_push] at this
 have e3:(s.heap.push W.emptyDict).Ns s.heap.objs.size (fun _=>none):=⟨W.emptyDict,#[],_,e1,rfl,(fun e he=>absurd he (by simp)),fun _=>rfl⟩
 have I1:=I.laid (a:=s.heap.objs.size) (o:=.own (s.heap.objs.size+1)) (h':=s.heap.push W.emptyDict) (t':=s.toks) (fun b u q=>Heap.get?_push_of_some _ q) (le_refl _) ⟨_,e1⟩
 refine I1.laid (a:=s.heap.objs.size+1) (o:=.ins C s.heap.objs.size []) (t':=s.toks) (fun b u q=>Heap.get?_push_of_some _ q) (Nat.le_of_eq (Heap.size_push _ _)) ?_
 have ne:s.heap.objs.size≠s.heap.objs.size+1:=ne_of_lt (Nat.lt_succ_self _)
 refine ⟨by rw [zf ne,zK],Nat.zero_le _,ne,e2,fun _=>none,(Heap.Ns1.of_empty e3).at fun o q=>Heap.get?_push_of_some _ q,fun _=>True.intro,fun y hy=>absurd rfl hy⟩
theorem zCh {prog:Program} {env:Env} {e:Expr} {pos:Pos} {s:Shared} {Q:Value->Shared->Prop} (hb:attributeBase e f env (eval e env)=eval e env)
  (h:wpAny (model prog w) A (eval e env) (fun o s₁=>wpAny (model prog w) A (getAttr o f true) Q E s₁) E s):wpAny (model prog w) A (eval (.Attribute e f pos) env) Q E s:=
 Attribute_any_ h (by rw [arm_eval_Attribute,hb])
end
def zLo (K:W.Frag) (ta:TE) (f:Str):TE:=fun σ H Q=>ta σ H fun x H1=>∃ a C dx fs v,x = .ref a/\H1 a=some (.ins C dx fs)/\Cls K C/\ya K C f/\fs.lookup f=some v/\Q v H1
def zLS (K:W.Frag) (ta tv:TE) (f:Str):TS:=fun D σ H=>tv σ H fun y H1=>ta σ H1 fun x H2=>∃ a C dx fs,x = .ref a/\H2 a=some (.ins C dx fs)/\Cls K C/\ya K C f/\fs.length < 1000 /\
 D.nx σ (upd H2 a (.ins C dx (Z0 f y fs)))
section
variable {X : Cx} {o e value : Expr} {f : Str} {pos pos' tpos : Pos} {ta tv : TE}
theorem qa (he:PE X e ta) (hb:attributeBase e f X.env (eval e X.env)=eval e X.env):PE X (.Attribute e f pos) (zLo X.K ta f):=by
 intro pins s σ H Q I h
 refine zCh hb (thn (he pins s σ H _ I h) fun u s1 zq=>?_)
 obtain ⟨x,H1,I1,rx,a,C,dx,fs,v,ex,ea,c,n,l,q⟩:=zq
 subst ex
 obtain rfl:u=Value.ref a:=rx
 exact Wl I1 ea c n l fun u' s2 I2 ru=>⟨v,H1,I2,ru,q⟩
theorem jd (ha:PE X o ta) (hv:PE X value tv) (hs:swapsWith value (some (.Attribute o f pos')) pos.line X.env=pure false):PS X (.Assign [.Attribute o f pos'] value pos) (zLS X.K ta tv f):=by
 intro pins s σ H D I h
 refine plainObj_wpAny_Assign_Attribute (thn (hv pins s σ H _ I h) fun u s1 ⟨y,H1,I1,ry,q⟩=>thn (ha pins s1 σ H1 _ I1 q) fun ov s2 zq=>?_) hs
 obtain ⟨x,H2,I2,rx,a,C,dx,fs,ex,ea,c,n,l,q2⟩:=zq
 subst ex
 obtain rfl:ov=Value.ref a:=rx
 exact Wx I2 ea c n l ry fun s3 I3=>⟨σ,_,I3,q2⟩
end
section
variable {X : Cx} {pins : List (Addr × Obj)} {σ : St} {H : Hp} {s : Shared} {A : Around} {E : Value -> Shared -> Prop} {Q : Value -> Shared -> Prop} {c : Value} {b : Bool}
inductive WQ (K:W.Frag) (H:Hp):V->Value->Prop where
 | non:WQ K H .non (.type "NoneType")
 | bl (x:Bool):WQ K H (.bl x) (.type "bool")
 | int (i:Int):WQ K H (.int i) (.type "int")
 | str (x:Str):WQ K H (.str x) (.type "str")
 | flt (x:UInt64):WQ K H (.flt x) (.type "float")
 | lst {a:Addr} {xs:List V} (e:H a=some (.lst xs)):WQ K H (.ref a) (.type "list")
 | frz {a:Addr} {o:Obj} {xs:List V} (e:H a=some (.frz o (.lst xs))):WQ K H (.ref a) (.type "list")
 | tup {a:Addr} {xs:List V} (e:H a=some (.tup xs)):WQ K H (.ref a) (.type "tuple")
 | dK {a:Addr} {kvs:List (Key × V)} (e:H a=some (.dK kvs)):WQ K H (.ref a) (.type "dict")
 | dT {a:Addr} {kvs:List (List Key × V)} (e:H a=some (.dT kvs)):WQ K H (.ref a) (.type "dict")
 | ins {a C dx:Addr} {fs:List (Str × V)} (e:H a=some (.ins C dx fs)) (cl:Cls K C) (ha:W.findIn K (.ref C) "__class__" = some (some (.builtin "object.__class__")))
   (hn:W.specialIn K (.builtin "object.__class__") "__get__" = some (some (.builtin "getset_descriptor.__get__"))) (htk:W.takesIn K (.builtin "object.__class__")=some true)
   (hm:W.mroIn K C (.type "object")=some true):WQ K H (.ref a) (.ref C)
theorem zB8 {u t:Value} (I:Inv X pins σ H s) (rx:jz x u) (ty:WQ X.K H x t) (e:W.kitOne X.K t c=some b) (h : ∀ tk,Q (.bool b) { s with toks:=tk }) :
  wpAny (model X.prog X.w) A (call (.builtin "isinstance") [u,c]) Q E s:=by
 cases ty with
 | non=>cases (show u=Value.none from rx);exact W.kia_one W.kitx_none I.kIn True.intro e (fun z=>nomatch z) h
 | bl y=>cases (show u=Value.bool y from rx);exact W.kia_one W.kitx_bool I.kIn True.intro e (fun z=>nomatch z) h
 | int i=>obtain ⟨t,q⟩:=(show ∃ t,u=Value.int i t from rx);cases q;exact W.kia_one W.kitx_int I.kIn True.intro e (fun z=>nomatch z) h
 | str y=>obtain ⟨t,q⟩:=(show ∃ t,u=Value.str y t from rx);cases q;exact W.kia_one W.kitx_str I.kIn True.intro e (fun z=>nomatch z) h
 | flt y=>obtain ⟨t,q⟩:=(show ∃ t,u=Value.float y t from rx);cases q;exact W.kia_one W.kitx_float I.kIn True.intro e (fun z=>nomatch z) h
 | @lst a xs ea =>
  cases (show u=Value.ref a from rx)
  obtain ⟨_,_,n,_,h1⟩:=(show jo X.prog X.w H s.heap a (.lst xs) from I.hok a _ ea)
  exact W.kia_one W.kitx_list I.kIn ⟨_,h1,rfl⟩ e (fun z=>nomatch z) h
 | @frz a ob xs ea =>
  cases (show u=Value.ref a from rx)
  obtain ⟨_,_,_,n,_,h1⟩:=(show jo X.prog X.w H s.heap a (.frz ob (.lst xs)) from I.hok a _ ea)
  exact W.kia_one W.kitx_list I.kIn ⟨_,h1,rfl⟩ e (fun z=>nomatch z) h
 | @tup a xs ea =>
  cases (show u=Value.ref a from rx)
  obtain ⟨_,_,_,p⟩:=(show jo X.prog X.w H s.heap a (.tup xs) from I.hok a _ ea)
  obtain ⟨o,h1,h2,_⟩:=p
  exact W.kia_one W.kitx_tuple I.kIn ⟨o,h1,h2⟩ e (fun z=>nomatch z) h
 | @dK a kvs ea =>
  cases (show u=Value.ref a from rx)
  obtain ⟨_,_,vs,_,p⟩:=(show jo X.prog X.w H s.heap a (.dK kvs) from I.hok a _ ea)
  obtain ⟨o,es,ep,h1,h2,_⟩:=p
  exact W.kia_one W.kitx_dict I.kIn ⟨o,h1,h2.1⟩ e (fun z=>nomatch z) h
 | @dT a kvs ea =>
  cases (show u=Value.ref a from rx)
  obtain ⟨_,_,xs,_,o,es,ep,h1,h2,_⟩:=(show jo X.prog X.w H s.heap a (.dT kvs) from I.hok a _ ea)
  exact W.kia_one W.kitx_dict I.kIn ⟨o,h1,h2.1⟩ e (fun z=>nomatch z) h
 | @ins a C dx fs ea cl ha hn htk hm =>
  cases (show u=Value.ref a from rx)
  obtain ⟨mA,O,_⟩:=Yp I.hok ea
  obtain ⟨od,J,_⟩:=O.look
  exact W.kia_one (W.kitx_own (cl.get _) cl.hd ha hn htk hm) I.kIn J e (fun z=>nomatch z) h
end
structure j5 (k:Nat) (A:Around):Prop where
 hd:A.handled=none
 dp:A.depth+3*k+5 < recursionLimit
 un:A.units+16*k+200 < cLine
variable {k:Nat}
theorem j5.mono {j:Nat} (r:j5 k A) (h:j<=k):j5 j A:=⟨r.hd,by have:=r.dp;omega,by have:=r.un;omega⟩
theorem j5.deeper (r:j5 (k+1) A) (env:Env):j5 k (A.deeper env):=
 ⟨r.hd,by have:=r.dp;show A.depth+1+3*k+5 < _;omega,by have:=r.un;show A.units+3+16*k+200 < _;omega⟩
theorem j5.in1 (r:j5 (k+1) A):j5 k A.in1:=
 ⟨r.hd,by have:=r.dp;show A.depth+3*k+5 < _;omega,by have:=r.un;show A.units+1+16*k+200 < _;omega⟩
theorem Wf {kw:List (Str × Value)}:(A.under (.builtin "type.__call__" ⟨.ref C::us,kw⟩)).depth=A.depth+1:=by
 first | rfl | simp [Around.under,Code.weight,Code.isCreation,Code.isGuard,Code.isCaller,Code.frames,Code.isFrame,guardIds]
theorem Wq {kw:List (Str × Value)}:(A.under (.builtin "type.__call__" ⟨.ref C::us,kw⟩)).units=A.units+1:=by
 first | rfl | simp [Around.under,Code.cUnits,Code.frames,Code.isFrame]
theorem j5.make (r:j5 (k+1) A) (C:Addr) (us:List Value) (kw:List (Str × Value)):j5 k (A.under (.builtin "type.__call__" ⟨.ref C::us,kw⟩)):=
 ⟨r.hd,by have:=r.dp;rw [Wf];omega,by have:=r.un;rw [Wq];omega⟩
theorem j5.depth (r:j5 k A):A.depth < recursionLimit:=by have:=r.dp;omega
theorem j5.units (r:j5 k A):A.units+64 < cLine:=by have:=r.un;omega
def zAr:TA:=fun _ H Q=>Q [] H
def zBS (ta:TE) (tr:TA):TA:=fun σ H Q=>ta σ H fun x H1=>tr σ H1 fun xs H2=>Q (x::xs) H2
section
variable {X : Cx} {e : Expr} {es : List Expr} {te : TE} {t : TA} {pos : Pos}
theorem zC:PA X [] zAr:=fun _ _ _ _ H Q I h=>Calls.spliced_nil ⟨[],H,I,.nil,h⟩
theorem zA (ha:PE X e te) (hr:PA X es t) (hs:starEach (e::es) X.env=(false,eval e X.env)::starEach es X.env:=by rfl):PA X (e::es) (zBS te t):=by
 intro pos pins s σ H Q I h
 rw [hs]
 show wpAny _ _ (spliced ((false,eval e X.env)::backTo pos (starEach es X.env))) _ _ s
 refine Calls.spliced_cons (thn (ha pins s σ H _ I h) fun u s1 zq=>?_)
 obtain ⟨x,H1,I1,r1,q1⟩:=zq
 exact thn (hr pos pins s1 σ H1 _ I1 q1) fun us s2 ⟨xs,H2,I2,r2,q2⟩=>⟨x::xs,H2,I2,.cons r1 r2,q2⟩
def zLX (t:TA):TE:=fun σ H Q=>t σ H fun xs H1=>xs.length<=sizeLine /\ ∀ p,H1 p=none->Q (.ref p) (upd H1 p (.tup xs))
def zLQ (t:TA):TE:=fun σ H Q=>t σ H fun xs H1=>xs.length<=sizeLine /\ ∀ p,H1 p=none->Q (.ref p) (upd H1 p (.lst xs))
theorem zo {x1} (h:PA X es t):PE X (.Tuple es x1 pos) (zLX t):=by
 intro pins s σ H Q I hq
 refine wpAny_Tuple_spliced (thn (h pos pins s σ H _ I hq) fun us s1 ⟨xs,H1,I1,r,z,q⟩=>⟨by rw [<- r.length];exact z,?_⟩)
 have hf:H1 s1.heap.objs.size=none:=I1.hok.fresh (le_refl _)
 refine ⟨.ref s1.heap.objs.size,upd H1 s1.heap.objs.size (.tup xs),I1.laid (t':=s1.toks) (fun b u e=>Heap.get?_push_of_some _ e) (le_refl _) ?_,rfl,q _ hf⟩
 exact ⟨z,us,r,⟨_,Heap.get?_push_size _ rfl,rfl,_,rfl⟩⟩
theorem zd (h:PA X es t):PE X (.List es pos) (zLQ t):=by
 intro pins s σ H Q I hq
 refine wpAny_List_spliced (thn (h pos pins s σ H _ I hq) fun us s1 ⟨xs,H1,I1,r,z,q⟩=>⟨by rw [<- r.length];exact z,?_⟩)
 have hf:H1 s1.heap.objs.size=none:=I1.hok.fresh (le_refl _)
 refine ⟨.ref s1.heap.objs.size,upd H1 s1.heap.objs.size (.lst xs),I1.laid (t':=s1.toks) (fun b u e=>Heap.get?_push_of_some _ e) (le_refl _) ?_,rfl,q _ hf⟩
 exact ⟨z,us,0,r,Heap.get?_push_size _ rfl⟩
end
abbrev Sp:=List V->Hp->VK->XK->Prop
abbrev CXT:=List Env->Hp->Shared->XK->Value->Shared->Prop
structure V0 (P:Program) (w:World) (K:W.Frag) (mg:Str->Option Value) (base:Heap) (A:Around) (outer:List Env) (s:Shared) (H:Hp):Prop where
 frames:A.frames=some outer
 mod:Mod K mg base
 bs : ∀ b o,base.get? b=some o->s.heap.get? b=some o/\H b=none
 bsz:base.objs.size<=s.heap.objs.size
 funs:s.heap.FunFrames base outer
 frf : ∀ b ∈ frs outer,H b=none
 hok:HOk P w H s.heap
 bare:AllBare s.gens
def CE (outer:List Env) (P:Program) (w:World) (H:Hp) (s:Shared) (Q:VK) (u:Value) (s':Shared):Prop:=
 ∃ v H',s'.os=s.os/\AllBare s'.gens/\Un (frs outer) [] H H' s.heap s'.heap/\HOk P w H' s'.heap/\jz v u/\Q v H'
def CR (CX:CXT) (outer:List Env) (P:Program) (w:World) (H:Hp) (s:Shared) (Q:VK) (E:XK) (r:Result) (s':Shared):Prop:=
 match r with
 | .ok (.ret u)=>CE outer P w H s Q u s'
 | .ok _=>False
 | .error e=>CX outer H s E e s'
structure xx (P:Program) (w:World) (K:W.Frag) (mg:Str->Option Value) (base:Heap) (CX:CXT) (k:Nat) (f:Addr) (fd:FuncData) (ps:List Str) (sp:Sp):Prop where
 len : ∀ vs H Q E,sp vs H Q E->vs.length=ps.length
 run : ∀ (A:Around) (outer:List Env) (s:Shared) (H:Hp) (args:Args) (us:List Value) (vs:List V) (Q:VK) (E:XK),j5 k A->V0 P w K mg base A outer s H->BindsTo s fd args (ps.zip us)->qM vs us->sp vs H Q E ->
  codeAny (model P w) A (.call (.ref f) args) (CR CX outer P w H s Q E) s
variable {mg:Str->Option Value} {base:Heap} {CX:CXT} {f:Addr} {fd:FuncData} {ps:List Str} {sp:Sp}
theorem xx.mono {j:Nat} (F:xx P w K mg base CX j f fd ps sp) (h:j<=k) :
  xx P w K mg base CX k f fd ps sp:=⟨F.len,fun A outer s H args us vs Q E hr=>F.run A outer s H args us vs Q E (hr.mono h)⟩
theorem xx.imp {sp':Sp} (F:xx P w K mg base CX k f fd ps sp)
  (h : ∀ vs H Q E,sp' vs H Q E->sp vs H Q E):xx P w K mg base CX k f fd ps sp':=
 ⟨fun vs H Q E q=>F.len vs H Q E (h _ _ _ _ q),fun A outer s H args us vs Q E hr he hb hv hs=>F.run A outer s H args us vs Q E hr he hb hv (h _ _ _ _ hs)⟩
variable {outer:List Env}
theorem V0.make {s:Shared} (e:V0 P w K mg base A outer s H) (C:Addr) (us:List Value) (kw:List (Str × Value)) :
  V0 P w K mg base (A.under (.builtin "type.__call__" ⟨.ref C::us,kw⟩)) outer s H:=⟨by first | exact e.frames | (simpa [Around.under,Code.envs,Code.isFrame,pushEnvs] using e.frames),e.mod,e.bs,e.bsz,e.funs,e.frf,e.hok,e.bare⟩
theorem V0.in1 {s:Shared} (e:V0 P w K mg base A outer s H) :
  V0 P w K mg base A.in1 outer s H:=⟨e.frames,e.mod,e.bs,e.bsz,e.funs,e.frf,e.hok,e.bare⟩
section
variable {X : Cx} {pins : List (Addr × Obj)} {σ : St} {H : Hp} {s s' : Shared}
theorem Inv.env0 (I:Inv X pins σ H s):V0 X.prog X.w X.K X.mg X.base X.A X.stack s H:=
 ⟨I.ok.frames,I.ok.mod,I.bs,le_trans I.ok.bsz I.sz,I.stack,I.stkFree,I.hok,I.bare⟩
theorem Inv.after {Q:VK} {u:Value} (I:Inv X pins σ H s) (h:CE X.stack X.prog X.w H s Q u s'):EP X pins σ Q u s':=by
 obtain ⟨v,H',os,bare,un,hok,r,q⟩:=h
 obtain ⟨hh,g,d,t,os'⟩:=s'
 obtain rfl:os'=s.os:=os
 exact ⟨v,H',I.call (h':=hh) (g':=g) (d':=d) (t':=t) (ch:=[]) un hok bare (fun b z=>absurd z (by simp)),r,q⟩
end
def Ye (sp:Sp) (dvs:List V) (E:XK) (t:TA):TE:=fun σ H Q=>t σ H fun vs H1=>sp (vs++dvs) H1 Q E
def VQ (C:Addr) (m:Str) (sp:Sp) (dvs:List V) (E:XK) (ta:TE) (t:TA):TE:=fun σ H Q=>ta σ H fun x H1=>∃ a dx fs,x = .ref a/\H1 a=some (.ins C dx fs)/\fs.lookup m=none /\
 t σ H1 fun vs H2=>sp (x::(vs++dvs)) H2 Q E
def zFs (C:Addr) (sp:Sp) (dvs:List V) (E:XK) (t:TA):TE:=fun σ H Q=>t σ H fun vs H1=>∀ x dx,H1 x=none->H1 dx=none->dx≠x ->
 sp (.ref x::(vs++dvs)) (upd (upd H1 dx (.own x)) x (.ins C dx [])) (fun v H2=>v = .non/\Q (.ref x) H2) E
def jx (K:W.Frag) (fd:FuncData) (ps:List Str) (ds:List Value):Prop:=
 ∀ (s:Shared) (us:List Value),K.In s.heap->(us++ds).length=ps.length->BindsTo s fd ⟨us,[]⟩ (ps.zip (us++ds))
theorem jx.all (h : ∀ us:List Value,us.length=ps.length->bindArgs fd ⟨us,[]⟩=pure (ps.zip us)):jx K fd ps []:=fun s us _ hl=>by
 rw [List.append_nil] at hl ⊢
 exact .of_eq (h us hl)
def jW (CX:CXT) (X:Cx) (E:XK):Prop:=∀ (pins:List (Addr × Obj)) (σ:St) (H:Hp) (s:Shared) (e:Value) (s':Shared),Inv X pins σ H s->CX X.stack H s E e s'->X.xe e s'
section
variable {X : Cx} {CX : CXT} {k : Nat} {f C : Addr} {fd : FuncData} {ps : List Str} {sp : Sp} {dvs : List V} {ds : List Value} {E : XK} {x m : Str} {p pos apos : Pos} {e o : Expr} {es : List Expr} {ta : TE} {t : TA}
theorem Vt {s:Shared} {Q:VK} {vs:List V} (F:xx X.prog X.w X.K X.mg X.base CX k f fd ps sp) (hr:j5 k X.A) (hb:jx X.K fd ps ds) (hd:qM dvs ds) (hx:jW CX X E)
  (I:Inv X pins σ H s) (r:qM vs us) (h:sp (vs++dvs) H Q E):wpAny (model X.prog X.w) X.A (call (.ref f) us) (EP X pins σ Q) X.xe s:=by
 have r2:qM (vs++dvs) (us++ds):=r.append hd
 have hl:(us++ds).length=ps.length:=by rw [<- r2.length];exact F.len _ _ _ _ h
 refine wpAny_call (codeAny_mono (F.run X.A X.stack s H ⟨us,[]⟩ (us++ds) (vs++dvs) Q E hr I.env0 (hb s us I.kIn hl) r2 h) fun r s' hq=>?_)
 cases r with
 | error e=>exact hx pins σ H s e s' I hq
 | ok fl =>
  cases fl with
  | ret u=>exact I.after hq
  | next=>exact False.elim hq
  | brk=>exact False.elim hq
  | cont=>exact False.elim hq
theorem zCr (F:xx X.prog X.w X.K X.mg X.base CX k f fd ps sp) (hr:j5 k X.A) (hg:Gl X x) (hm:X.mg x=some (.ref f)) (hk:W.keepIn X.K (.ref f)=true) (hb:jx X.K fd ps ds) (hd:qM dvs ds) (hx:jW CX X E)
  (ha:PA X (e::es) t) (hdb:(x == ("__debug__" : Str))=false:=by decide) (he:starEach (e::es) X.env=(false,eval e X.env)::starEach es X.env:=by rfl) (hpl:(backTo pos (starEach es X.env)).any (·.1)=false:=by rfl) :
  PE X (.Call (.Name x p) (e::es) [] pos) (Ye sp dvs E t):=by
 intro pins s σ H Q I h
 refine wpAny_Call_Name_kw (jr I hg hm ?_ hdb)
 refine W.callWith_K (h₀:=X.base) I.ok.mod.kin hk (thn (ha pos pins s σ H _ I h) fun us s1 ⟨vs,H1,I1,r,q⟩=>⟨I1.kIn,?_⟩) he hpl
 exact Vt F hr hb hd hx I1 r q
theorem zEB (F:xx X.prog X.w X.K X.mg X.base CX k f fd ps sp) (hr:j5 k X.A) (hg:Gl X x) (hm:X.mg x=some (.ref f)) (hk:W.keepIn X.K (.ref f)=true) (hb:jx X.K fd ps ds) (hd:qM dvs ds) (hx:jW CX X E)
  (hdb:(x == ("__debug__" : Str))=false:=by decide):PE X (.Call (.Name x p) [] [] pos) (Ye sp dvs E zAr):=by
 intro pins s σ H Q I h
 refine wpAny_Call_Name_kw (jr I hg hm ?_ hdb)
 exact W.callWith_K0 I.kIn hk (Vt (us:=[]) F hr hb hd hx I .nil h)
theorem zGL {pl:Sem Bool} (he:PE X o ta) (c:Cls X.K C) (hm:zKA X.K C m f) (F:xx X.prog X.w X.K X.mg X.base CX k f fd ps sp) (hr:j5 k X.A) (hb:jx X.K fd ps ds) (hd:qM dvs ds) (hx:jW CX X E) (ha:PA X (e::es) t)
  (hst:starEach (e::es) X.env=(false,eval e X.env)::starEach es X.env:=by rfl) (hpl:(backTo pos (starEach es X.env)).any (·.1)=false:=by rfl)
  (ht:eval (.Call (.Attribute o m apos) (e::es) [] pos) X.env=(do
   let ov <- eval o X.env
   standAt apos.atName
   let (f,first) <- holding [ov] (getMethod ov m pl)
   callWith pos f first (backTo pos (starEach (e::es) X.env)) (backToKw pos (keywordEach [] X.env))):=by rfl) :
  PE X (.Call (.Attribute o m apos) (e::es) [] pos) (VQ C m sp dvs E ta t):=by
 intro pins s σ H Q I h
 refine W.methodCall_KW (pl:=pl) (thn (he pins s σ H _ I h) fun u s1 zq=>?_) ht
 obtain ⟨x,H1,I1,rx,a,dx,fs,ex,ea,l,q⟩:=zq
 subst ex
 obtain rfl:u=Value.ref a:=rx
 refine X6 I1 ea c hm l ?_
 refine W.callWith_K (first:=[.ref a]) (h₀:=X.base) I.ok.mod.kin hm.kp (thn (ha pos pins s1 σ H1 _ I1 q) fun us s2 ⟨vs,H2,I2,r,q2⟩=>⟨I2.kIn,?_⟩) hst hpl
 exact Vt (us:=.ref a::us) (vs:=.ref a::vs) F hr hb hd hx I2 (.cons rfl r) q2
theorem zEE {pl:Sem Bool} (he:PE X o ta) (c:Cls X.K C) (hm:zKA X.K C m f) (F:xx X.prog X.w X.K X.mg X.base CX k f fd ps sp) (hr:j5 k X.A) (hb:jx X.K fd ps ds) (hd:qM dvs ds) (hx:jW CX X E)
  (ht:eval (.Call (.Attribute o m apos) [] [] pos) X.env=(do
   let ov <- eval o X.env
   standAt apos.atName
   let (f,first) <- holding [ov] (getMethod ov m pl)
   callWith pos f first (backTo pos (starEach [] X.env)) (backToKw pos (keywordEach [] X.env))):=by rfl) :
  PE X (.Call (.Attribute o m apos) [] [] pos) (VQ C m sp dvs E ta zAr):=by
 intro pins s σ H Q I h
 refine W.methodCall_KW (pl:=pl) (thn (he pins s σ H _ I h) fun u s1 zq=>?_) ht
 obtain ⟨x,H1,I1,rx,a,dx,fs,ex,ea,l,q⟩:=zq
 subst ex
 obtain rfl:u=Value.ref a:=rx
 refine X6 I1 ea c hm l ?_
 exact W.callWith_K0 (first:=[.ref a]) I1.kIn hm.kp (Vt (us:=[.ref a]) (vs:=[.ref a]) F hr hb hd hx I1 (.cons rfl .nil) q)
structure Mk (K:W.Frag) (C f:Addr):Prop where
 makes:W.makesIn K C=true
 init:W.findIn K (.ref C) "__init__" = some (some (.ref f))
 fn:W.isFn K (.ref f)=true
 kp:W.keepIn K (.ref C)=true
theorem zEM {s:Shared} {Q:VK} {vs:List V} (M:Mk X.K C f) (F:xx X.prog X.w X.K X.mg X.base CX k f fd ps sp) (hr:j5 (k+1) X.A) (hb:jx X.K fd ps ds) (hd:qM dvs ds)
  (hx:jW CX X E) (I:Inv X pins σ H s) (r:qM vs us)
  (h : ∀ x dx,H x=none->H dx=none->dx≠x->sp (.ref x::(vs++dvs)) (upd (upd H dx (.own x)) x (.ins C dx [])) (fun v H2=>v = .non/\Q (.ref x) H2) E) :
  wpAny (model X.prog X.w) X.A (call (.ref C) us) (EP X pins σ Q) X.xe s:=by
 have hq:=h (s.heap.objs.size+1) s.heap.objs.size (I.hok.fresh (Nat.le_succ _)) (I.hok.fresh (le_refl _)) (ne_of_lt (Nat.lt_succ_self _))
 have I2:=Inv.made (C:=C) I
 have r2:qM (V.ref (s.heap.objs.size+1)::(vs++dvs)) (Value.ref (s.heap.objs.size+1)::(us++ds)):=.cons rfl (r.append hd)
 have hl:(Value.ref (s.heap.objs.size+1)::us++ds).length=ps.length:=by
  have e:=r2.length
  rw [F.len _ _ _ _ hq] at e
  exact e.symm
 refine wpAny_call (zD7 (f:=f) I.kIn M.makes M.init (beq_iff_eq.mp M.fn) (codeAny_mono (F.run _ X.stack _ _ ⟨Value.ref (s.heap.objs.size+1)::us,[]⟩ (Value.ref (s.heap.objs.size+1)::(us++ds)) _ _ E (hr.make C us [])
  (I2.env0.make C us []) (hb _ (Value.ref (s.heap.objs.size+1)::us) I2.kIn hl) r2 hq) fun r s' hq'=>?_))
 cases r with
 | error e=>exact hx pins σ _ _ e s' I2 hq'
 | ok fl =>
  cases fl with
  | ret u =>
   obtain ⟨v,H',I3,rv,ev,q3⟩:=I2.after hq'
   subst ev
   exact ⟨rv,⟨V.ref (s.heap.objs.size+1),H',I3,rfl,q3⟩⟩
  | next=>exact False.elim hq'
  | brk=>exact False.elim hq'
  | cont=>exact False.elim hq'
theorem zFq (M:Mk X.K C f) (F:xx X.prog X.w X.K X.mg X.base CX k f fd ps sp) (hr:j5 (k+1) X.A) (hg:Gl X x) (hm:X.mg x=some (.ref C)) (hb:jx X.K fd ps ds) (hd:qM dvs ds) (hx:jW CX X E)
  (ha:PA X (e::es) t) (hdb:(x == ("__debug__" : Str))=false:=by decide) (he:starEach (e::es) X.env=(false,eval e X.env)::starEach es X.env:=by rfl) (hpl:(backTo pos (starEach es X.env)).any (·.1)=false:=by rfl) :
  PE X (.Call (.Name x p) (e::es) [] pos) (zFs C sp dvs E t):=by
 intro pins s σ H Q I h
 refine wpAny_Call_Name_kw (jr I hg hm ?_ hdb)
 refine W.callWith_K (h₀:=X.base) I.ok.mod.kin M.kp (thn (ha pos pins s σ H _ I h) fun us s1 ⟨vs,H1,I1,r,q⟩=>⟨I1.kIn,?_⟩) he hpl
 exact zEM M F hr hb hd hx I1 r q
end
section
variable {X : Cx} {CX : CXT} {k : Nat} {f C : Addr} {fd : FuncData} {ps ks : List Str} {sp : Sp} {E : XK} {x m : Str} {p pos apos kpos : Pos} {e o : Expr} {es : List Expr} {kws : List Keyword} {te ta : TE} {t tk : TA} {nm : Option Str}
variable {g : List Value -> List Value -> List Value} {gV : List V -> List V -> List V}
end
structure zN (N P:List Str) (sc:Scope):Prop where
 kind:sc.kind = .function
 co:sc.isCoroutine=false
 gen:sc.isGenerator=false
 nd:N.Nodup
 pre:N.take P.length=P
 par : ∀ x ∈ P,sc.names.lookup x=some .local\/sc.names.lookup x=some .cell
 nofree : ∀ y ∈ sc.names,y.2 ≠ .free
theorem Vd {kindOf:Str->Option NameKind} {x:Str} : ∀ {binds:List (Str × Value)} {m:Str->Option Value},(∀ v,(x,v) ∉ binds)->bindL kindOf binds m x=m x
 | [],_,_=>rfl
 | (n,v)::r,m,h=>by
  unfold bindL
  rw [Vd fun w hw=>h w (mem_cons_of_mem _ hw)]
  split
  ·have:x≠n:=by rintro rfl;exact h v List.mem_cons_self
   simp [this]
  ·rfl
theorem Vm {kindOf:Str->Option NameKind} {x:Str} : ∀ {binds:List (Str × Value)} {m:Str->Option Value},(∀ v,(x,v) ∉ binds)->bindC kindOf binds m x=m x
 | [],_,_=>rfl
 | (n,v)::r,m,h=>by
  unfold bindC
  rw [Vm fun w hw=>h w (mem_cons_of_mem _ hw)]
  split
  ·rfl
  ·have:x≠n:=by rintro rfl;exact h v List.mem_cons_self
   simp [this]
theorem VM {kindOf:Str->Option NameKind} {x:Str} {v:Value} : ∀ {P:List Str} {vs:List Value} {i:Nat} {m:Str->Option Value},P.Nodup->P[i]? = some x->vs[i]? = some v->kindOf x=some .local ->
  bindL kindOf (P.zip vs) m x=some v
 | [],_,_,_,_,h,_,_=>by simp at h
 | _::_,[],_,_,_,_,h,_=>by simp at h
 | p::P,w::vs,0,m,nd,h1,h2,hk=>by
  simp at h1 h2;subst h1;subst h2
  show bindL kindOf ((p,w)::P.zip vs) m p=_
  unfold bindL
  rw [Vd fun v hv=>(List.nodup_cons.mp nd).1 (List.of_mem_zip hv).1,if_pos hk]
  simp
 | p::P,w::vs,i+1,m,nd,h1,h2,hk=>by
  show bindL kindOf ((p,w)::P.zip vs) m x=_
  unfold bindL
  exact VM (i:=i) (List.nodup_cons.mp nd).2 (by simpa using h1) (by simpa using h2) hk
theorem VT {kindOf:Str->Option NameKind} {x:Str} {v:Value} : ∀ {P:List Str} {vs:List Value} {i:Nat} {m:Str->Option Value},P.Nodup->P[i]? = some x->vs[i]? = some v->kindOf x≠some .local ->
  bindC kindOf (P.zip vs) m x=some v
 | [],_,_,_,_,h,_,_=>by simp at h
 | _::_,[],_,_,_,_,h,_=>by simp at h
 | p::P,w::vs,0,m,nd,h1,h2,hk=>by
  simp at h1 h2;subst h1;subst h2
  show bindC kindOf ((p,w)::P.zip vs) m p=_
  unfold bindC
  rw [Vm fun v hv=>(List.nodup_cons.mp nd).1 (List.of_mem_zip hv).1,if_neg hk]
  simp
 | p::P,w::vs,i+1,m,nd,h1,h2,hk=>by
  show bindC kindOf ((p,w)::P.zip vs) m x=_
  unfold bindC
  exact VT (i:=i) (List.nodup_cons.mp nd).2 (by simpa using h1) (by simpa using h2) hk
def start (N:List Str) (vs:List V):St:=vs.map some++List.replicate (N.length - vs.length) none
def QX (CX:CXT) (P:Program) (w:World) (K:W.Frag) (mg:Str->Option Value) (base:Heap) (N:List Str) (qual:Str) (scope:Scope) (f:Addr) (cd:Value) (A:Around) (outer:List Env) (s:Shared) (H:Hp) (E:XK):Cx where
 prog:=P
 w:=w
 K:=K
 mg:=mg
 base:=base
 A:=A.deeper (envOfC qual scope s.heap.objs.size f cd)
 N:=N
 s₀:=s
 H₀:=H
 env:=envOfC qual scope s.heap.objs.size f cd
 outer:=outer
 stack:=envOfC qual scope s.heap.objs.size f cd::outer
 ex:=[]
 calm:=true
 fn:=fun _=>true
 pn:=[]
 xe:=fun e s'=>wpAny (model P w) (A.deeper (envOfC qual scope s.heap.objs.size f cd)) (leaving (envOfC qual scope s.heap.objs.size f cd) e) (fun _ s''=>CX outer H s E e s'') (fun e' s''=>CX outer H s E e' s'') s'
theorem K1 {sc:Scope} {n:Nat} {x:Str} (h:sc.names.lookup x=some .cell) : ∃ c,(cellsFrom n sc.names []).lookup x=some c:=by
 have q:=W.cellsFrom_some sc.names n [] (.inl h)
 exact Option.isSome_iff_exists.mp q
theorem J5 {N:List Str} {qual:Str} {scope:Scope} {cd:Value} {s s1:Shared} {E:XK} {vs:List V}
  (S:zN N ps scope) (hd:A.handled=none) (e0:V0 P w K mg base A outer s H) (hl:vs.length=ps.length) (r:qM vs us)
  (x:InCallC s s.heap.objs.size (bindL (envOfC qual scope s.heap.objs.size f cd).kindOf (ps.zip us) fun _=>none) (cellsFrom (s.heap.objs.size+1) scope.names []) (bindC (envOfC qual scope s.heap.objs.size f cd).kindOf (ps.zip us) fun _=>none) s1) :
  Inv (QX CX P w K mg base N qual scope f cd A outer s H E) [] (start N vs) H s1:=by
 have hpl:ps.length<=N.length:=by have:=congrArg List.length S.pre;rw [List.length_take] at this;omega
 obtain ⟨h1,tk,rfl,hk⟩:=x.done
 have noA : ∀ b:Addr,b ∉ (QX CX P w K mg base N qual scope f cd A outer s H E).ex:=fun b z=>absurd (show b ∈ ([]:List Addr) from z) (by simp)
 refine ⟨⟨e0.mod,S.kind,rfl,rfl,le_refl _,fun y z c h1 h2=>?_,fun y hy=>?_,fun y c _ h=>?_,fun _=>hd,Around.frames_deeper e0.frames,.inr ⟨rfl,rfl⟩,fun b z=>absurd z (noA b),e0.bs,e0.bsz,fun b _ _=>noA b,fun b z=>absurd z (noA b),e0.funs,e0.frf⟩,
  rfl,e0.bare,Un.kept hk,⟨_,x.toInCall.ns,fun i y v h1 h2 h3=>?_⟩,fun y c h=>⟨_,x.cell y c h⟩,e0.hok.fresh (le_refl _),fun y c h=>?_,fun p hp=>absurd (show p ∈ ([]:List (Addr × Obj)) from hp) (by simp),e0.hok.kept hk,?_⟩
 ·exact name_of_addr x.apart (PySem.mem_of_lookup h1) (PySem.mem_of_lookup h2)
 ·have hy:scope.names.lookup y=some .cell\/scope.names.lookup y=some .free:=hy
  rcases hy with hy | hy
  ·exact K1 hy
  ·exact absurd rfl (S.nofree _ (PySem.mem_of_lookup hy))
 ·exact Nat.le_of_lt (x.above y c (PySem.mem_of_lookup h))
 ·have hi:i < vs.length:=by
   unfold start at h2
   by_cases hi:i < vs.length
   ·exact hi
   ·rw [List.getElem?_append_right (by simpa using hi)] at h2
    rw [List.getElem?_replicate] at h2
    split at h2 <;> cases h2
  have ha:vs[i]? = some v:=by
   unfold start at h2
   rw [List.getElem?_append_left (by simpa using hi),List.getElem?_map] at h2
   cases e:vs[i]? with
   | none=>rw [e] at h2;cases h2
   | some a=>rw [e] at h2;cases h2;rfl
  obtain ⟨u,hu,rv⟩:=r.get ha
  have hp:ps[i]? = some y:=by
   rw [<- S.pre,List.getElem?_take_of_lt (by omega)];exact h1
  have ndP:ps.Nodup:=by rw [<- S.pre];exact S.nd.sublist (List.take_sublist _ _)
  refine ⟨u,rv,?_⟩
  rcases S.par y (List.mem_of_getElem? hp) with k | k
  ·exact .inl ⟨k,VM ndP hp hu k⟩
  ·obtain ⟨c,e⟩:=K1 (n:=s.heap.objs.size+1) k
   refine .inr ⟨.inl k,c,e,?_⟩
   have q:=x.cell y c e
   rw [VT ndP hp hu (by show scope.names.lookup y≠_;rw [k];decide)] at q
   exact q
 ·exact e0.hok.fresh (Nat.le_of_lt (x.above y c (PySem.mem_of_lookup h)))
 ·unfold start
  show _=N.length
  rw [List.length_append,List.length_map,List.length_replicate]
  omega
theorem zCD {name qual:Str} {params:Arguments} {body:List Stmt} {scope:Scope} {dV kV doc pm cdv ct oc:Value} {an od:Option Addr}
  {osl:Array (Option Value)} {N:List Str} (lk:K.lookup f=some ⟨oc,od,.func (W.fnOf name qual params body scope dV kV doc pm an cdv ct),osl⟩) (hcd:W.codeIn K cdv qual=true) (S:zN N ps scope)
  (len : ∀ vs H Q E,sp vs H Q E->vs.length=ps.length)
  (hbody : ∀ (A:Around) (outer:List Env) (s:Shared) (H:Hp) (vs:List V) (Q:VK) (E:XK),j5 k (A.deeper (envOfC qual scope s.heap.objs.size f cdv))->sp vs H Q E ->
   ∃ t,PSs (QX CX P w K mg base N qual scope f cdv A outer s H E) body t/\t { nx:=fun _ H'=>Q .non H',rt:=Q } (start N vs) H) :
  xx P w K mg base CX (k+1) f (W.fnOf name qual params body scope dV kV doc pm an cdv ct) ps sp:=by
 refine ⟨len,fun A outer s H args us vs Q E hr e0 hb r hsp=>?_⟩
 have hl:=len _ _ _ _ hsp
 have KX:K.In s.heap:=e0.mod.kin.keeps fun b o e=>(e0.bs b o e).1
 have lim:s.heap.NoLimit:=e0.mod.nolimit.keeps fun b o e=>(e0.bs b o e).1
 have hkind : ∀ y ∈ ps.zip us,scope.names.lookup y.1=some .local\/(scope.names.lookup y.1=some .cell/\((cellsFrom (s.heap.objs.size+1) scope.names []).lookup y.1).isSome=true):=fun ⟨n,v⟩ hy=>by
  rcases S.par n (List.of_mem_zip hy).1 with q | q
  ·exact .inl q
  ·exact .inr ⟨q,W.cellsFrom_some _ _ _ (.inl q)⟩
 refine codeAny_call_function hr.depth (KX _ _ lk) rfl S.co S.gen rfl (W.codeRec_of KX hcd) (hb _ _ _ _ ?_)
 refine wpAny_newFunctionEnv_cells S.kind hkind fun env he s1 x=>?_
 subst he
 refine ⟨lim.keeps x.toInCall.keep,codeAny_func ?_⟩
 obtain ⟨t,ht,hq⟩:=hbody A outer s H vs Q E (hr.deeper _) hsp
 have I:Inv (QX CX P w K mg base N qual scope f cdv A outer s H E) [] (start N vs) H s1:=J5 S hr.hd e0 hl r x
 refine wpAny_mono (ht [] s1 (start N vs) H _ I hq) (fun fl s' hs=>?_) fun e s' hs=>hs
 have fin : ∀ {σ':St} {H':Hp} {v:V} {u:Value},Inv (QX CX P w K mg base N qual scope f cdv A outer s H E) [] σ' H' s'->jz v u->Q v H'->CE outer P w H s Q u s':=
  fun {σ' H' v u} J rv q=>⟨v,H',J.os,J.bare,J.base,J.hok,rv,q⟩
 cases fl with
 | ret u =>
  obtain ⟨v,σ',H',J,rv,q⟩:=hs
  exact fin J rv q
 | next =>
  obtain ⟨σ',H',J,q⟩:=hs
  exact fin (v:=V.non) (u:=Value.none) J rfl q
 | brk =>
  obtain ⟨_,_,_,q⟩:=hs
  exact False.elim q
 | cont =>
  obtain ⟨_,_,_,q⟩:=hs
  exact False.elim q
section
variable {X : Cx} {x : Str} {p pos : Pos} {e : Expr} {es : List Expr} {t : TA} {id T : String} {r : List V -> Hp -> VK -> Prop}
def tCB (r:List V->Hp->VK->Prop) (t:TA):TE:=fun σ H Q=>t σ H fun vs H1=>r vs H1 Q
theorem zEA (hc:jC X (.builtin id) r) (hg:Gl X x) (hm:X.mg x=none) (hv:bootBuiltins x=some (.builtin id)) (ha:PA X (e::es) t) (hn:x ≠ "__name__" := by decide) (hdb:(x == ("__debug__" : Str))=false:=by decide)
  (he:starEach (e::es) X.env=(false,eval e X.env)::starEach es X.env:=by rfl) (hpl:(backTo pos (starEach es X.env)).any (·.1)=false:=by rfl):PE X (.Call (.Name x p) (e::es) [] pos) (tCB r t):=by
 intro pins s σ H Q I h
 refine wpAny_Call_Name_kw (YC I hg hm hv ?_ hn hdb)
 exact PyProof.Rows.callWith_builtin1 (thn (ha pos pins s σ H _ I h) fun us s1 ⟨vs,H1,I1,r1,q1⟩=>hc pins s1 σ H1 vs us Q I1 r1 q1) he hpl
theorem qC (hc:jC X (.type T) r) (hg:Gl X x) (hm:X.mg x=none) (hv:bootBuiltins x=some (.type T)) (ha:PA X (e::es) t) (hn:x ≠ "__name__" := by decide) (hdb:(x == ("__debug__" : Str))=false:=by decide)
  (he:starEach (e::es) X.env=(false,eval e X.env)::starEach es X.env:=by rfl) (hpl:(backTo pos (starEach es X.env)).any (·.1)=false:=by rfl):PE X (.Call (.Name x p) (e::es) [] pos) (tCB r t):=by
 intro pins s σ H Q I h
 refine wpAny_Call_Name_kw (YC I hg hm hv ?_ hn hdb)
 exact PyProof.Rows.callWith_type1 (thn (ha pos pins s σ H _ I h) fun us s1 ⟨vs,H1,I1,r1,q1⟩=>hc pins s1 σ H1 vs us Q I1 r1 q1) he hpl
end
end L2
namespace HT
open PySem PyProof.Rows
section
open PySem.SeqAt
open PySem.AutoSeq1 (wpAny_loadPart')
open PySem.MeetsSeq PySem.MeetsSeq2 PySem.MeetsSeq3
end
section
variable {prog : Program} {w : World} {A : Around} {E : Value -> Shared -> Prop} {s : Shared}
theorem cat_tup {t b:Addr} {vs ws:List Value} {Q:Value->Shared->Prop} (ht:IsTup s.heap t vs.toArray) (hb:IsTup s.heap b ws.toArray) (hv:vs≠[])
  (h1:ws=[]->Q (.ref t) s) (h2:ws≠[]->Q (.ref s.heap.objs.size) { s with heap:=s.heap.push { cls:=.type "tuple", data:=.seq (vs++ws).toArray } })
  (hsz:vs.length+ws.length<=sizeLine):wpAny (model prog w) A (binaryOp .Add (.ref t) (.ref b)) Q E s:=by
 obtain ⟨⟨cls,dd,data,sl⟩,ho,hc,n,hd⟩:=id ht
 obtain ⟨⟨cls2,dd2,data2,sl2⟩,ho2,hc2,n2,hd2⟩:=id hb
 simp only at hc hd hc2 hd2
 subst hc hd hc2 hd2
 have e:vs.toArray++ws.toArray=(vs++ws).toArray:=by simp
 by_cases hw:ws=[]
 ·exact concat_meets ⟨_,ho,rfl⟩ ⟨_,ho2,rfl⟩ noFill_tuple_add seq_tuple_add PySem.F.slot_tuple_add PySem.F.entry_tuple_add (PySem.F.args_tuple_add_2 _ _)
   (tuple_addW1 t b vs.toArray ws.toArray n n2 dd dd2 sl sl2 (by simpa using hv) (by simp [hw])) ⟨ho,ho2,h1 hw⟩
 ·refine concat_meets ⟨_,ho,rfl⟩ ⟨_,ho2,rfl⟩ noFill_tuple_add seq_tuple_add PySem.F.slot_tuple_add PySem.F.entry_tuple_add (PySem.F.args_tuple_add_2 _ _)
   (tuple_addW2 t b vs.toArray ws.toArray n n2 dd dd2 sl sl2 (by simpa using hv) (by simpa using hw) (by rw [List.size_toArray,List.size_toArray];exact hsz)) ⟨ho,ho2,?_⟩
  rw [e]
  exact h2 hw
def sIx (n d:Nat):Option Int->Nat
 | none=>d
 | some v=>if v < 0 then (v+(n:Int)).toNat else min v.toNat n
theorem sIx_none (n d:Nat):sIx n d none=d:=rfl
theorem sIx_nat (n d k:Nat):sIx n d (some (k:Int))=min k n:=by
 show (if (k:Int) < 0 then ((k:Int)+(n:Int)).toNat else min (k:Int).toNat n)=min k n
 rw [if_neg (by omega),Int.toNat_natCast]
theorem zHb (n d:Nat) (hd:d<=n) (o:Option Int):sIx n d o<=n:=by
 cases o with
 | none=>exact hd
 | some v =>
  show (if v < 0 then (v+(n:Int)).toNat else min v.toNat n)<=n
  by_cases hv:v < 0
  ·rw [if_pos hv];omega
  ·rw [if_neg hv];exact Nat.min_le_right _ _
theorem zCo (v:Int) (n d:Nat):(if v < 0 then max (v+(n:Int)) 0 else min v (n:Int))=((sIx n d (some v):Nat):Int):=by
 show (if v < 0 then max (v+(n:Int)) 0 else min v (n:Int))=(((if v < 0 then (v+(n:Int)).toNat else min v.toNat n):Nat):Int)
 by_cases hv:v < 0
 ·simp only [if_pos hv];omega
 ·simp only [if_neg hv];omega
theorem zAI (lo hi:Option Int) (n:Nat):Builtin.Slice.sliceAdjust lo hi 1 (n:Int)=(((sIx n 0 lo:Nat):Int),((sIx n n hi:Nat):Int)):=by
 have h1 : ¬ ((1:Int) < 0):=by omega
 unfold Builtin.Slice.sliceAdjust
 simp only [h1,if_false]
 refine Prod.ext ?_ ?_
 ·cases lo with
  | none=>rfl
  | some v=>exact zCo v n 0
 ·cases hi with
  | none=>rfl
  | some v=>exact zCo v n n
theorem Wm (i j:Nat):Builtin.Slice.slicePlaces (i:Int) (j:Int) 1=j - i:=by
 unfold Builtin.Slice.slicePlaces
 have h1:(1:Int) > 0:=by omega
 simp only [h1,if_true,Int.ediv_one]
 split <;> omega
theorem Xv {v:Value} {o:Option Int} {Q:Option Int->Shared->Prop} (p:IsPart v o) (h:Q o s):wpAny (model prog w) A (Builtin.Slice.slicePartIndex v) Q E s:=by
 cases p with
 | none=>exact slicePart_none h
 | int i t=>exact slicePart_int h
theorem JS {sl:Addr} {vl vu:Value} {lo hi:Option Int} {n:Nat} {Q:Int × Int × Nat->Shared->Prop} (hs:s.heap.IsSliceOf sl vl vu .none) (pl:IsPart vl lo) (pu:IsPart vu hi)
  (h:Q (((sIx n 0 lo:Nat):Int),1,sIx n n hi - sIx n 0 lo) s):wpAny (model prog w) A (Builtin.Slice.sliceApplied (.ref sl) (pure (n:Int))) Q E s:=by
 obtain ⟨os,hos,hcs,hds⟩:=id hs
 unfold Builtin.Slice.sliceApplied Builtin.Slice.sliceFields
 refine wpAny_bind (wpAny_bind (wpAny_field hos hds (x:=vl) rfl (wpAny_bind (wpAny_field hos hds (x:=vu) rfl (wpAny_bind (wpAny_field hos hds (x:=.none) rfl (wpAny_pure ?_)))))))
 refine wpAny_bind (slicePart_none ?_)
 show wpAny _ _ (if ((1:Int) == 0)=true then _ else _) _ _ s
 rw [if_neg (by decide)]
 refine wpAny_bind (Xv pl (wpAny_bind (Xv pu (wpAny_bind (wpAny_pure ?_)))))
 show wpAny _ _ (match Builtin.Slice.sliceAdjust lo hi 1 (n:Int) with | (lo,hi)=>pure (lo,(1:Int),Builtin.Slice.slicePlaces lo hi 1)) _ _ s
 rw [zAI lo hi n]
 show wpAny _ _ (pure (((sIx n 0 lo:Nat):Int),(1:Int),Builtin.Slice.slicePlaces ((sIx n 0 lo:Nat):Int) ((sIx n n hi:Nat):Int) 1)) _ _ s
 rw [Wm]
 exact wpAny_pure h
theorem zDQ (xs:Array Value) (i k:Nat):((List.range k).filterMap fun (m:Nat)=>xs[((i:Int)+(m:Int)*1).toNat]?).toArray=((xs.toList.drop i).take k).toArray:=by
 have e:(fun (m:Nat)=>xs[((i:Int)+(m:Int)*1).toNat]?)=fun m=>xs[i+m]?:=by
  funext m
  have:((i:Int)+(m:Int)*1).toNat=i+m:=by omega
  rw [this]
 rw [e]
 have:=pick_run xs i k
 rw [List.filterMap_map] at this
 have e2:((fun x=>xs[x]?) ∘ fun x=>i+x)=fun m=>xs[i+m]?:=rfl
 rw [e2] at this
 rw [this]
theorem getItem_tuple_cut {t sl:Addr} {items:Array Value} {vl vu:Value} {lo hi:Option Int} {Q:Value->Shared->Prop} (ht:IsTup s.heap t items) (hs:s.heap.IsSliceOf sl vl vu .none) (pl:IsPart vl lo) (pu:IsPart vu hi)
  (hw : ¬ (sIx items.size 0 lo=0/\sIx items.size items.size hi=items.size))
  (h:Q (.ref s.heap.objs.size) { s with heap:=s.heap.push { cls:=.type "tuple", data:=.seq ((items.toList.drop (sIx items.size 0 lo)).take (sIx items.size items.size hi - sIx items.size 0 lo)).toArray } })
  (hsz:items.size<=sizeLine):wpAny (model prog w) A (getItem (.ref t) (.ref sl)) Q E s:=by
 have htake:sizeOk (.seq ((items.toList.drop (sIx items.size 0 lo)).take (sIx items.size items.size hi - sIx items.size 0 lo)).toArray):=by
  show ((items.toList.drop (sIx items.size 0 lo)).take (sIx items.size items.size hi - sIx items.size 0 lo)).toArray.size<=sizeLine
  rw [List.size_toArray,List.length_take,List.length_drop,Array.length_toList]
  omega
 have hj:sIx items.size items.size hi<=items.size:=zHb _ _ (Nat.le_refl _) hi
 obtain ⟨os,hos,hcs,hds⟩:=id hs
 have hTs:s.TypeIs (.ref sl) "slice" := ⟨os,hos,hcs⟩
 unfold getItem
 try with_reducible refine wpAny_holding ?_
 first | refine wpAny_bind (wpAny_pure ?_) | skip
 refine wpAny_bind (wpAny_sequenceKey ht.typeIs (by decide) ?_)
 refine wpAny_bind (wpAny_callSpecial?_slot (name:=Str.ofString "__getitem__") ht.typeIs PyProof.Rows.slot_tuple_getitem
  (wpAny_call_entry PyProof.Rows.slot_tuple_getitem ht.typeIs entry_tuple_getitem ?_ (args_tuple_getitem _ _)))
 show wpAny _ _ (Builtin.Tuple.tupleItemsOf (.ref t) >>= _) _ _ s
 refine wpAny_bind (tupleItemsOf_ ht ?_)
 refine wpAny_bind (wpAny_typeOf hTs ?_)
 rw [if_pos (by decide)]
 refine wpAny_bind (JS hs pl pu ?_)
 have hno : ¬ ((((sIx items.size 0 lo:Nat):Int) == 0 && (1:Int) == 1 && (sIx items.size items.size hi - sIx items.size 0 lo) == items.size)=true):=by
  intro q
  rw [Bool.and_eq_true,Bool.and_eq_true] at q
  have q1:((sIx items.size 0 lo:Nat):Int)=0:=eq_of_beq q.1.1
  have q2:sIx items.size items.size hi - sIx items.size 0 lo=items.size:=eq_of_beq q.2
  exact hw ⟨by omega,by omega⟩
 show wpAny _ _ (if (((sIx items.size 0 lo:Nat):Int) == 0 && (1:Int) == 1 && (sIx items.size items.size hi - sIx items.size 0 lo) == items.size)=true then _ else _) _ _ s
 rw [if_neg hno,zDQ]
 first
  | exact wpAny_bind (m:=Builtin.Tuple.tupleExact _) (wpAny_newObj_type (wpAny_pure ⟨_,rfl,wpAny_pure h⟩) htake)
  | exact wpAny_bind (m:=Builtin.Tuple.tupleExact _) (wpAny_newObj_type (wpAny_bind (wpAny_pure (wpAny_pure ⟨_,rfl,wpAny_pure h⟩))) htake)
  | exact wpAny_bind (wpAny_bind (m:=Builtin.Tuple.tupleExact _) (wpAny_newObj_type (wpAny_pure (wpAny_pure ⟨_,rfl,wpAny_pure h⟩)) htake))
  | exact wpAny_bind (wpAny_bind (m:=Builtin.Tuple.tupleExact _) (wpAny_newObj_type (wpAny_pure ⟨_,rfl,wpAny_pure h⟩) htake))
end
end HT
namespace L2
open PySem PySem.Spec PyProof.Rows
open List (flatten_cons length_append replicate_succ size_toArray)
open Nat (le_refl)
abbrev TO:=St->Hp->(Option Int->Hp->Prop)->Prop
def PO (X:Cx) (e:Option Expr) (t:TO):Prop:=
 ∀ (pins:List (Addr × Obj)) (s:Shared) (σ:St) (H:Hp) (Q:Option Int->Hp->Prop),Inv X pins σ H s->t σ H Q ->
  wpAny (model X.prog X.w) X.A (evalPart e X.env) (fun u s'=>∃ o H',Inv X pins σ H' s'/\IsPart u o/\Q o H') X.xe s
def zCy:TO:=fun _ H Q=>Q none H
def zJ1 (t:TE):TO:=fun σ H Q=>t σ H fun x H1=>∃ i,x = .int i/\Q (some i) H1
section
variable {X : Cx} {e : Expr} {te : TE} {lo hi : Option Expr} {tl th : TO} {pos p2 : Pos}
theorem qL:PO X none zCy:=by
 intro pins s σ H Q I h
 rw [evalPart_none]
 exact wpAny_pure ⟨none,H,I,.none,h⟩
theorem zx (h:PE X e te):PO X (some e) (zJ1 te):=by
 intro pins s σ H Q I hw
 rw [evalPart_some]
 refine thn (h pins s σ H _ I hw) fun u s1 zq=>?_
 obtain ⟨x,H1,I1,r1,q1⟩:=zq
 obtain ⟨i,rfl,q⟩:=q1
 obtain ⟨t,rfl⟩:=r1
 exact ⟨some i,H1,I1,.int i t,q⟩
def SlR (X:Cx) (r:V->Option Int->Option Int->Hp->VK->Prop):Prop:=
 ∀ (pins:List (Addr × Obj)) (s:Shared) (σ:St) (H:Hp) (x:V) (v vl vu:Value) (lo hi:Option Int) (sl:Addr) (Q:VK),Inv X pins σ H s->jz x v->s.heap.IsSliceOf sl vl vu .none->IsPart vl lo->IsPart vu hi->r x lo hi H Q ->
  ∃ T id,typeLookup (.type T) "__getitem__" = pure (some (.builtin id))/\s.TypeIs v T/\wpAny (model X.prog X.w) X.A (getItem v (.ref sl)) (EP X pins σ Q) X.xe s
theorem SlR.or {r r':V->Option Int->Option Int->Hp->VK->Prop} (h:SlR X r) (h':SlR X r'):SlR X (fun x lo hi H Q=>r x lo hi H Q\/r' x lo hi H Q):=by
 intro pins s σ H x v vl vu lo hi sl Q I rx hs pl pu q
 rcases q with q | q
 ·exact h pins s σ H x v vl vu lo hi sl Q I rx hs pl pu q
 ·exact h' pins s σ H x v vl vu lo hi sl Q I rx hs pl pu q
def tSl (r:V->Option Int->Option Int->Hp->VK->Prop) (te:TE) (tl th:TO):TE:=fun σ H Q=>te σ H fun x H1=>tl σ H1 fun l H2=>th σ H2 fun u H3=>r x l u H3 Q
theorem zt {r:V->Option Int->Option Int->Hp->VK->Prop} (hr:SlR X r) (he:PE X e te) (hl:PO X lo tl) (hu:PO X hi th):PE X (.Subscript e (.Slice lo hi none p2) pos) (tSl r te tl th):=by
 intro pins s σ H Q I h
 refine Subscript_ (thn (he pins s σ H _ I h) fun v s1 zq=>?_)
 obtain ⟨x,H1,I1,r1,q1⟩:=zq
 refine wpAny_Slice (thn (hl pins s1 σ H1 _ I1 q1) fun vl s2 ⟨l,H2,I2,pl,q2⟩=>thn (hu pins s2 σ H2 _ I2 q2) fun vu s3 zq=>?_)
 obtain ⟨u,H3,I3,pu,q3⟩:=zq
 rw [evalPart_none]
 refine wpAny_pure ?_
 have I4:Inv X pins σ H3 { s3 with heap:=s3.heap.push { cls:=.type "slice", data:=.fields #[vl,vu,.none] } }:=I3.kept (t':=s3.toks) fun b ob q=>Heap.get?_push_of_some _ q
 obtain ⟨T,id,hT,ht,hg⟩:=hr pins { s3 with heap:=s3.heap.push { cls:=.type "slice", data:=.fields #[vl,vu,.none] } } σ H3 x v vl vu l u s3.heap.objs.size Q I4 r1 (Heap.IsSliceOf.new ..) pl pu q3
 show wpAny (model X.prog X.w) X.A (subscriptTail e (.Slice lo hi none p2) v (.ref s3.heap.objs.size)) (EP X pins σ Q) X.xe { s3 with heap:=s3.heap.push { cls:=.type "slice", data:=.fields #[vl,vu,.none] } }
 exact tail_any (ops:=[.ref s3.heap.objs.size,v]) ht hT hg (by with_unfolding_all rfl)
def YV (xs:List V) (lo hi:Option Int):List V:=(xs.drop (HT.sIx xs.length 0 lo)).take (HT.sIx xs.length xs.length hi - HT.sIx xs.length 0 lo)
theorem Jf (xs:List V) (lo hi:Option Int):(YV xs lo hi).length<=xs.length:=by
 unfold YV
 rw [List.length_take,List.length_drop]
 omega
def zLj (K:W.Frag):V->Option Int->Option Int->Hp->VK->Prop:=fun x lo hi H Q=>∃ a xs,x = .ref a/\SqT K H a xs /\
 ¬ (HT.sIx xs.length 0 lo=0/\HT.sIx xs.length xs.length hi=xs.length) /\ ∀ p,H p=none->Q (.ref p) (upd H p (.tup (YV xs lo hi)))
theorem Kr:SlR X (zLj X.K):=by
 intro pins s σ H x v vl vu lo hi sl Q I rx hs pl pu h
 obtain ⟨a,xs,rfl,hx,hw,q⟩:=h
 cases rx
 obtain ⟨its,r,ht,hz⟩:=I.tuple hx
 have hlen:its.toArray.size=xs.length:=by rw [size_toArray];exact r.length.symm
 refine ⟨"tuple", _,PyProof.Rows.slot_tuple_getitem.lookup,ht.typeIs,?_⟩
 refine HT.getItem_tuple_cut ht hs pl pu (by rw [hlen];exact hw) ?_ (by rw [hlen];exact hz)
 rw [hlen]
 refine ⟨.ref s.heap.objs.size,_,I.laid (t':=s.toks) (o:=.tup (YV xs lo hi)) (fun b ob q=>Heap.get?_push_of_some _ q) (le_refl _) ?_,rfl,q _ (I.hok.fresh (le_refl _))⟩
 exact ⟨Nat.le_trans (Jf xs lo hi) hz,_,(r.drop (HT.sIx xs.length 0 lo)).take (HT.sIx xs.length xs.length hi - HT.sIx xs.length 0 lo),IsTup.new _ _⟩
def zCO (K:W.Frag):R2:=fun x y H Q=>∃ a b xs ys,x = .ref a/\y = .ref b/\SqT K H a xs/\SqT K H b ys/\xs≠[]/\xs.length+ys.length<=sizeLine /\
 (ys=[]->Q (.ref a) H)/\(ys≠[] -> ∀ p,H p=none->Q (.ref p) (upd H p (.tup (xs++ys))))
theorem qM.nil_iff {xs:List V} {us:List Value} (r:qM xs us):us=[]↔xs=[]:=by
 cases r with
 | nil=>simp
 | cons _ _=>simp
theorem KT:OpR X (binaryOp .Add) (zCO X.K):=by
 intro pins s σ H x y v u Q I rx ry h
 obtain ⟨a,b,xs,ys,rfl,rfl,ha,hb,hx,hz,q1,q2⟩:=h
 cases rx
 cases ry
 obtain ⟨its,r1,p1,_⟩:=I.tuple ha
 obtain ⟨its2,r2,p2,_⟩:=I.tuple hb
 refine HT.cat_tup p1 p2 (fun z=>hx (r1.nil_iff.mp z)) (fun z=>⟨.ref a,H,I,rfl,q1 (r2.nil_iff.mp z)⟩) (fun z=>?_) (by rw [<- r1.length,<- r2.length];exact hz)
 refine ⟨.ref s.heap.objs.size,_,I.laid (t':=s.toks) (o:=.tup (xs++ys)) (fun b ob q=>Heap.get?_push_of_some _ q) (le_refl _) ?_,rfl,q2 (fun w=>z (r2.nil_iff.mpr w)) _ (I.hok.fresh (le_refl _))⟩
 exact ⟨by rw [length_append];exact hz,_,r1.append r2,IsTup.new _ _⟩
end
def ixN (n:Nat) (i:Int):Option Nat:=if 0<=i then (if i < n then some i.toNat else none) else if -(n:Int)<=i then some (i+n).toNat else none
def atI {α:Type} (xs:List α) (i:Int):Option α:=(ixN xs.length i).bind fun j=>xs[j]?
variable {n:Nat}
theorem zB1 {i:Int} {j:Nat} (h:ixN n i=some j):seqIndex? i n=some j/\j < n /\ -(n:Int)<=i/\i < n:=by
 unfold ixN at h
 by_cases h0:0<=i
 ·rw [if_pos h0] at h
  by_cases h1:i < n
  ·rw [if_pos h1] at h
   have e:i.toNat=j:=Option.some.inj h
   exact ⟨by rw [seqIndex_of h0 h1,e],by omega,by omega,h1⟩
  ·rw [if_neg h1] at h;cases h
 ·rw [if_neg h0] at h
  by_cases h1 : -(n:Int)<=i
  ·rw [if_pos h1] at h
   have e:(i+n).toNat=j:=Option.some.inj h
   exact ⟨by rw [seqIndex_neg (by omega) h1,e],by omega,h1,by omega⟩
  ·rw [if_neg h1] at h;cases h
theorem Kp {α:Type} {xs:List α} {i:Int} {v:α} (h:atI xs i=some v) : ∃ j,seqIndex? i xs.length=some j/\xs[j]? = some v/\j < xs.length /\ -(xs.length:Int)<=i/\i < xs.length:=by
 unfold atI at h
 cases e:ixN xs.length i with
 | none=>rw [e] at h;cases h
 | some j =>
  rw [e] at h
  obtain ⟨h1,h2,h3,h4⟩:=zB1 e
  exact ⟨j,h1,h,h2,h3,h4⟩
theorem zFe {α:Type} {xs:List α} {j:Nat} {v:α} (h:xs[j]? = some v):atI xs (j:Int)=some v:=by
 have hj:j < xs.length:=(List.getElem?_eq_some_iff.mp h).1
 have e:ixN xs.length (j:Int)=some j:=by
  unfold ixN
  rw [if_pos (by omega),if_pos (by omega)];simp
 unfold atI;rw [e];exact h
def zGr (b:Expr):Prop:=∀ o i,subscripted b false o i=operate [o,i] (getItem o i)
def IxR (X:Cx) (r:R2):Prop:=
 ∀ (value slice:Expr) (pins:List (Addr × Obj)) (s:Shared) (σ:St) (H:Hp) (x y:V) (v u:Value) (Q:VK),Inv X pins σ H s->jz x v->jz y u->r x y H Q ->
  subscripted slice false v u=operate [v,u] (getItem v u)->wpAny (model X.prog X.w) X.A (subscriptTail value slice v u) (EP X pins σ Q) X.xe s
def MtR (X:Cx) (id:String) (r:V->List V->Hp->VK->Prop):Prop:=
 ∀ (pins:List (Addr × Obj)) (s:Shared) (σ:St) (H:Hp) (x:V) (xs:List V) (v:Value) (us:List Value) (Q:VK),Inv X pins σ H s->jz x v->qM xs us->r x xs H Q ->
  wpAny (model X.prog X.w) X.A (call (.builtin id) (v::us)) (EP X pins σ Q) X.xe s
section
variable {X : Cx} {a b : Expr} {ta tb : TE} {pos : Pos}
theorem IxR.or {r r':R2} (h:IxR X r) (h':IxR X r'):IxR X (fun x y H Q=>r x y H Q\/r' x y H Q):=by
 intro value slice pins s σ H x y v u Q I rx ry q hs
 rcases q with q | q
 ·exact h value slice pins s σ H x y v u Q I rx ry q hs
 ·exact h' value slice pins s σ H x y v u Q I rx ry q hs
theorem MtR.or {id:String} {r r':V->List V->Hp->VK->Prop} (h:MtR X id r) (h':MtR X id r'):MtR X id (fun x xs H Q=>r x xs H Q\/r' x xs H Q):=by
 intro pins s σ H x xs v us Q I rx rs q
 rcases q with q | q
 ·exact h pins s σ H x xs v us Q I rx rs q
 ·exact h' pins s σ H x xs v us Q I rx rs q
theorem za {r:R2} (hr:IxR X r) (ha:PE X a ta) (hb:PE X b tb) (hs:zGr b):PE X (.Subscript a b pos) (tOp r ta tb):=by
 intro pins s σ H Q I h
 exact Subscript_ (zK0 ha hb I h fun v u s2 x y H2 I2 rx ry q=>hr a b pins s2 σ H2 x y v u Q I2 rx ry q (hs _ _))
def zGp (K:W.Frag):R2:=fun x y H Q=>∃ p xs i v,x = .ref p/\y = .int i/\SqL K H p xs/\atI xs i=some v/\Q v H
def zKE (K:W.Frag):R2:=fun x y H Q=>∃ p xs i v,x = .ref p/\y = .int i/\SqT K H p xs/\atI xs i=some v/\Q v H
def zEx:R2:=fun x y H Q=>∃ z i c,x = .str z/\y = .int i/\z.length<=sizeLine/\atI z.cps.toList i=some c/\Q (.str ⟨#[c]⟩) H
theorem zi:IxR X (zGp X.K):=by
 intro value slice pins s σ H x y v u Q I rx ry h hs
 obtain ⟨p,xs,i,z,rfl,rfl,hq,he,q⟩:=h
 cases rx
 obtain ⟨t,rfl⟩:=ry
 obtain ⟨its,r,pl,hz⟩:=I.list hq
 obtain ⟨j,h1,h2,h3,h4,h5⟩:=Kp he
 obtain ⟨w,ew,rw'⟩:=r.get h2
 have hl:=r.length
 have hn:=Q3
 have fin:EP X pins σ Q w s:=⟨z,H,I,rw',q⟩
 by_cases h0:0<=i
 ·have hj:i.toNat=j:=by
   rw [seqIndex_of h0 h5] at h1
   exact Option.some.inj h1
  exact item_listR pl.isList h0 (by omega) (by rw [hj];simpa using ew) fin hs
 ·have hj:(i+(its.toArray.size:Int)).toNat=j:=by
   rw [seqIndex_neg (by omega) h4] at h1
   rw [size_toArray,<- hl]
   exact Option.some.inj h1
  exact subscriptTail_builtinR (x:=w) pl.isList.typeIs slot_list_getitem.lookup
   (wpAny_getItem_list_neg (Q:=fun r s'=>r=w/\EP X pins σ Q r s') pl.isList (by omega) (by rw [size_toArray] <;> omega) (by omega) (by rw [hj];simpa using ew) ⟨rfl,fin⟩) hs
theorem zl:IxR X (zKE X.K):=by
 intro value slice pins s σ H x y v u Q I rx ry h hs
 obtain ⟨p,xs,i,z,rfl,rfl,hq,he,q⟩:=h
 cases rx
 obtain ⟨t,rfl⟩:=ry
 obtain ⟨its,r,pl,hz⟩:=I.tuple hq
 obtain ⟨j,h1,h2,h3,h4,h5⟩:=Kp he
 obtain ⟨w,ew,rw'⟩:=r.get h2
 have hl:=r.length
 have hn:=Q3
 have fin:EP X pins σ Q w s:=⟨z,H,I,rw',q⟩
 exact subscriptTail_builtinR (x:=w) pl.typeIs slot_tuple_getitem.lookup
  (getItem_tuple (j:=j) (Q:=fun r s'=>r=w/\EP X pins σ Q r s') pl (by omega) (by omega) (by rw [size_toArray,<- hl];exact h1) (by simpa using ew) ⟨rfl,fin⟩) hs
theorem kG:IxR X zEx:=by
 intro value slice pins s σ H x y v u Q I rx ry h hs
 obtain ⟨z,i,c,rfl,rfl,hz,he,q⟩:=h
 obtain ⟨t,rfl⟩:=rx
 obtain ⟨t',rfl⟩:=ry
 obtain ⟨j,h1,h2,h3,h4,h5⟩:=Kp he
 have hl:z.cps.toList.length=z.length:=by simp [Str.length]
 rw [hl] at h1 h4 h5
 have hn:=Q3
 exact tail_any (typeIs_str s z t) slot_str_getitem.lookup (getItem_str (c:=c) (by
  have e1:decide (i < -(2 ^ 63:Int))=false:=decide_eq_false (by omega)
  have e2:decide (i ≥ 2 ^ 63)=false:=decide_eq_false (by omega)
  rw [e1,e2,Bool.or_false]) (by rw [h1];simpa using h2) ⟨.str ⟨#[c]⟩,H,I.tok _,⟨_,rfl⟩,q⟩) hs
theorem zAX (its:List Value) (n j:Nat) (u:Value):Obj.mapSeq (·.setIfInBounds j u) { cls:=.type "list", data:=.seq its.toArray n }={ cls:=.type "list", data:=.seq (its.set j u).toArray n }:=by
 simp [Obj.mapSeq]
variable {pins:List (Addr × Obj)} {σ:St} {H:Hp}
theorem Inv.lst {s:Shared} {p:Addr} {xs:List V} (I:Inv X pins σ H s) (h:H p=some (.lst xs)) :
  ∃ (its:List Value) (n:Nat),qM xs its/\s.heap.get? p=some { cls:=.type "list", data:=.seq its.toArray n }/\xs.length<=sizeLine:=by
 obtain ⟨z,its,n,r,e⟩:=I.hok p _ h
 exact ⟨its,n,r,e,z⟩
theorem Inv.lstUpd {s:Shared} {p:Addr} {xs ys:List V} {its its':List Value} {n':Nat} {f:Obj->Obj} (I:Inv X pins σ H s) (h:H p=some (.lst xs))
  (ho:s.heap.get? p=some { cls:=.type "list", data:=.seq its.toArray n }) (hf:f { cls:=.type "list", data:=.seq its.toArray n }={ cls:=.type "list", data:=.seq its'.toArray n' }) (r:qM ys its') (hz:ys.length<=sizeLine) (t:Nat) :
  Inv X pins σ (upd H p (.lst ys)) { s with heap:=s.heap.update p f,toks:=t }:=by
 have e:(s.heap.update p f).get? p=some { cls:=.type "list", data:=.seq its'.toArray n' }:=by
  rw [Heap.get?_update_self f ho (by rw [hf] <;> rfl),hf]
 refine I.write (x:=p) (e:=p) (by rw [h];trivial) (.inl rfl) (fun b u hb q=>(Heap.get?_update_other _ _ (Ne.symm hb)).trans q) ⟨_,e⟩ ?_
 exact ⟨hz,its',n',r,e⟩
def zI5:V->V->V->Hp->(Hp->Prop)->Prop:=fun o i v H Q=>∃ p xs k j,o = .ref p/\i = .int k/\H p=some (.lst xs)/\ixN xs.length k=some j/\Q (upd H p (.lst (xs.set j v)))
theorem WY:zLG X zI5:=by
 intro pins s σ H o i v ov iv u Q I ro ri rv h
 obtain ⟨p,xs,k,j,rfl,rfl,hp,hj,q⟩:=h
 cases ro
 obtain ⟨t,rfl⟩:=ri
 obtain ⟨its,n,r,ho,hz⟩:=I.lst hp
 obtain ⟨h1,h2,h3,h4⟩:=zB1 hj
 have hl:=r.length
 have hn:=Q3
 have I':Inv X pins σ (upd H p (.lst (xs.set j v))) { s with heap:=s.heap.update p (Obj.mapSeq (·.setIfInBounds j u)) }:=
  I.lstUpd hp ho (zAX its n j u) (r.set rv j) (by rw [List.length_set];exact hz) s.toks
 by_cases h0:0<=k
 ·have hk:k.toNat=j:=by
   rw [seqIndex_of h0 h4] at h1
   exact Option.some.inj h1
  exact W.ki_setAt ho h0 (by omega) (by rw [size_toArray,<- hl];exact h4) (by rw [hk];exact ⟨_,I',q⟩)
 ·have hk:(k+(its.toArray.size:Int)).toNat=j:=by
   rw [seqIndex_neg (by omega) h3] at h1
   rw [size_toArray,<- hl]
   exact Option.some.inj h1
  exact W.ki_setBack ho (by omega) (by rw [size_toArray,<- hl];exact h3) (by omega) (by rw [hk];exact ⟨_,I',q⟩)
theorem VS (lo hi:Option Int) (n:Nat):(sliceBounds lo hi none n).1=((HT.sIx n 0 lo:Nat):Int)/\(sliceBounds lo hi none n).2.1=((HT.sIx n n hi:Nat):Int)/\(sliceBounds lo hi none n).2.2=1:=by
 refine ⟨?_,?_,rfl⟩
 ·cases lo with
  | none=>simp [sliceBounds,HT.sIx]
  | some i =>
   simp only [sliceBounds,HT.sIx,Option.getD_none,show (1:Int) > 0 by decide,if_true]
   by_cases h:i < 0
   ·simp only [h,if_true] <;> omega
   ·simp only [h,if_false] <;> omega
 ·cases hi with
  | none=>simp [sliceBounds,HT.sIx]
  | some i =>
   simp only [sliceBounds,HT.sIx,Option.getD_none,show (1:Int) > 0 by decide,if_true]
   by_cases h:i < 0
   ·simp only [h,if_true] <;> omega
   ·simp only [h,if_false] <;> omega
theorem Yj (its:List Value) (lo hi:Option Int):slicePick its.toArray lo hi none=((its.drop (HT.sIx its.length 0 lo)).take (HT.sIx its.length its.length hi - HT.sIx its.length 0 lo)).toArray:=by
 obtain ⟨h1,h2,h3⟩:=VS lo hi its.toArray.size
 unfold slicePick
 rw [h1,h2,h3]
 simp only [sliceRange_one,pick_run,size_toArray] <;> rfl
def zLO (K:W.Frag):V->Option Int->Option Int->Hp->VK->Prop:=fun x lo hi H Q=>∃ a xs,x = .ref a/\SqL K H a xs /\ ∀ p,H p=none->Q (.ref p) (upd H p (.lst (YV xs lo hi)))
theorem yU:SlR X (zLO X.K):=by
 intro pins s σ H x v vl vu lo hi sl Q I rx hs pl pu h
 obtain ⟨a,xs,rfl,hx,q⟩:=h
 cases rx
 obtain ⟨its,r,ht,hz⟩:=I.list hx
 have hlen:=r.length
 refine ⟨"list", _,slot_list_getitem.lookup,ht.isList.typeIs,?_⟩
 refine wpAny_getItem_list_slice ht.isList hs pl pu .none (by simp) ?_ (by rw [size_toArray] <;> omega)
 rw [Yj,<- hlen]
 refine ⟨.ref s.heap.objs.size,_,I.laid (t':=s.toks) (o:=.lst (YV xs lo hi)) (fun b ob q=>Heap.get?_push_of_some _ q) (le_refl _) ?_,rfl,q _ (I.hok.fresh (le_refl _))⟩
 exact ⟨Nat.le_trans (Jf xs lo hi) hz,_,0,(r.drop (HT.sIx xs.length 0 lo)).take (HT.sIx xs.length xs.length hi - HT.sIx xs.length 0 lo),Heap.get?_push_size _ rfl⟩
def Xn:V->Bool
 | .non=>true
 | .bl _=>true
 | .int _=>true
 | .str _=>true
 | _=>false
def eqV:V->V->Bool
 | .non,.non=>true
 | .bl a,.bl b=>a == b
 | .bl a,.int b=>(if a then 1 else 0) == b
 | .int a,.bl b=>a == (if b then 1 else 0)
 | .int a,.int b=>a == b
 | .str a,.str b=>a == b
 | _,_=>false
variable {x:V}
theorem zIV {A:Around} {s:Shared} {y:V} {u v:Value} (ry:jz y u) (rx:jz x v) (fy:Xn y=true) (fx:Xn x=true):SeqAt.EqAt A s u v (eqV y x):=by
 cases y with
 | non =>
  cases ry
  cases x with
  | non=>cases rx;exact SeqAt.EqAt.same _
  | bl b=>cases rx;exact SeqAt.EqAt.none_bool b
  | int b=>obtain ⟨t,rfl⟩:=rx;exact SeqAt.EqAt.none_int b t
  | str b=>obtain ⟨t,rfl⟩:=rx;exact SeqAt.EqAt.none_str b t
  | _=>exact absurd (show false=true from fx) Bool.false_ne_true
 | bl a =>
  cases ry
  cases x with
  | non=>cases rx;exact SeqAt.EqAt.bool_none a
  | bl b=>cases rx;exact SeqAt.EqAt.bool_bool a b
  | int b=>obtain ⟨t,rfl⟩:=rx;exact SeqAt.EqAt.bool_int a b t
  | str b=>obtain ⟨t,rfl⟩:=rx;exact SeqAt.EqAt.bool_str a b t
  | _=>exact absurd (show false=true from fx) Bool.false_ne_true
 | int a =>
  obtain ⟨t',rfl⟩:=ry
  cases x with
  | non=>cases rx;exact SeqAt.EqAt.int_none a t'
  | bl b=>cases rx;exact SeqAt.EqAt.int_bool a t' b
  | int b=>obtain ⟨t,rfl⟩:=rx;exact SeqAt.EqAt.int_int a t' b t
  | str b=>obtain ⟨t,rfl⟩:=rx;exact SeqAt.EqAt.int_str a t' b t
  | _=>exact absurd (show false=true from fx) Bool.false_ne_true
 | str a =>
  obtain ⟨t',rfl⟩:=ry
  cases x with
  | non=>cases rx;exact SeqAt.EqAt.str_none a t'
  | bl b=>cases rx;exact SeqAt.EqAt.str_bool a t' b
  | int b=>obtain ⟨t,rfl⟩:=rx;exact SeqAt.EqAt.str_int a t' b t
  | str b=>obtain ⟨t,rfl⟩:=rx;exact SeqAt.EqAt.str_str a t' b t
  | _=>exact absurd (show false=true from fx) Bool.false_ne_true
 | _=>exact absurd (show false=true from fy) Bool.false_ne_true
def eqU (x:V) (u:Value):Bool:=match u with
 | .none=>eqV .non x
 | .bool b=>eqV (.bl b) x
 | .int i _=>eqV (.int i) x
 | .str z _=>eqV (.str z) x
 | _=>false
theorem zFG {y:V} {u:Value} (r:jz y u) (f:Xn y=true):eqU x u=eqV y x:=by
 cases y with
 | non=>cases r;rfl
 | bl b=>cases r;rfl
 | int i=>obtain ⟨t,rfl⟩:=r;rfl
 | str z=>obtain ⟨t,rfl⟩:=r;rfl
 | _=>exact absurd (show false=true from f) Bool.false_ne_true
theorem XG {x:V} : ∀ {xs:List V} {us:List Value},qM xs us->xs.all Xn=true->us.any (eqU x)=xs.any fun y=>eqV y x
 | _,_,.nil,_=>rfl
 | y::xs,u::us,.cons r t,f=>by
  rw [List.all_cons,Bool.and_eq_true] at f
  rw [List.any_cons,List.any_cons,zFG r f.1,XG t f.2]
theorem ZK {A:Around} {s:Shared} {x:V} {v:Value} (rx:jz x v) (fx:Xn x=true) : ∀ {xs:List V} {us:List Value},qM xs us->xs.all Xn=true -> ∀ u ∈ us,SeqAt.EqAt A s u v (eqU x u)
 | _,_,.nil,_=>fun u hu=>by cases hu
 | y::xs,u::us,.cons r t,f=>fun u' hu=>by
  rw [List.all_cons,Bool.and_eq_true] at f
  rcases List.mem_cons.mp hu with rfl | hu
  ·rw [zFG r f.1];exact zIV r rx f.1 fx
  ·exact ZK rx fx t f.2 u' hu
def inV (x:V) (xs:List V):Bool:=xs.any fun y=>eqV y x
def rIn (K:W.Frag) (neg:Bool):R2:=fun x y H Q=>∃ p xs,y = .ref p/\(SqL K H p xs\/SqT K H p xs)/\Xn x=true/\xs.all Xn=true/\Q (.bl (if neg then !inV x xs else inV x xs)) H
theorem XR:OpR X (compareOp .In) (rIn X.K false):=by
 intro pins s σ H x y v u Q I rx ry h
 obtain ⟨p,xs,rfl,hq,fx,fs,q⟩:=h
 cases ry
 rcases hq with hq | hq
 ·obtain ⟨its,r,pl,hz⟩:=I.list hq
  refine SeqAt.in_listAt (eqU x) pl.isList (fun w hw=>ZK rx fx r fs w (by simpa using hw)) ⟨.bl _,H,I,rfl,?_⟩
  rw [show its.toArray.any (eqU x)=its.any (eqU x) by simp,XG r fs]
  exact q
 ·obtain ⟨its,r,pl,hz⟩:=I.tuple hq
  refine SeqAt.in_tupleAt (eqU x) pl (fun w hw=>ZK rx fx r fs w (by simpa using hw)) ⟨.bl _,H,I,rfl,?_⟩
  rw [show its.toArray.any (eqU x)=its.any (eqU x) by simp,XG r fs]
  exact q
theorem Y4:OpR X (compareOp .NotIn) (rIn X.K true):=by
 intro pins s σ H x y v u Q I rx ry h
 obtain ⟨p,xs,rfl,hq,fx,fs,q⟩:=h
 cases ry
 rcases hq with hq | hq
 ·obtain ⟨its,r,pl,hz⟩:=I.list hq
  refine SeqAt.notIn_listAt (eqU x) pl.isList (fun w hw=>ZK rx fx r fs w (by simpa using hw)) ⟨.bl _,H,I,rfl,?_⟩
  rw [show its.toArray.any (eqU x)=its.any (eqU x) by simp,XG r fs]
  exact q
 ·obtain ⟨its,r,pl,hz⟩:=I.tuple hq
  refine SeqAt.notIn_tupleAt (eqU x) pl (fun w hw=>ZK rx fx r fs w (by simpa using hw)) ⟨.bl _,H,I,rfl,?_⟩
  rw [show its.toArray.any (eqU x)=its.any (eqU x) by simp,XG r fs]
  exact q
theorem VX:jC X (.builtin "len") (fun xs H Q=>∃ p ys,xs=[.ref p]/\(SqL X.K H p ys\/SqT X.K H p ys)/\Q (.int ys.length) H):=by
 intro pins s σ H xs us Q I r h
 obtain ⟨p,ys,rfl,hq,q⟩:=h
 obtain ⟨u,rfl,rx⟩:=Jm r
 cases rx
 have hn:=Q3
 rcases hq with hq | hq
 ·obtain ⟨its,r',pl,hz⟩:=I.list hq
  have hlen:=r'.length
  exact Calls.call_len_list pl.isList (by simp only [size_toArray] <;> omega) ⟨.int ys.length,H,I.tok _,⟨s.toks+1,by rw [size_toArray,hlen]⟩,q⟩
 ·obtain ⟨its,r',pl,hz⟩:=I.tuple hq
  have hlen:=r'.length
  exact len_tuple pl (by simp only [size_toArray] <;> omega) ⟨.int ys.length,H,I.tok _,⟨s.toks+1,by rw [size_toArray,hlen]⟩,q⟩
theorem VR:jC X (.builtin "len") (fun xs H Q=>∃ z,xs=[.str z]/\z.length<=sizeLine/\Q (.int z.length) H):=by
 intro pins s σ H xs us Q I r h
 obtain ⟨z,rfl,hz,q⟩:=h
 obtain ⟨u,rfl,t,rfl⟩:=Jm r
 have hn:=Q3
 exact len_str (by omega) ⟨.int z.length,H,I.tok _,⟨_,rfl⟩,q⟩
theorem jC.or {f:Value} {r r':List V->Hp->VK->Prop} (h:jC X f r) (h':jC X f r'):jC X f (fun xs H Q=>r xs H Q\/r' xs H Q):=by
 intro pins s σ H xs us Q I rs q
 rcases q with q | q
 ·exact h pins s σ H xs us Q I rs q
 ·exact h' pins s σ H xs us Q I rs q
theorem Y2:jC X (.type "list") (fun xs H Q=>∃ p ys,xs=[.ref p]/\(SqL X.K H p ys\/SqT X.K H p ys) /\ ∀ l,H l=none->Q (.ref l) (upd H l (.lst ys))):=by
 intro pins s σ H xs us Q I r h
 obtain ⟨p,ys,rfl,hq,q⟩:=h
 obtain ⟨u,rfl,rx⟩:=Jm r
 cases rx
 have fin : ∀ (its:List Value),qM ys its->ys.length<=sizeLine -> ∀ (h':Heap) (c':Nat),(∀ b o',s.heap.get? b=some o'->h'.get? b=some o') ->
   h'.get? s.heap.objs.size=some { cls:=.type "list", dict:=none,data:=.seq its.toArray c',slots:=#[] }->EP X pins σ Q (.ref s.heap.objs.size) { s with heap:=h' }:=fun its r' hz h' c' kp e =>
  ⟨.ref s.heap.objs.size,_,I.laid (t':=s.toks) kp (le_refl _) (show jo X.prog X.w _ h' _ (.lst ys) from ⟨hz,its,c',r',e⟩),rfl,q _ (I.hok.fresh (le_refl _))⟩
 rcases hq with hq | hq
 ·obtain ⟨its,r',pl,hz⟩:=I.list hq
  have hlen:=r'.length
  obtain ⟨o,ho,hc,n,hd⟩:=pl.isList
  exact call_list_seq p (.inl rfl) ho hc hd (fun h' c' kp e=>fin its r' hz h' c' kp e) (by simp only [size_toArray] <;> omega)
 ·obtain ⟨its,r',pl,hz⟩:=I.tuple hq
  have hlen:=r'.length
  obtain ⟨o,ho,hc,n,hd⟩:=pl
  exact call_list_seq p (.inr rfl) ho hc hd (fun h' c' kp e=>fin its r' hz h' c' kp e) (by simp only [size_toArray] <;> omega)
def tyV (K:W.Frag) (T:String) (x:V) (H:Hp):Prop:=match x with
 | .str _=>T = "str"
 | .int _=>T = "int"
 | .ref p=>(T = "list" /\ ∃ xs,SqL K H p xs)\/(T = "tuple" /\ ∃ o,K.lookup p=some o/\o.cls = .type "tuple" /\ o.dict=none) \/
   (T = "dict" /\ ((∃ kvs,H p=some (.dK kvs)) \/ ∃ kvs,H p=some (.dT kvs)))\/(T = "set" /\ ∃ S n,H p=some (.set S n))
 | _=>False
theorem zEg {s:Shared} {T:String} {v:Value} (I:Inv X pins σ H s) (r:jz x v) (ty:tyV X.K T x H) :
  s.TypeIs v T /\ ∀ a,v = .ref a -> ∃ ob,s.heap.get? a=some ob/\ob.dict=none:=by
 cases x with
 | str z =>
  obtain ⟨t,rfl⟩:=r
  cases (show T = "str" from ty)
  exact ⟨typeIs_str s z t,fun _ e=>nomatch e⟩
 | int i =>
  obtain ⟨t,rfl⟩:=r
  cases (show T = "int" from ty)
  exact ⟨typeIs_int s i t,fun _ e=>nomatch e⟩
 | ref p =>
  cases r
  rcases ty with ⟨rfl,xs,hq⟩ | ⟨rfl,o,hk,hc,hd⟩ | ⟨rfl,hk⟩ | ⟨rfl,S,n,hk⟩
  ·obtain ⟨its,_,pl,_⟩:=I.list hq
   refine ⟨pl.isList.typeIs,fun a e=>?_⟩
   cases e
   obtain ⟨o,n,e,c,hd,_⟩:=pl
   exact ⟨o,e,hd⟩
  ·refine ⟨⟨o,I.kIn p o hk,hc⟩,fun a e=>?_⟩
   cases e
   exact ⟨o,I.kIn _ o hk,hd⟩
  ·have z : ∃ o,s.heap.get? p=some o/\o.ExactDict:=by
    rcases hk with ⟨kvs,hk⟩ | ⟨kvs,hk⟩
    ·obtain ⟨_,_,_,_,o,_,_,e,ex,_⟩:=I.hok p _ hk
     exact ⟨o,e,ex⟩
    ·obtain ⟨_,_,_,_,o,_,_,e,ex,_⟩:=I.hok p _ hk
     exact ⟨o,e,ex⟩
   obtain ⟨o,e,ex⟩:=z
   refine ⟨⟨o,e,ex.1⟩,fun a e2=>?_⟩
   cases e2
   exact ⟨o,e,ex.2.1⟩
  ·obtain ⟨o,_,_,_,e,ex,_⟩:=I.hok p _ hk
   refine ⟨⟨o,e,ex.1⟩,fun a e2=>?_⟩
   cases e2
   exact ⟨o,e,ex.2.1⟩
 | _=>exact False.elim ty
def zLg (K:W.Frag) (T:String) (r:V->List V->Hp->VK->Prop) (to:TE):TE:=fun σ H Q=>to σ H fun x H1=>tyV K T x H1/\r x [] H1 Q
def tBM (K:W.Frag) (T:String) (r:V->List V->Hp->VK->Prop) (to:TE) (t:TA):TE:=fun σ H Q=>to σ H fun x H1=>tyV K T x H1/\t σ H1 fun xs H2=>r x xs H2 Q
variable {o e : Expr} {es : List Expr} {to : TE} {t : TA} {name : Str} {apos cpos : Pos} {T id : String} {r : V -> List V -> Hp -> VK -> Prop}
theorem zFQ (pa:PlainAttrs T) (slot:Slot T name id) (hty:typeOf (.builtin id)=pure (.type "method_descriptor")) (hm:MtR X id r) (ho:PE X o to)
  (hbase:attributeBase o name X.env (eval o X.env)=eval o X.env:=by rfl) (hline:(apos.endLine == cpos.line)=true:=by rfl):PE X (.Call (.Attribute o name apos) [] [] cpos) (zLg X.K T r to):=by
 intro pins s σ H Q I h
 refine wpAny_Call_method0_late hbase hline (thn (ho pins s σ H _ I h) fun v s1 zq=>?_)
 obtain ⟨x,H1,I1,r1,ty,q1⟩:=zq
 obtain ⟨h1,h2⟩:=zEg I1 r1 ty
 exact ⟨T,id,pa,slot,hty,h1,h2,Calls.callWith_builtin rfl (PySem.evalArgs_none (hm pins s1 σ H1 x [] v [] Q I1 r1 .nil q1))⟩
theorem yx (pa:PlainAttrs T) (slot:Slot T name id) (hty:typeOf (.builtin id)=pure (.type "method_descriptor")) (hm:MtR X id r) (ho:PE X o to) (ha:PA X (e::es) t)
  (hbase:attributeBase o name X.env (eval o X.env)=eval o X.env:=by rfl)
  (hfew:((backTo cpos (starEach (e::es) X.env)).all (fun x=>!x.1) && (backToKw cpos (keywordEach [] X.env)).all (fun x=>x.1.isSome)
   && decide ((e::es).length+([]:List Keyword).length+(if ([]:List Keyword).isEmpty then 0 else 1) < 30))=true:=by rfl)
  (hline:(apos.endLine == cpos.line)=true:=by rfl) (hs:starEach (e::es) X.env=(false,eval e X.env)::starEach es X.env:=by rfl) (hplain:(backTo cpos (starEach es X.env)).any (·.1)=false:=by rfl) :
  PE X (.Call (.Attribute o name apos) (e::es) [] cpos) (tBM X.K T r to t):=by
 intro pins s σ H Q I h
 refine wpAny_Call_method_late hbase hfew hline rfl (thn (ho pins s σ H _ I h) fun v s1 zq=>?_)
 obtain ⟨x,H1,I1,r1,ty,q1⟩:=zq
 obtain ⟨h1,h2⟩:=zEg I1 r1 ty
 refine ⟨T,id,pa,slot,hty,h1,h2,?_⟩
 have hA:=ha cpos pins s1 σ H1 _ I1 q1
 rw [hs] at hA ⊢
 refine Calls.callWith_builtin (by show (false || (backTo cpos (starEach es X.env)).any (·.1))=false;rw [hplain] <;> rfl) (Calls.evalArgs_plain ?_)
 exact thn hA fun us s2 ⟨vs,H2,I2,r2,q2⟩=>hm pins s2 σ H2 x vs v us Q I2 r1 r2 q2
end
def MtM (X:Cx) (id:String) (r:V->List V->Hp->VK->Prop):Prop:=
 ∀ (pins:List (Addr × Obj)) (s:Shared) (σ:St) (H:Hp) (x:V) (xs:List V) (v:Value) (us:List Value) (Q:VK),Inv X pins σ H s->jz x v->qM xs us->r x xs H Q ->
  wpAny (model X.prog X.w) X.A (call (.builtin id) (v::us)) (EP X pins σ Q) X.xe s
theorem qM.one : ∀ {x:V} {us:List Value},qM [x] us -> ∃ u,us=[u]/\jz x u
 | _,_,.cons r .nil=>⟨_,rfl,r⟩
theorem qM.zero : ∀ {us:List Value},qM [] us->us=[]
 | _,.nil=>rfl
theorem qM.reverse {xs:List V} {us:List Value} (h:qM xs us):qM xs.reverse us.reverse:=by
 induction h with
 | nil=>exact .nil
 | cons r t ih=>rw [List.reverse_cons,List.reverse_cons];exact qM.append ih (.cons r .nil)
theorem qM.rep {xs:List V} {us:List Value} (h:qM xs us) : ∀ k:Nat,qM (List.replicate k xs).flatten (List.replicate k us).flatten
 | 0=>.nil
 | k+1=>by
  rw [replicate_succ,replicate_succ,flatten_cons,flatten_cons]
  exact qM.append h (qM.rep h k)
theorem Vu (its:List Value) : ∀ (k:Nat) (acc:List Value),
  List.foldl (fun x1 x2=>x1++x2) acc.toArray (List.replicate k its.toArray)=(acc++(List.replicate k its).flatten).toArray
 | 0,acc=>by simp
 | k+1,acc=>by
  have e:acc.toArray++its.toArray=(acc++its).toArray:=by simp
  have e2:(acc++its)++(List.replicate k its).flatten=acc++(List.replicate (k+1) its).flatten:=by
   rw [replicate_succ,flatten_cons,List.append_assoc]
  rw [<- e2,<- Vu its k (acc++its),<- e,replicate_succ,List.foldl_cons]
section
variable {X : Cx} {pins : List (Addr × Obj)} {σ : St} {H : Hp} {s : Shared} {l b : Addr} {xs ys zs : List V}
theorem Inv.lset {its its':List Value} {f:Array Value->Array Value} {t':Nat} (I:Inv X pins σ H s) (hH:H l=some (.lst xs))
  (e:s.heap.get? l=some { cls:=.type "list", data:=.seq its.toArray n }) (hf:f its.toArray=its'.toArray) (hv:qM ys its') (hz:ys.length<=sizeLine) :
  Inv X pins σ (upd H l (.lst ys)) { s with heap:=s.heap.update l (Obj.mapSeq f),toks:=t' }:=by
 have q:=PySem.IsL.update e f
 rw [hf] at q
 refine I.write (x:=l) (e:=l) (by rw [hH];exact trivial) (.inl rfl) (fun b' u hb hu=>(Heap.get?_update_other s.heap (Obj.mapSeq f) (Ne.symm hb)).trans hu) ⟨_,q⟩ ?_
 exact ⟨hz,its',_,hv,q⟩
theorem Inv.lnew {its:List Value} {t':Nat} (I:Inv X pins σ H s) (hv:qM ys its) (hz:ys.length<=sizeLine) :
  Inv X pins σ (upd H s.heap.objs.size (.lst ys)) { s with heap:=s.heap.push { cls:=.type "list", data:=.seq its.toArray },toks:=t' }:=
 I.laid (fun _ _ q=>Heap.get?_push_of_some _ q) (le_refl _) ⟨hz,its,0,hv,Heap.get?_push_size _ rfl⟩
theorem Inv.fresh (I:Inv X pins σ H s):H s.heap.objs.size=none:=I.hok.fresh (le_refl _)
theorem Inv.lstM (I:Inv X pins σ H s) (hH:H l=some (.lst xs)):xs.length<=sizeLine /\ ∃ (its:List Value) (n:Nat),qM xs its/\xs.length=its.length/\s.heap.get? l=some { cls:=.type "list", data:=.seq its.toArray n }:=by
 obtain ⟨z,its,n,r,e⟩:=I.hok l _ hH
 exact ⟨z,its,n,r,r.length,e⟩
theorem zDV (h:n<=sizeLine):Builtin.List.listTooLong n=false:=by
 unfold Builtin.List.listTooLong
 exact decide_eq_false (by omega)
end
section
variable {X : Cx}
def zCj:V->List V->Hp->VK->Prop:=fun x vs H Q=>∃ l xs y,x = .ref l/\vs=[y]/\H l=some (.lst xs)/\xs.length < sizeLine/\Q .non (upd H l (.lst (xs++[y])))
theorem yb:MtM X "list.append" zCj:=by
 intro pins s σ H x vs v us Q I rx rv h
 obtain ⟨l,xs,y,rfl,rfl,hH,hz,q⟩:=h
 cases rx
 obtain ⟨u,rfl,ru⟩:=rv.one
 obtain ⟨z,its,n,r,hl,e⟩:=I.lstM hH
 refine call_meets F.slot_list_append ⟨_,e,rfl⟩ F.entry_list_append (F.args_list_append_2 _ _) (PySem.list_append l its.toArray n u (by rw [size_toArray];omega)) ⟨e,?_⟩
 refine ⟨.non,_,I.lset (its':=its++[u]) hH e (by simp) (r.append (.cons ru .nil)) ?_,rfl,q⟩
 rw [length_append,List.length_singleton]
 omega
def WI:V->List V->Hp->VK->Prop:=fun x vs H Q=>∃ l xs,x = .ref l/\vs=[]/\H l=some (.lst xs)/\Q .non (upd H l (.lst xs.reverse))
theorem zAC:MtM X "list.reverse" WI:=by
 intro pins s σ H x vs v us Q I rx rv h
 obtain ⟨l,xs,rfl,rfl,hH,q⟩:=h
 cases rx
 have hus:=rv.zero
 subst hus
 obtain ⟨z,its,n,r,hl,e⟩:=I.lstM hH
 refine call_meets F.slot_list_reverse ⟨_,e,rfl⟩ F.entry_list_reverse (F.args_list_reverse_1 _) (AutoSeq1.list_reverse_list_0 l its.toArray n (by rw [size_toArray];omega)) ⟨e,?_⟩
 refine ⟨.non,_,I.lset (its':=its.reverse) hH e (by simp) r.reverse ?_,rfl,q⟩
 rw [List.length_reverse]
 omega
def zC2:R2:=fun x y H Q=>∃ l b xs zs,x = .ref l/\y = .ref b/\H l=some (.lst xs)/\H b=some (.lst zs)/\xs.length+zs.length<=sizeLine /\ ∀ p,H p=none->Q (.ref p) (upd H p (.lst (xs++zs)))
theorem jX:OpR X (binaryOp .Add) zC2:=by
 intro pins s σ H x y v u Q I rx ry h
 obtain ⟨l,b,xs,zs,rfl,rfl,hH,hB,hz,q⟩:=h
 cases rx
 cases ry
 obtain ⟨z,its,n,r,hl,e⟩:=I.lstM hH
 obtain ⟨z2,its2,n2,r2,hl2,e2⟩:=I.lstM hB
 refine PySem.P.add_list e e2 ?_ (by rw [size_toArray,size_toArray];omega)
 have ea:its.toArray++its2.toArray=(its++its2).toArray:=by simp
 rw [ea]
 exact ⟨.ref _,_,I.lnew (t':=s.toks) (r.append r2) (by rw [length_append];omega),rfl,q _ I.fresh⟩
def zLp:R2:=fun x y H Q=>∃ l k xs,x = .ref l/\y = .int k/\H l=some (.lst xs) /\ -(2 ^ 63)<=k/\k < 2 ^ 63/\xs.length*k.toNat<=sizeLine /\
 ∀ p,H p=none->Q (.ref p) (upd H p (.lst (List.replicate k.toNat xs).flatten))
theorem zG0 {α:Type} (xs:List α) (k:Nat):(List.replicate k xs).flatten.length=k*xs.length:=by
 induction k with
 | zero=>simp
 | succ k ih=>rw [replicate_succ,flatten_cons,length_append,ih,Nat.succ_mul,Nat.add_comm]
theorem zI8:OpR X (binaryOp .Mult) zLp:=by
 intro pins s σ H x y v u Q I rx ry h
 obtain ⟨l,k,xs,rfl,rfl,hH,h1,h2,hz,q⟩:=h
 cases rx
 obtain ⟨t,rfl⟩:=ry
 obtain ⟨z,its,n,r,hl,e⟩:=I.lstM hH
 have hlen:its.toArray.size*k.toNat<=sizeLine:=by rw [size_toArray,<- hl];exact hz
 have hcap : ¬ its.toArray.size*k.toNat > (2 ^ 63 - 1) / 8:=by
  have:(sizeLine:Nat)<=(2 ^ 63 - 1) / 8:=by decide
  omega
 have hfit : ¬ (!Builtin.List.listFitsIndex k)=true:=by
  rw [fitsIndex_both h1 h2]
  exact Bool.false_ne_true
 have hlong : ¬ Builtin.List.listTooLong (its.toArray.size*k.toNat)=true:=by
  rw [zDV hlen]
  exact Bool.false_ne_true
 have hnew:List.foldl (fun x1 x2=>x1++x2) #[] (List.replicate (if its.toArray.isEmpty=true then 0 else k.toNat) its.toArray)=(List.replicate k.toNat its).flatten.toArray:=by
  have f0 : ∀ m:Nat,List.foldl (fun x1 x2=>x1++x2) #[] (List.replicate m its.toArray)=(List.replicate m its).flatten.toArray:=fun m=>by
   have:=Vu its m []
   rw [List.nil_append] at this
   exact this
  rw [f0]
  cases its with
  | nil=>simp
  | cons a r'=>rw [if_neg (by simp)]
 refine wpAny_binaryOp_repeat_ref (T:="list") (U:="int") (by decide) ⟨_,e,rfl⟩ (fun s'=>typeIs_int s' k t) noFill_list_mul F.fills_int_mul F.slot_int_rmul repeat_list F.slot_int_index.lookup
  (call_meets F.slot_int_rmul (typeIs_int s k t) F.entry_int_rmul (F.args_int_rmul_2 _ _) (int___rmul___int_list k t l its.toArray n)
   ⟨e,rfl,⟨_,e,rfl⟩,call_meets F.slot_list_mul ⟨_,e,rfl⟩ F.entry_list_mul (F.args_list_mul_2 _ _) (AutoListH.list___mul___list_int_3 l its.toArray n k t hfit hcap hlong) ⟨e,?_⟩⟩)
 rw [hnew]
 exact ⟨.ref _,_,I.lnew (t':=s.toks) (r.rep k.toNat) (by rw [zG0,Nat.mul_comm];exact hz),rfl,q _ I.fresh⟩
end
section
variable {prog : Program} {w : World} {A : Around} {E : Value -> Shared -> Prop} {s : Shared}
set_option maxRecDepth 100000 in
end
end L2
namespace Att
open PySem PySem.W PySem.Calls PyProof.Rows
theorem XL {P:Params} {h:Heap} : ∀ (ns:List Int) (vs:List Value),WellAll P h vs (ns.map WData.int)->IntsAre vs ns:=by
 intro ns
 induction ns with
 | nil =>
  intro vs w
  rw [List.map_nil] at w
  cases w
  exact .nil
 | cons n ns ih =>
  intro vs w
  rw [List.map_cons] at w
  cases w with
  | cons a b =>
   cases a
   exact .cons _ _ (ih _ b)
theorem zAt {l:OpenLaw} {n:Nat} (hn:l.most=some n) {P:Params} {h:Heap} {args:List WData} {vals:List Value}
  (hpre:l.row.toRowW.claim.pre args=true) (hwl:WellAll P h vals args) :
  ∃ a vs ns,vals=[Value.ref a]/\args=[WData.list (ns.map WData.int)]/\h.get? a=some { cls:=.type "list", data:=.seq vs.toArray }/\IntsAre vs ns/\ns.length<=n:=by
 have hsh:WShape.hasAll [] args [.list .int]=true:=(pre_splitW hpre).1
 have hc:l.pre.holds [] { args:=args }=true:=(pre_splitW hpre).2
 obtain ⟨d,r,rfl,h1,h2⟩:=hasAllW_cons hsh
 obtain rfl:=hasAllW_nil h2
 obtain ⟨xs,rfl,h3⟩:=hasW_list h1
 obtain ⟨ns,rfl⟩:=items_int h3
 have hlen:ns.length<=n:=by
  unfold OpenLaw.pre at hc
  have h4:(WTm.not (.lt (.lit (.int (n:Int))) (.len (.arg 0)))).holds [] { args:=[.list (ns.map .int)] }=true:=by
   have h4:=(holds_andW hc).1
   rw [hn] at h4
   exact h4
  have h5:=condW_of h4 (w_not (w_lt w_lit (w_len_list (w_arg rfl))))
  rw [List.length_map] at h5
  refine Nat.le_of_not_lt fun q=>?_
  have q':(n:Int) < ((ns.length:Nat):Int):=by omega
  first
   | (rw [decide_eq_true q'] at h5;exact absurd h5 (by decide))
   | (simp at h5;omega)
 cases hwl with
 | cons w1 w2 =>
  cases w2
  cases w1 with
  | list ho hall=>exact ⟨_,_,ns,rfl,rfl,ho,XL ns _ hall,hlen⟩
theorem zA0 (l:OpenLaw) (args:List WData):l.row.toRowW.claim.post args (.bool true) args=true:=
 postW_of (r:=l.row.toRowW) (X:=(true == true))
  (show WShape.has [] (.bool true) .bool=true by first | rfl | decide | simp [WShape.has,WShape.arms,WShape.armsAll])
  (show (WTm.eq .res (.lit (.bool true))).value [] { args:=args,res:=some (.bool true),after:=args }=some (.bool (true == true)) from w_eq_bool (w_res rfl) w_lit) rfl
theorem attach_call {l:OpenLaw} {n:Nat} {q:Program} {loose:List Str} {XP:(Str->Option Value)->Heap->Prop} {YP:World->Heap->Prop} {d:DefRec}
  (hn:l.most=some n) (hdf:d.params.defaults=[])
  (call : ∀ (w:World) (s₀ s₁:Shared) (mg mb:Str->Option Value) (fa:Addr) (o:Obj) (pm cd doc:Value) (a:Addr) (vs:List Value) (ns:List Int),
   Ground q loose [] XP w s₀ mg mb s₁.heap->YP w s₁.heap ->
   s₁.heap.get? fa=some o->o.data = .func (docDef d.name d.params d.body d.scope pm cd doc)->s₁.heap.CodeRec cd d.name->mg d.name=some (.ref fa) ->
   s₁.heap.get? a=some { cls:=.type "list", data:=.seq vs.toArray }->IntsAre vs ns->ns.length<=n->s₁.gens = #[] ->
   codeAny (model l.prog w) callerA (.call (.ref fa) ⟨[.ref a],[]⟩) (fun r s'=>r = .ok (.ret (.bool true))/\OldK s₁.heap s'.heap/\s'.os=s₁.os/\AllBare s'.gens) s₁) :
  WalkO q loose XP YP l.row.toRowW d [] (fun f vs=>PySem.call f vs):=by
 intro w s₀ s₁ mg mb G Y fa o pm cd doc dV kV ho hd hcd hD hmg hg args vals as hpre hlay hrd hwl hlo
 obtain rfl:dV = .none:=Dflts.none hD hdf
 obtain rfl:kV = .none:=Dflts.noKw hD
 obtain ⟨a,vs,ns,rfl,rfl,hobj,hints,hlen⟩:=zAt hn hpre hwl
 refine enter_call (codeAny_mono (call w s₀ s₁ mg mb fa o pm cd doc a vs ns G Y ho (fd_plain hd) hcd hmg hobj hints hlen hg) fun r s' hq=>?_)
 obtain ⟨rfl,h2,h3,h4⟩:=hq
 exact ⟨.inl ⟨.bool true,.bool true,[],rfl,fun _=>rfl,.bool true,zA0 l _,fun _=>⟨List.Pairwise.nil,fun _ hm=>(nomatch hm)⟩⟩,h2,h3,h4⟩
end Att
namespace L2
open PySem PySem.Spec PyProof.Rows
open List (append_assoc drop_of_length_le drop_zero find?_cons find?_toArray foldl_cons getD_eq_getElem?_getD getElem?_eq_getElem getElem?_map length_append length_cons length_drop length_map length_reverse length_take lookup_cons map_cons mem_append_left mem_append_right mem_cons reverse_reverse take_length take_of_length_le)
open Nat (eq_zero_or_pos le_trans lt_irrefl lt_of_lt_of_le lt_or_ge ne_of_lt zero_le)
open Int (max_eq_right)
theorem VE : ∀ {vs:List Value} {ns:List Int},IntsAre vs ns->qM (ns.map V.int) vs
 | _,_,.nil=>.nil
 | _,_,.cons n t h=>.cons ⟨t,rfl⟩ (VE h)
def zKq (H:Hp):Prop:=∀ b,H b=none \/ ∃ o xs,H b=some (.frz o (.lst xs))
variable {P:Program} {w:World} {K:W.Frag} {mg:Str->Option Value} {k:Nat} {a:Addr} {fd:FuncData} {x:Str} {sp:Sp}
theorem zDy {mb:Str->Option Value} {CX:CXT} {fa:Addr} {s₁:Shared} {vs:List Value} {ns:List Int}
  (KX:K.In s₁.heap) (hns:s₁.heap.Ns mainGlobals mg) (hb:s₁.heap.Ns builtinsNs mb) (hbb : ∀ x:Str,x ≠ "__name__" -> mb x=bootBuiltins x) (hlim:s₁.heap.NoLimit) (hg:s₁.gens = #[])
  (ha:s₁.heap.get? a=some { cls:=.type "list", data:=.seq vs.toArray }) (hi:IntsAre vs ns) (hl:ns.length<=sizeLine) (hr:j5 k callerA)
  (F : ∀ base:Heap,K.In base->base.Ns mainGlobals mg->xx P w K mg base CX k fa fd [x] sp) (hbind : ∀ (s:Shared) (u:Value),BindsTo s fd ⟨[u],[]⟩ [(x,u)])
  (hsp : ∀ H:Hp,zKq H->SqL K H a (ns.map V.int)->sp [.ref a] H (fun v _=>v = .bl true) fun _ _ _=>False)
  (hCX : ∀ H e s',CX [] H s₁ (fun _ _ _=>False) e s'->False) :
  codeAny (model P w) callerA (.call (.ref fa) ⟨[.ref a],[]⟩) (fun r s'=>r = .ok (.ret (.bool true))/\OldK s₁.heap s'.heap/\s'.os=s₁.os/\AllBare s'.gens) s₁:=by
 have rv:=VE hi
 have lenV:=hi.length
 have core : ∀ H:Hp,zKq H->SqL K H a (ns.map V.int)->HOk P w H s₁.heap->(∀ b,H b≠none->b=a)->(H a≠none->K.lookup a=none) ->
   codeAny (model P w) callerA (.call (.ref fa) ⟨[.ref a],[]⟩) (fun r s'=>r = .ok (.ret (.bool true))/\OldK s₁.heap s'.heap/\s'.os=s₁.os/\AllBare s'.gens) s₁:=by
  intro H hO hS hok hA hK
  have base_of : ∀ {b:Addr} {o:Obj},s₁.heap.get? b=some o->H b=none->(zEK s₁.heap H).get? b=some o:=fun e n=>zES e n
  have noA : ∀ {b:Addr} {o:Obj} {es:Array DictEntry} {ep:Nat},s₁.heap.get? b=some o->o.data = .dict es ep->H b=none:=fun {b o es ep} e d=>by
   cases q:H b with
   | none=>rfl
   | some u =>
    have e':b=a:=hA b (by rw [q];simp)
    subst e'
    rw [ha] at e;cases e
    have d':Data.seq vs.toArray _=Data.dict es ep:=d
    cases d'
  have nsK : ∀ {b:Addr} {m:Str->Option Value},s₁.heap.Ns b m->(zEK s₁.heap H).Ns b m:=fun {b m} ⟨o,es,ep,e,d,r⟩=>⟨o,es,ep,base_of e (noA e d),d,r⟩
  have hKb:K.In (zEK s₁.heap H):=fun b o e=>base_of (KX b o e) (by
   cases q:H b with
   | none=>rfl
   | some u =>
    have e':b=a:=hA b (by rw [q];simp)
    subst e'
    rw [hK (by rw [q];simp)] at e;cases e)
  have hM:Mod K mg (zEK s₁.heap H):=⟨hKb,nsK hns,⟨mb,nsK hb,hbb⟩,let ⟨mc,h1,h2⟩:=hlim;⟨mc,nsK h1,h2⟩⟩
  have e0:V0 P w K mg (zEK s₁.heap H) callerA [] s₁ H:=⟨rfl,hM,fun b o e=>zGA e,Nat.le_of_eq (zCi _ _),trivial,fun b hb=>absurd (show b ∈ ([]:List Addr) from hb) (by simp),hok,.of_eq hg⟩
  refine codeAny_mono ((F _ hKb (nsK hns)).run callerA [] s₁ H ⟨[.ref a],[]⟩ [.ref a] [.ref a] _ _ hr e0 (hbind s₁ (.ref a)) (.cons rfl .nil) (hsp H hO hS)) fun r s' h=>?_
  cases r with
  | error e=>exact (hCX H e s' h).elim
  | ok fl =>
   cases fl with
   | next=>exact False.elim h
   | brk=>exact False.elim h
   | cont=>exact False.elim h
   | ret u =>
    obtain ⟨v,H',os,bare,un,hok',r',q⟩:=h
    have q':v = .bl true:=q
    subst q'
    obtain rfl:u=Value.bool true:=r'
    refine ⟨rfl,OldK.of_keep fun b o e=>?_,os,bare⟩
    cases q:H b with
    | none=>exact un.keep b o e q (by intro z;exact absurd (show b ∈ ([]:List Addr) from z) (by simp)) (by simp)
    | some u =>
     rcases hO b with z | ⟨ob,xs,z⟩
     ·rw [q] at z;cases z
     ·have z2:=un.frzs b ob _ z
      obtain ⟨e1,_⟩:=hok b _ z
      obtain ⟨e2,_⟩:=hok' b _ z2
      rw [e] at e1;cases e1
      exact e2
 cases hk:K.lookup a with
 | some o =>
  have e:=KX a o hk
  rw [ha] at e
  cases e
  refine core (fun _=>none) (fun _=>.inl rfl) (.inr ⟨_,vs.toArray,_,hk,rfl,rfl,rfl,by rw [List.size_toArray,lenV];exact hl,by simpa using rv⟩) (fun b u z=>by have z':(none:Option HO)=some u:=z;cases z') (fun b z=>absurd rfl z) fun z=>absurd rfl z
 | none =>
  refine core (fun b=>if b=a then some (.frz { cls:=.type "list", data:=.seq vs.toArray } (.lst (ns.map V.int))) else none) (fun b=>?_) (.inl (.inr ⟨{ cls:=.type "list", data:=.seq vs.toArray },if_pos rfl⟩)) (fun b u z=>?_) (fun b z=>?_) fun _=>hk
  ·by_cases hb:b=a
   ·exact .inr ⟨_,_,if_pos hb⟩
   ·exact .inl (if_neg hb)
  ·by_cases hb:b=a
   ·have z':=(if_pos hb).symm.trans z
    cases z'
    subst hb
    exact ⟨ha,by rw [length_map];exact hl,vs,_,rv,ha⟩
   ·have z':=(if_neg hb).symm.trans z
    cases z'
  ·by_cases hb:b=a
   ·exact hb
   ·exact absurd (if_neg hb) z
variable {n:Nat}
theorem walk_of {l:W.OpenLaw} {q:Program} {loose:List Str} {XP:(Str->Option Value)->Heap->Prop} {YP:World->Heap->Prop} {d:DefRec} {K:Params->W.Frag} {CX:World->CXT} {sp:World->Sp}
  (hn:l.most=some n) (hn2:n<=sizeLine) (hdf:d.params.defaults=[]) (hr:j5 k callerA)
  (hY : ∀ (w:World) (h:Heap),YP w h->(K w.params).In h)
  (F : ∀ (w:World) (mg:Str->Option Value) (fa:Addr) (h:Heap),(K w.params).In h->h.Ns mainGlobals mg->mg d.name=some (.ref fa) ->
   ∃ fd:FuncData,(∀ (s:Shared) (u:Value),BindsTo s fd ⟨[u],[]⟩ [(x,u)]) /\
    ∀ base:Heap,(K w.params).In base->base.Ns mainGlobals mg->xx l.prog w (K w.params) mg base (CX w) k fa fd [x] (sp w))
  (hsp : ∀ (w:World) (H:Hp) (a:Addr) (ns:List Int),ns.length<=n->zKq H->SqL (K w.params) H a (ns.map V.int)->sp w [.ref a] H (fun v _=>v = .bl true) fun _ _ _=>False)
  (hCX : ∀ (w:World) (H:Hp) (s:Shared) (e:Value) (s':Shared),CX w [] H s (fun _ _ _=>False) e s'->False) :
  W.WalkO q loose XP YP l.row.toRowW d [] (fun f vs=>PySem.call f vs):=by
 refine Att.attach_call hn hdf fun w s₀ s₁ mg mb fa o pm cd doc a vs ns G Y ho hd hcd hmg hobj hints hlen hg=>?_
 have KX:=hY w _ Y
 obtain ⟨fd,hb,hF⟩:=F w mg fa _ KX G.T.g hmg
 exact zDy KX G.T.g G.T.b G.T.builtins G.T.nolimit hg hobj hints (le_trans hlen hn2) hr hF hb (fun H hO hS=>hsp w H a ns hlen hO hS) fun H e s'=>hCX w H s₁ e s'
def ql (s:Stmt) (j:Nat):Stmt:=match s with
 | .ClassDef _ _ _ body _ _ _ _ _ _ _=>body.getD j (.Pass ⟨0,0,0,0⟩)
 | _=>.Pass ⟨0,0,0,0⟩
def qP (s:Stmt):Arguments:=match s with
 | .FunctionDef _ a _ _ _ _ _ _ _ _=>a
 | _=>{ posonlyargs:=[],args:=[],vararg:=none,kwonlyargs:=[],kw_defaults:=[],kwarg:=none,defaults:=[] }
def z6 (s:Stmt):List Stmt:=match s with
 | .FunctionDef _ _ b _ _ _ _ _ _ _=>b
 | _=>[]
def zG (s:Stmt):Scope:=match s with
 | .FunctionDef _ _ _ _ _ _ sc _ _ _=>sc
 | _=>{ kind:=.function,names:=[],isGenerator:=false,isCoroutine:=false }
abbrev CX0:CXT:=fun _ _ _ _ _ _=>False
abbrev E0:XK:=fun _ _ _=>False
variable {X:Cx}
theorem xA:jW CX0 X E0:=fun _ _ _ _ _ _ _ h=>h.elim
structure Fun (K:W.Frag) (x qual:Str) (st:Stmt) (f:Addr) (fd:FuncData):Prop where
 ex : ∃ (oc:Value) (od:Option Addr) (kV doc pm:Value) (an:Option Addr) (cdv ct:Value) (osl:Array (Option Value)),
  fd=W.fnOf x qual (qP st) (z6 st) (zG st) .none kV doc pm an cdv ct/\K.lookup f=some ⟨oc,od,.func fd,osl⟩/\W.codeIn K cdv qual=true
 kp:W.keepIn K (.ref f)=true
section
variable {P : Program} {w : World} {K : W.Frag} {mg : Str -> Option Value} {base : Heap}
variable {qual:Str} {st:Stmt} {f:Addr}
theorem Fun.ok {N ps:List Str} (F:Fun K x qual st f fd) (S:zN N ps (zG st)) (len : ∀ vs H Q E,sp vs H Q E->vs.length=ps.length)
  (hbody : ∀ (cdv:Value) (A:Around) (outer:List Env) (s:Shared) (H:Hp) (vs:List V) (Q:VK) (E:XK),j5 k (A.deeper (envOfC qual (zG st) s.heap.objs.size f cdv))->sp vs H Q E ->
   ∃ t,PSs (QX CX0 P w K mg base N qual (zG st) f cdv A outer s H E).nox (z6 st) t/\t { nx:=fun _ H'=>Q .non H',rt:=Q } (start N vs) H):xx P w K mg base CX0 (k+1) f fd ps sp:=by
 obtain ⟨oc,od,kV,doc,pm,an,cdv,ct,osl,rfl,lk,hcd⟩:=F.ex
 refine zCD lk hcd S len fun A outer s H vs Q E hr hsp=>?_
 obtain ⟨t,h,q⟩:=hbody cdv A outer s H vs Q E hr hsp
 exact ⟨t,h.nox,q⟩
theorem Fun.binds {ps:List Str} (F:Fun K x qual st f fd)
  (h : ∀ (kV doc pm:Value) (an:Option Addr) (cdv ct:Value) (us:List Value),us.length=ps.length->bindArgs (W.fnOf x qual (qP st) (z6 st) (zG st) .none kV doc pm an cdv ct) ⟨us,[]⟩=pure (ps.zip us)):jx K fd ps []:=by
 obtain ⟨oc,od,kV,doc,pm,an,cdv,ct,osl,rfl,lk,hcd⟩:=F.ex
 exact .all (h kV doc pm an cdv ct)
theorem WD {oc:Value} {od an:Option Addr} {osl:Array (Option Value)} {kV doc pm cdv ct:Value} (l:K.lookup f=some ⟨oc,od,.func (W.fnOf x qual (qP st) (z6 st) (zG st) .none kV doc pm an cdv ct),osl⟩)
  (c:W.codeIn K cdv qual=true) (k:W.keepIn K (.ref f)=true):Fun K x qual st f (W.fnOf x qual (qP st) (z6 st) (zG st) .none kV doc pm an cdv ct):=⟨⟨oc,od,kV,doc,pm,an,cdv,ct,osl,rfl,l,c⟩,k⟩
end
theorem jl (h:n<=1000):n < sizeLine:=Nat.lt_of_le_of_lt h (by decide)
section
variable {X : Cx}
theorem pv (i:Nat) {pos:Pos} (hN:X.N[i]? = some x:=by rfl) (hv:Vis X.env.scope x:=by first | exact Or.inl rfl | exact Or.inr (Or.inl rfl) | exact Or.inr (Or.inr rfl)) (hd:(x == ("__debug__" : Str))=false:=by decide)
  (hcd:(x == ("__classdict__" : Str))=false:=by decide):PE X (.Name x pos) (zFB i):=zJu hN hv hd hcd
end
variable {A B:Prop}
theorem zMS (h:B):if false=true then A else B:=by
 rw [if_neg Bool.false_ne_true]
 exact h
theorem zMF (h:A):if true=true then A else B:=by
 rw [if_pos rfl]
 exact h
def zc (H H':Hp):Prop:=∀ b o,H b=some o->H' b=some o
theorem zc.refl (H:Hp):zc H H:=fun _ _ h=>h
variable {H:Hp}
theorem zc.trans {H1 H2:Hp} (a:zc H H1) (b:zc H1 H2):zc H H2:=fun c o h=>b c o (a c o h)
variable {H':Hp} {l:Addr}
theorem zc.free (e:zc H H') (h:H' l=Option.none):H l=Option.none:=by
 cases q:H l with
 | none=>rfl
 | some o =>
  rw [e l o q] at h
  cases h
variable {xs:List V}
theorem zc.seq (e:zc H H') (h:SqL K H a xs):SqL K H' a xs:=by
 rcases h with (h | ⟨o,h⟩) | h
 ·exact .inl (.inl (e _ _ h))
 ·exact .inl (.inr ⟨o,e _ _ h⟩)
 ·exact .inr h
set_option maxHeartbeats 4000000
abbrev GL:Int:=100000000000000000000000000000000000000000000000000000000000000000000000000000000000000000000000000000000000000000000000000000000000000000000000000000000000000000000000000000000000000000000000000000000
theorem zCz {k:Int} (h1 : -GL < k) (h2:k < GL):Builtin.Int.intBits k<=1000:=by
 unfold Builtin.Int.intBits
 split
 ·exact zero_le _
 ·have hn:k.natAbs < 100000000000000000000000000000000000000000000000000000000000000000000000000000000000000000000000000000000000000000000000000000000000000000000000000000000000000000000000000000000000000000000000000000000:=by
   unfold GL at h1 h2;omega
  have hp:(100000000000000000000000000000000000000000000000000000000000000000000000000000000000000000000000000000000000000000000000000000000000000000000000000000000000000000000000000000000000000000000000000000000:Nat)<=2 ^ 999:=by decide +kernel
  have:k.natAbs.log2 < 999:=by
   rcases eq_zero_or_pos k.natAbs with h0 | hp'
   ·rw [h0];decide
   ·exact (Nat.log2_lt (Nat.ne_of_gt hp')).mpr (lt_of_lt_of_le hn hp)
  omega
def zA3 (i j:Int):Prop:=(-GL < i/\i < GL)/\(-GL < j/\j < GL)
variable {i j:Int}
theorem zA3.ok (h:zA3 i j):IntMulOk i j:=PySem.IntMulOk.of_le (zCz h.1.1 h.1.2) (zCz h.2.1 h.2.2) (by decide)
def zHr (i j:Int):Prop:=zJx i j\/zA3 i j
def zHw (i j:Int):Prop:=0 < j/\j < GL
def zKt (i j:Int):Prop:=j≠0 /\ -GL < j/\j < GL
theorem zMU (h1 : -GL < j) (h2:j < GL):Builtin.divisionGoesByPylong i j=false:=by
 refine PyProof.noPylong_of_log2 ?_
 have hn:j.natAbs < 100000000000000000000000000000000000000000000000000000000000000000000000000000000000000000000000000000000000000000000000000000000000000000000000000000000000000000000000000000000000000000000000000000000:=by
  unfold GL at h1 h2;omega
 have hp:(100000000000000000000000000000000000000000000000000000000000000000000000000000000000000000000000000000000000000000000000000000000000000000000000000000000000000000000000000000000000000000000000000000000:Nat)<=2 ^ 999:=by decide +kernel
 have:j.natAbs.log2 < 999:=by
  rcases eq_zero_or_pos j.natAbs with h0 | hp'
  ·rw [h0];decide
  ·exact (Nat.log2_lt (Nat.ne_of_gt hp')).mpr (lt_of_lt_of_le hn hp)
 omega
section
variable {X : Cx} {a b : Expr} {ta tb : TE} {pos : Pos}
theorem jk:OpR X (binaryOp .Mult) (rI zHr fun i j=>.int (i*j)):=opI fun _ _ _ _ _ _ _ hc q=>mul_int q (hc.elim zJx.ok zA3.ok)
theorem qb:OpR X (binaryOp .FloorDiv) (rI zHw fun i j=>.int (i / j)):=opI fun i j _ _ _ _ _ hc q=>by
 have h1:(0:Int) < j:=hc.1
 have h2:=hc.2
 exact floordiv_int (by omega) (by rw [Int.fdiv_eq_ediv_of_nonneg i (by omega)];exact q) (.inl (zMU (by unfold GL;omega) h2))
theorem zGy {k:Int} {n1 n2:Nat} {p1 p2:Pos} (hc:zKT i j) (e:i ^ j.toNat=k):PE X (.BinOp (.Constant (.int i) n1 p1) .Pow (.Constant (.int j) n2 p2) pos) (tC (.int k)):=by
 intro pins s σ H Q I h
 refine zP zJm zB zB pins s σ H Q I ⟨i,j,rfl,rfl,hc,?_⟩
 show Q (.int (i ^ j.toNat)) H
 rw [e];exact h
def zHY:V->Value
 | .ty T=>.type T
 | .ref C=>.ref C
 | _=>.none
def zE7 (K:W.Frag):List V->Hp->VK->Prop:=fun xs H Q=>∃ x c t b,xs=[x,c]/\WQ K H x t/\(∃ T,c = .ty T \/ ∃ C,c = .ref C)/\W.kitOne K t (zHY c)=some b/\Q (.bl b) H
theorem ZI:jC X (.builtin "isinstance") (zE7 X.K):=by
 intro pins s σ H xs us Q I r h
 obtain ⟨x,c,t,b,rfl,ty,hc,e,q⟩:=h
 obtain ⟨v,w,rfl,rx,rw'⟩:=Y1 r
 have:w=zHY c:=by
  obtain ⟨T,rfl | ⟨C,rfl⟩⟩:=hc
  ·exact rw'
  ·exact rw'
 subst this
 exact zB8 I rx ty e fun tk=>⟨.bl b,H,I.tok _,rfl,q⟩
theorem qM.getD : ∀ {xs:List V} {us:List Value} (j:Nat) (h:j < us.length),qM xs us->jz (xs.getD j .non) us[j]
 | _,_,j,h,.nil=>absurd h (Nat.not_lt_zero _)
 | _,_,0,_,.cons r _=>r
 | _,_,j+1,h,.cons _ t=>qM.getD j (Nat.lt_of_succ_lt_succ h) t
end
def Has (P:Program) (w:World) (K:W.Frag) (mg:Str->Option Value) (base:Heap) (x:Str) (k:Nat) (ps:List Str) (sp:Sp):Prop:=
 ∃ (f:Addr) (fd:FuncData),xx P w K mg base CX0 k f fd ps sp/\mg x=some (.ref f)/\W.keepIn K (.ref f)=true/\jx K fd ps []
variable {ps:List Str} {p pos:Pos} {es:List Expr} {t:TA}
theorem zH {e:Expr} (F:Has X.prog X.w X.K X.mg X.base x k ps sp) (hr:j5 n X.A) (hg:Gl X x) (ha:PA X (e::es) t) (hk:k<=n:=by decide)
  (hdb:(x == ("__debug__" : Str))=false:=by decide) (he:starEach (e::es) X.env=(false,eval e X.env)::starEach es X.env:=by rfl) (hpl:(backTo pos (starEach es X.env)).any (·.1)=false:=by rfl) :
  PE X (.Call (.Name x p) (e::es) [] pos) (Ye sp [] E0 t):=by
 obtain ⟨f,fd,G,hm,kp,hb⟩:=F
 exact zCr G (hr.mono hk) hg hm kp hb .nil xA ha hdb he hpl
theorem zR {id:String} {e:Expr} {r:List V->Hp->VK->Prop} (hc:jC X (.builtin id) r) (hm:X.mg x=none) (hg:Gl X x) (hv:bootBuiltins x=some (.builtin id)) (ha:PA X (e::es) t) (hn:x ≠ "__name__" := by decide) (hdb:(x == ("__debug__" : Str))=false:=by decide)
  (he:starEach (e::es) X.env=(false,eval e X.env)::starEach es X.env:=by rfl) (hpl:(backTo pos (starEach es X.env)).any (·.1)=false:=by rfl):PE X (.Call (.Name x p) (e::es) [] pos) (tCB r t):=
 zEA hc hg hm hv ha hn hdb he hpl
theorem jB {p:Addr} (h:H p=none) (o:HO):zc H (upd H p o):=fun b u q=>by rw [zf (zg q h)];exact q
variable {o:HO}
theorem zc.at (g:zc H H') {b:Addr} (h:H b=some o):H' b=some o:=g b o h
theorem qz (h:n<=1000):n<=sizeLine:=Nat.le_of_lt (jl h)
section
variable {σ : St} {H : Hp} {Q : VK} {D : Z9} {K : W.Frag}
variable {v:V}
theorem zIX {i:Nat} (e:σ[i]? = some (some v)) (h:Q v H):zFB i σ H Q:=⟨v,e,h⟩
theorem r_c (h:Q v H):tC v σ H Q:=h
variable {ta tb:TE}
theorem zL3 {r:R2} (h:ta σ H fun x H1=>tb σ H1 fun y H2=>r x y H2 Q):tOp r ta tb σ H Q:=h
theorem zMM {r:V->Hp->VK->Prop} (h:ta σ H fun x H1=>r x H1 Q):tUn r ta σ H Q:=h
theorem r_I {C:Int->Int->Prop} {g:Int->Int->V} (hc:C i j) (h:Q (g i j) H):rI C g (.int i) (.int j) H Q:=⟨i,j,rfl,rfl,hc,h⟩
theorem zL7 {g:Int->Int->V} (h:Q (g i j) H):rI0 g (.int i) (.int j) H Q:=⟨i,j,rfl,rfl,h⟩
theorem r_U {g:Int->V} (h:Q (g i) H):rU g (.int i) H Q:=⟨i,rfl,h⟩
theorem zKi (h:Q (.bl (decide (i=j))) H):rEq (.int i) (.int j) H Q:=⟨rfl,by rw [show decide (V.int i=V.int j)=decide (i=j) by by_cases e:i=j <;> simp [e]];exact h⟩
theorem zKM (h:Q (.bl (!decide (i=j))) H):rNe (.int i) (.int j) H Q:=⟨rfl,by rw [show decide (V.int i=V.int j)=decide (i=j) by by_cases e:i=j <;> simp [e]];exact h⟩
theorem zAL {y:Str} {b:Bool} (e:decide (x=y)=b) (h:Q (.bl b) H):rEq (.str x) (.str y) H Q:=⟨rfl,by rw [show decide (V.str x=V.str y)=decide (x=y) by by_cases e:x=y <;> simp [e],e];exact h⟩
variable {R:Bool->Hp->Prop}
theorem zIu {t:TE} (h:t σ H fun x H'=>∃ k,x = .bl k/\R k H'):zFg t σ H R:=h
theorem zMD {t:TE} (h:t σ H fun x H'=>∃ k,x = .bl k/\R k H'):tB t σ H R:=h
theorem zJc {b:Bool} {R:Bool->Prop} (h:R b) : ∃ k,V.bl b = .bl k/\R k:=⟨b,rfl,h⟩
theorem zKm {t u:TT} (h:t σ H fun c H1=>if c=true then u σ H1 R else R false H1):zLh t u σ H R:=h
theorem zML {t u:TT} (h:t σ H fun c H1=>if c=true then R true H1 else u σ H1 R):tOr t u σ H R:=h
theorem zLI {t:TT} (h:t σ H fun c H1=>R (!c) H1):zLw t σ H R:=h
theorem zJR (h:ta σ H fun x H1=>∃ c,x = .bl c/\if c=true then tb σ H1 Q else Q (.bl false) H1):zHg ta tb σ H Q:=h
theorem zKk (h:ta σ H fun x H1=>∃ c,x = .bl c/\if c=true then Q (.bl true) H1 else tb σ H1 Q):zLT ta tb σ H Q:=h
theorem zHc (h:ta σ H fun x H1=>∃ c,x = .bl c/\Q (.bl (!c)) H1):zII ta σ H Q:=h
theorem zKl {t:TT} (h:t σ H fun c H1=>if c=true then ta σ H1 Q else tb σ H1 Q):tIf t ta tb σ H Q:=h
theorem zFd {r r':R2} {tc:TE} (h:ta σ H fun x H1=>tb σ H1 fun y H2=>r x y H2 fun z H3=>∃ k,z = .bl k/\(if k=true then tc σ H3 fun w' H4=>r' y w' H4 Q else Q (.bl false) H3)):zCe r r' ta tb tc σ H Q:=h
theorem Wz {t u:TS} (h:t { D with nx:=u D } σ H):zJJ t u D σ H:=h
theorem zJ5 (h:D.nx σ H):zIL D σ H:=h
variable {te:TE}
theorem zDb {g:TG} (h:te σ H fun x H1=>g x σ H1 D.nx):zIw te g D σ H:=h
theorem VI {i:Nat} {R:St->Hp->Prop} (h:R (σ.set i (some v)) H):zBZ i v σ H R:=h
theorem zLE (h:te σ H D.rt):zLn te D σ H:=h
theorem zID (h:te σ H fun _ H1=>D.nx σ H1):zI0 te D σ H:=h
theorem zK5 {c:TT} {t u:TS} (h:c σ H fun b H1=>if b=true then t D σ H1 else u D σ H1):zLU c t u D σ H:=h
theorem Ki {R:List V->Hp->Prop} (h:R [] H):zAr σ H R:=h
theorem zJf {tr:TA} {R:List V->Hp->Prop} (h:ta σ H fun x H1=>tr σ H1 fun xs H2=>R (x::xs) H2):zBS ta tr σ H R:=h
theorem zIq {dvs:List V} {E:XK} (h:t σ H fun vs H1=>sp (vs++dvs) H1 Q E):Ye sp dvs E t σ H Q:=h
theorem zME {r:List V->Hp->VK->Prop} (h:t σ H fun vs H1=>r vs H1 Q):tCB r t σ H Q:=h
def zLf (Q:VK) (xs:List V) (H:Hp):Prop:=xs.length<=sizeLine /\ ∀ p,H p=none->Q (.ref p) (upd H p (.tup xs))
def zKo (Q:VK) (xs:List V) (H:Hp):Prop:=xs.length<=sizeLine /\ ∀ p,H p=none->Q (.ref p) (upd H p (.lst xs))
theorem zLD (h:t σ H (zLf Q)):zLX t σ H Q:=h
theorem zDU (h:t σ H (zKo Q)):zLQ t σ H Q:=h
theorem zH3 (hz:xs.length<=sizeLine) (h : ∀ p H',zc H H'->H' p=some (.tup xs)->Q (.ref p) H'):zLf Q xs H:=⟨hz,fun p hp=>h p _ (jB hp _) zK⟩
theorem zJ3 (hz:xs.length<=sizeLine) (h : ∀ p H',zc H H'->H' p=some (.lst xs)->Q (.ref p) H'):zKo Q xs H:=⟨hz,fun p hp=>h p _ (jB hp _) zK⟩
theorem zLA {p:Addr} (h:H p=some (.tup xs)) (e:atI xs i=some v) (q:Q v H):zKE K (.ref p) (.int i) H Q:=⟨p,xs,i,v,rfl,rfl,SqT.of h,e,q⟩
theorem zAm {p:Addr} (h:SqL K H p xs) (e:atI xs i=some v) (q:Q v H):zGp K (.ref p) (.int i) H Q:=⟨p,xs,i,v,rfl,rfl,h,e,q⟩
theorem Xl {x c:V} {t:Value} {b:Bool} (ty:WQ K H x t) (hc : ∃ T,c = .ty T \/ ∃ C,c = .ref C) (e:W.kitOne K t (zHY c)=some b) (q:Q (.bl b) H):zE7 K [x,c] H Q:=⟨x,c,t,b,rfl,ty,hc,e,q⟩
end
def zLW (_ j:Int):Prop:=0 < j
def CNn (_ j:Int):Prop:=0<=j
def CNz (_ j:Int):Prop:=j≠0
theorem qE:OpR X (binaryOp .Mod) (rI zLW fun i j=>.int (i % j)):=zH1
theorem zBX:OpR X (binaryOp .RShift) (rI CNn fun i j=>.int (i / 2 ^ j.toNat)):=zJD
section
variable {σ : St} {H : Hp} {Q : VK} {D : Z9} {K : W.Frag}
variable {tb:TS}
theorem zKj {W:Nat->St->Hp->Prop} {m:Nat} (h:tb { D with nx:=fun σ' H'=>∃ m',m' < m/\W m' σ' H',ct:=fun σ' H'=>∃ m',m' < m/\W m' σ' H',bk:=D.nx } σ H) :
  ∃ N:St->Hp->Prop,(∀ σ' H',N σ' H' -> ∃ m',m' < m/\W m' σ' H')/\tb { D with nx:=N,ct:=N,bk:=D.nx } σ H:=⟨_,fun _ _ h=>h,h⟩
theorem V5 {c:TT} (W:Nat->St->Hp->Prop) (h0 : ∃ m,W m σ H) (hs : ∀ m σ H,W m σ H->c σ H fun b H1=>if b=true then ∃ N:St->Hp->Prop,(∀ σ' H',N σ' H' -> ∃ m',m' < m/\W m' σ' H')/\tb { D with nx:=N,ct:=N,bk:=D.nx } σ H1 else D.nx σ H1):zFN c tb D σ H:=⟨W,h0,hs⟩
def zJQ (K:PySem.W.Frag) (g:TG) (tb:TS) (D:Z9) (σ:St) (x:V) (H:Hp):Prop:=∃ a,x = .ref a/\(∃ xs,SqL K H a xs) /\ ∃ W:Nat->Nat->St->Hp->Prop,(∃ m,W 0 m σ H) /\ ∀ i m σ H,W i m σ H ->
 ((Itl K a).stop i H/\D.nx σ H)\/((Itl K a).go i H /\ ∃ N:St->Hp->Prop,(∀ σ' H',N σ' H' -> ∃ m',m' < m/\W (i+1) m' σ' H') /\ ∀ x H',(Itl K a).yld i H x H'->g x σ H' fun σ2 H2=>tb { D with nx:=N,ct:=N,bk:=D.nx } σ2 H2)
variable {g:TG}
theorem zI2 {tl:TE} (h:tl σ H (zJQ K g tb D σ)):zKJ (zFh K tl) g tb D σ H:=h
theorem zHB (hx:SqL K H a xs) (Pv:Nat->St->Hp->Prop) (h0:Pv 0 σ H) (hl : ∀ i σ H,i<=xs.length->Pv i σ H->SqL K H a xs)
  (hs : ∀ i x σ H,xs[i]? = some x->Pv i σ H->g x σ H fun σ2 H2=>tb { D with nx:=Pv (i+1),ct:=Pv (i+1),bk:=D.nx } σ2 H2) (hd : ∀ σ H,Pv xs.length σ H->D.nx σ H):zJQ K g tb D σ (.ref a) H:=⟨a,rfl,⟨xs,hx⟩,zEQ Pv h0 hl hs hd⟩
def zIZ (g:TG) (tb:TS) (D:Z9) (σ:St) (vs:List V) (H:Hp):Prop:=∃ j:Int,vs=[.int j] /\ -(2 ^ 62)<=j/\j < 2 ^ 62 /\ ∃ W:Nat->Nat->St->Hp->Prop,(∃ m,W 0 m σ H) /\ ∀ i m σ H,W i m σ H ->
 ((Itr 0 j.toNat).stop i H/\D.nx σ H)\/((Itr 0 j.toNat).go i H /\ ∃ N:St->Hp->Prop,(∀ σ' H',N σ' H' -> ∃ m',m' < m/\W (i+1) m' σ' H') /\ ∀ x H',(Itr 0 j.toNat).yld i H x H'->g x σ H' fun σ2 H2=>tb { D with nx:=N,ct:=N,bk:=D.nx } σ2 H2)
theorem zIi {ta:TA} (h:ta σ H (zIZ g tb D σ)):zKJ (zGJ ta) g tb D σ H:=h
theorem Jv (h1 : -(2 ^ 62)<=j) (h2:j < 2 ^ 62) (Pv:Nat->St->Hp->Prop) (h0:Pv 0 σ H)
  (hs : ∀ i σ H,i < j.toNat->Pv i σ H->g (.int (0+i)) σ H fun σ2 H2=>tb { D with nx:=Pv (i+1),ct:=Pv (i+1),bk:=D.nx } σ2 H2) (hd : ∀ σ H,Pv j.toNat σ H->D.nx σ H):zIZ g tb D σ [.int j] H:=⟨j,rfl,h1,h2,zCw Pv h0 hs hd⟩
variable {R:St->Hp->Prop}
theorem zH4 {t:TGs} (h:H a=some (.tup xs)) (hn:xs.length=n) (k:t xs σ H R):zLm K n t (.ref a) σ H R:=⟨a,xs,rfl,SqT.of h,hn,k⟩
theorem zGb {t:TG} {u:TGs} {v:V} {r:List V} (h:t v σ H fun σ' H'=>u r σ' H' R):zIG t u (v::r) σ H R:=⟨v,r,rfl,h⟩
theorem zJG (h:R σ H):zLk [] σ H R:=⟨rfl,h⟩
end
variable {Q:VK}
theorem zKg {p:Addr} {a b:V} (h:H p=some (.lst [a,b])) (hi:i=0\/i=1) (q0:i=0->Q a H) (q1:i=1->Q b H):zGp K (.ref p) (.int i) H Q:=by
 rcases hi with rfl | rfl
 ·exact zAm (SqL.of h) rfl (q0 rfl)
 ·exact zAm (SqL.of h) rfl (q1 rfl)
def zLc:List V->Hp->VK->Prop:=fun xs H Q=>∃ i,xs=[.int i]/\Q (.int (if i < 0 then -i else i)) H
def zIb:List V->Hp->VK->Prop:=fun xs H Q=>∃ i j,xs=[.int i,.int j]/\Q (.int (if j > i then j else i)) H
def zIY:List V->Hp->VK->Prop:=fun xs H Q=>∃ i j,xs=[.int i,.int j]/\Q (.int (if j < i then j else i)) H
def zGB:List V->Hp->VK->Prop:=fun xs H Q=>(∃ i,xs=[.int i]/\Q (.int i) H) \/ ∃ k,xs=[.bl k]/\Q (.int (if k then 1 else 0)) H
def zHJ (K:W.Frag):List V->Hp->VK->Prop:=fun xs H Q=>∃ p ys,xs=[.ref p]/\(SqL K H p ys\/SqT K H p ys)/\Q (.int ys.length) H
section
variable {X : Cx} {H : Hp} {Q : VK} {K : W.Frag}
theorem Z8:jC X (.builtin "abs") zLc:=zDB
theorem YB (hc:X.calm=true):jC X (.builtin "max") zIb:=zCX hc
theorem ZF (hc:X.calm=true):jC X (.builtin "min") zIY:=zAw hc
theorem j3:jC X (.type "int") zGB:=zCF
theorem qh:jC X (.builtin "len") (zHJ X.K):=VX
theorem zIv (h : ∀ k:Int,(0<=i/\k=i)\/(i < 0/\k = -i)->Q (.int k) H):zLc [.int i] H Q:=⟨i,rfl,h _ (by split <;> omega)⟩
theorem zGI (h : ∀ k:Int,(i < j/\k=j)\/(j<=i/\k=i)->Q (.int k) H):zIb [.int i,.int j] H Q:=⟨i,j,rfl,h _ (by split <;> omega)⟩
theorem zGC (h : ∀ k:Int,(j < i/\k=j)\/(i<=j/\k=i)->Q (.int k) H):zIY [.int i,.int j] H Q:=⟨i,j,rfl,h _ (by split <;> omega)⟩
theorem zGF {p:Addr} {a b:V} (h:H p=some (.tup [a,b])) (q:Q (.int 2) H):zHJ K [.ref p] H Q:=⟨p,[a,b],rfl,.inr (SqT.of h),q⟩
theorem KY {k:Bool} (h:Q (.int (if k then 1 else 0)) H):zGB [.bl k] H Q:=.inr ⟨k,rfl,h⟩
theorem zJr {p:Addr} {ys:List V} (h:SqL K H p ys) (q:Q (.int ys.length) H):zHJ K [.ref p] H Q:=⟨p,ys,rfl,.inl h,q⟩
end
theorem QN:bootBuiltins "int" = some (.type "int"):=by decide +kernel
theorem zBz:bootBuiltins "bool" = some (.type "bool"):=by decide +kernel
theorem zDK:bootBuiltins "tuple" = some (.type "tuple"):=by decide +kernel
theorem y7:bootBuiltins "str" = some (.type "str"):=by decide +kernel
theorem zA5:bootBuiltins "list" = some (.type "list"):=by decide +kernel
theorem qI:bootBuiltins "isinstance" = some (.builtin "isinstance"):=by decide +kernel
theorem Kv:bootBuiltins "abs" = some (.builtin "abs"):=by decide +kernel
theorem zA4:bootBuiltins "max" = some (.builtin "max"):=by decide +kernel
theorem VB:bootBuiltins "min" = some (.builtin "min"):=by decide +kernel
theorem qy:bootBuiltins "len" = some (.builtin "len"):=by decide +kernel
def zL2 (T T':String):Option Bool:=if (Value.type T == Value.type T')=true then some true else if W.kitMeta T'=true then (fastBuiltinMro T).map (·.contains (Value.type T')) else none
theorem xP (K:W.Frag) (T T':String) {b:Bool} (h:zL2 T T'=some b):W.kitOne K (.type T) (.type T')=some b:=h
theorem XC (K:W.Frag):W.kitOne K (.type "int") (.type "int")=some true:=xP K _ _ (by decide +kernel)
theorem Q7 (K:W.Frag):W.kitOne K (.type "int") (.type "bool")=some false:=xP K _ _ (by decide +kernel)
theorem Qx (K:W.Frag):W.kitOne K (.type "bool") (.type "int")=some true:=xP K _ _ (by decide +kernel)
theorem kc (K:W.Frag):W.kitOne K (.type "tuple") (.type "tuple")=some true:=xP K _ _ (by decide +kernel)
theorem Jg (K:W.Frag):W.kitOne K (.type "str") (.type "int")=some false:=xP K _ _ (by decide +kernel)
theorem J0 (K:W.Frag):W.kitOne K (.type "str") (.type "str")=some true:=xP K _ _ (by decide +kernel)
theorem KS (K:W.Frag):W.kitOne K (.type "int") (.type "str")=some false:=xP K _ _ (by decide +kernel)
theorem Q8 (K:W.Frag):W.kitOne K (.type "list") (.type "int")=some false:=xP K _ _ (by decide +kernel)
theorem QF (K:W.Frag):W.kitOne K (.type "tuple") (.type "int")=some false:=xP K _ _ (by decide +kernel)
theorem kI (K:W.Frag):W.kitOne K (.type "NoneType") (.type "int")=some false:=xP K _ _ (by decide +kernel)
theorem Q5 (K:W.Frag):W.kitOne K (.type "dict") (.type "int")=some false:=xP K _ _ (by decide +kernel)
theorem JU (K:W.Frag):W.kitOne K (.type "NoneType") (.type "str")=some false:=xP K _ _ (by decide +kernel)
theorem Vk (K:W.Frag):W.kitOne K (.type "list") (.type "str")=some false:=xP K _ _ (by decide +kernel)
theorem Yu (K:W.Frag):W.kitOne K (.type "tuple") (.type "str")=some false:=xP K _ _ (by decide +kernel)
theorem VH (K:W.Frag):W.kitOne K (.type "bool") (.type "str")=some false:=xP K _ _ (by decide +kernel)
theorem Vp (K:W.Frag):W.kitOne K (.type "dict") (.type "str")=some false:=xP K _ _ (by decide +kernel)
section
variable {H : Hp} {Q : VK} {K : W.Frag}
theorem zET (q:Q (.bl true) H):zE7 K [.int i,.ty "int"] H Q:=Xl (.int i) ⟨_,.inl rfl⟩ (XC K) q
theorem zEL (q:Q (.bl false) H):zE7 K [.int i,.ty "bool"] H Q:=Xl (.int i) ⟨_,.inl rfl⟩ (Q7 K) q
theorem zC8 {p:Addr} (h:H p=some (.tup xs)) (q:Q (.bl true) H):zE7 K [.ref p,.ty "tuple"] H Q:=Xl (.tup h) ⟨_,.inl rfl⟩ (kc K) q
end
variable {c:Prop}
theorem i_d [Decidable c] (h1:c->A) (h2 : ¬ c->B):if decide c=true then A else B:=by
 by_cases h:c
 ·rw [if_pos (decide_eq_true h)];exact h1 h
 ·rw [if_neg (by rw [decide_eq_false h];decide)];exact h2 h
theorem zLr [Decidable c] (h1:c->B) (h2 : ¬ c->A):if (!decide c)=true then A else B:=by
 by_cases h:c
 ·rw [decide_eq_true h];exact h1 h
 ·rw [decide_eq_false h];exact h2 h
theorem zL5 [Decidable c] (h:c) (h1:A):if decide c=true then A else B:=i_d (fun _=>h1) (fun n=>absurd h n)
theorem zMB [Decidable c] (h : ¬ c) (h1:B):if decide c=true then A else B:=i_d (fun n=>absurd n h) (fun _=>h1)
theorem zKx [Decidable c] (h:c) (h1:B):if (!decide c)=true then A else B:=zLr (fun _=>h1) (fun n=>absurd h n)
theorem i_b {b:Bool} (h1:b=true->A) (h2:b=false->B):if b=true then A else B:=by
 cases b with
 | true=>rw [if_pos rfl];exact h1 rfl
 | false=>rw [if_neg (by decide)];exact h2 rfl
theorem zMT (h:B):if (!true)=true then A else B:=h
theorem zMQ (h:A):if (!false)=true then A else B:=h
def jy (X:Cx) (scope:Scope) (cl:List (Str × Addr)) (N':List Str) (C:Addr) (s₂:Shared) (H₂:Hp) (fp:List Addr):Cx where
 prog:=X.prog
 w:=X.w
 K:=X.K
 mg:=X.mg
 base:=X.base
 A:=X.A
 N:=N'
 s₀:=s₂
 H₀:=H₂
 env:=compEnvC scope cl C X.env
 outer:=X.stack
 stack:=X.stack
 ex:=fp
 calm:=X.calm
 fn:=fun _=>false
 pn:=[]
 xe:=fun _ _=>False
def zFE (cells:List (Str × Addr)):List (Str × Addr)->Prop
 | []=>True
 | p::r=>cells.lookup p.1=some p.2/\zFE cells r
theorem zFE.look {cells:List (Str × Addr)} : ∀ {cl:List (Str × Addr)} {x:Str} {c:Addr},zFE cells cl->cl.lookup x=some c->cells.lookup x=some c
 | [],_,_,_,h=>by simp at h
 | (y,d)::r,x,c,⟨h1,h2⟩,h=>by
  rw [lookup_cons] at h
  cases e:x == y with
  | true =>
   rw [e] at h
   have e':x=y:=eq_of_beq e
   cases h
   rw [e'];exact h1
  | false =>
   rw [e] at h
   exact zFE.look h2 h
def zC1 (X:Cx) (scope:Scope):List Str->List Nat->Prop
 | [],[]=>True
 | y::r,j::js=>(X.N[j]? = some y/\scope.names.lookup y=some .free/\(X.env.kindOf y=some .cell\/X.env.kindOf y=some .free))/\zC1 X scope r js
 | _,_=>False
theorem zC1.get {X:Cx} {scope:Scope} : ∀ {fr:List Str} {js:List Nat} {k:Nat} {y:Str},zC1 X scope fr js->fr[k]? = some y -> ∃ j,js[k]? = some j/\X.N[j]? = some y/\scope.names.lookup y=some .free/\(X.env.kindOf y=some .cell\/X.env.kindOf y=some .free)
 | [],_,_,_,_,h=>by simp at h
 | _::_,[],_,_,h,_=>h.elim
 | y::r,j::js,0,z,⟨h1,_⟩,h=>by simp at h;subst h;exact ⟨j,rfl,h1⟩
 | y::r,j::js,k+1,z,⟨_,h2⟩,h=>by
  obtain ⟨j',e,q⟩:=zC1.get (k:=k) h2 (by simpa using h)
  exact ⟨j',by simpa using e,q⟩
theorem zC1.len {X:Cx} {scope:Scope} : ∀ {fr:List Str} {js:List Nat},zC1 X scope fr js->fr.length=js.length
 | [],[],_=>rfl
 | [],_::_,h=>h.elim
 | _::_,[],h=>h.elim
 | _::r,_::js,h=>by rw [length_cons,length_cons,zC1.len h.2]
theorem Qs {env : Env} : ∀ {names : List (Str × NameKind)} {x : Str}, (∀ y ∈ names, y.2 ≠ .cell) ->
    ((names.map fun (n, k) => if (k == NameKind.free && env.scope.kind == .function && env.kindOf n == some .cell) then (n, NameKind.cell) else (n, k)).lookup x = some .cell \/
     (names.map fun (n, k) => if (k == NameKind.free && env.scope.kind == .function && env.kindOf n == some .cell) then (n, NameKind.cell) else (n, k)).lookup x = some .free) -> names.lookup x = some .free
  | [], _, _, h => by simp at h
  | (n, k) :: r, x, hc, h => by
    have ih := @Qs env r x (fun y hy => hc y (List.mem_cons_of_mem _ hy))
    rw [map_cons] at h
    dsimp only at h
    by_cases hb : (k == NameKind.free && env.scope.kind == .function && env.kindOf n == some .cell) = true
    · rw [if_pos hb] at h
      rw [lookup_cons] at h
      rw [lookup_cons]
      cases e : x == n with
      | true =>
        have : k = .free := by simp at hb; exact hb.1.1
        rw [this]
      | false =>
        rw [e] at h
        exact ih h
    · rw [if_neg hb] at h
      rw [lookup_cons] at h
      rw [lookup_cons]
      cases e : x == n with
      | true =>
        rw [e] at h
        have hk : k ≠ .cell := hc (n, k) List.mem_cons_self
        rcases h with h | h
        · exact absurd (Option.some.inj h) hk
        · exact h
      | false =>
        rw [e] at h
        exact ih h
theorem kb {env : Env} (hk : env.scope.kind = .function) {x : Str} : ∀ {names : List (Str × NameKind)}, names.lookup x = some .free -> (env.kindOf x = some .cell \/ env.kindOf x = some .free) ->
    ((names.map fun (n, k) => if (k == NameKind.free && env.scope.kind == .function && env.kindOf n == some .cell) then (n, NameKind.cell) else (n, k)).lookup x = some .cell \/
     (names.map fun (n, k) => if (k == NameKind.free && env.scope.kind == .function && env.kindOf n == some .cell) then (n, NameKind.cell) else (n, k)).lookup x = some .free)
  | [], h, _ => by simp at h
  | (n, k) :: r, h, hx => by
    have ih := @kb env hk x r
    rw [lookup_cons] at h
    rw [map_cons]
    dsimp only
    cases e : x == n with
    | true =>
      rw [e] at h
      have ek : k = .free := Option.some.inj h
      have en : x = n := eq_of_beq e
      subst ek
      rcases hx with hx | hx
      · left
        have hb : ((NameKind.free == NameKind.free) && env.scope.kind == .function && env.kindOf n == some .cell) = true := by rw [<- en, hx, hk]; decide
        rw [if_pos hb, lookup_cons, e]
      · right
        have hb : ¬ ((NameKind.free == NameKind.free) && env.scope.kind == .function && env.kindOf n == some .cell) = true := by rw [<- en, hx, hk]; decide
        rw [if_neg hb, lookup_cons, e]
    | false =>
      rw [e] at h
      rcases ih h hx with q | q
      · left
        split <;> rw [lookup_cons, e] <;> exact q
      · right
        split <;> rw [lookup_cons, e] <;> exact q
section
variable {X : Cx} {pins : List (Addr × Obj)} {σ : St} {H : Hp} {s : Shared}
theorem HOk.track {h:Heap} (x:HOk P w H h) (hn:H a=none) (new:jo P w (upd H a o) h a o):HOk P w (upd H a o) h:=fun b u e=>by
 by_cases hb:b=a
 ·subst hb;rw [zK] at e;cases e;exact new
 ·rw [zf hb] at e
  exact (x b u e).stay (fun c v _ q=>q) (fun c q=>by rw [zf (zg q hn)];exact q) fun c xs q=>by rw [zf (zg q hn)];exact q
theorem Inv.track (I:Inv X pins σ H s) (f:zAe X pins H a) (new:jo X.prog X.w (upd H a o) s.heap a o):Inv X pins σ (upd H a o) s:=by
 obtain ⟨f0,f1,f2,f3,f4,f5⟩:=f
 have up : ∀ b,H b=none->b≠a->upd H a o b=none:=fun b e n=>by rw [zf n];exact e
 have st : ∀ {b u},H b=some u->upd H a o b=some u:=fun {b u} e=>by rw [zf (zg e f0)];exact e
 have na : ∀ b ob,X.s₀.heap.get? b=some ob->b ∉ X.ex->b≠a:=fun b ob e hx z=>by
  rcases f3 with q | q
  ·exact hx (z ▸ q)
  ·exact absurd (lt_of_lt_of_le (Heap.lt_size e) (z ▸ q)) (lt_irrefl _)
 refine ⟨I.ok,I.os,I.bare,⟨I.base.keep,I.base.slot,fun b ob e n hx=>up b (I.base.free b ob e n hx) (na b ob e hx),I.base.there,fun b xs e=>st (I.base.tups b xs e),fun b ob u e=>st (I.base.frzs b ob u e),fun b ps e=>?_⟩,I.loc,I.cell,up _ I.free (Ne.symm f1),fun x c e=>up c (I.freeC x c e) (f4 x c e),fun p hp=>?_,I.hok.track f0 new,I.len⟩
 ·obtain ⟨m,q⟩:=I.base.tbls b ps e
  exact ⟨m,st q⟩
 ·obtain ⟨e,n,r⟩:=I.pin p hp
  exact ⟨e,up _ n (f5 p hp),r⟩
end
def zJY (Y:Cx) (ifs:List Expr) (t:TT):Prop:=
 ∀ (pins:List (Addr × Obj)) (s:Shared) (σ:St) (H:Hp) (R:Bool->Hp->Prop),Inv Y pins σ H s->t σ H R ->
  wpAny (model Y.prog Y.w) Y.A (forIn ifs true fun c r=>if r=true then do let ok <- isTrue c Y.env (eval c Y.env);pure (ForInStep.yield ok) else pure (ForInStep.yield r)) (TP Y pins σ R) Y.xe s
def zJU:TT:=fun _ H R=>R true H
theorem j7 {Y:Cx}:zJY Y [] zJU:=fun _ _ _ H _ I h=>wpAny_tests_nil ⟨H,I,h⟩
theorem zEC {Y:Cx} {c:Expr} {t:TT} (h:PT Y c t):zJY Y [c] t:=fun pins s σ H R I q=>wpAny_tests_one (h pins s σ H R I q)
def zA2 (is : List Nat) (tt : TT) (te : TE) (σ : St) (Q : VK) (J : It) (H1 : Hp) : Prop := ∃ W : Nat -> Nat -> List V -> Hp -> Prop, (∃ m, W 0 m [] H1) /\ ∀ i m ys H, W i m ys H -> ys.length <= sizeLine /\
  ((J.stop i H /\ ∀ p, H p = none -> Q (.ref p) (upd H p (.lst ys))) \/
   (J.go i H /\ ys.length < sizeLine /\ ∀ x H', J.yld i H x H' -> tt (some x :: is.map fun j => (σ[j]?).getD none) H' fun ok H2 =>
     if ok = true then te (some x :: is.map fun j => (σ[j]?).getD none) H2 fun y H3 => ∃ m', m' < m /\ W (i + 1) m' (ys ++ [y]) H3 else ∃ m', m' < m /\ W (i + 1) m' ys H2))
def zCb (is:List Nat) (wi:TI) (tt:TT) (te:TE):TE:=fun σ H Q=>wi σ H fun J H1=>zA2 is tt te σ Q J H1
section
variable {X : Cx} {elt iter : Expr} {ifs : List Expr} {x : Str} {px pos : Pos} {scope : Scope} {cl : List (Str × Addr)} {fr : List Str} {is : List Nat} {wi : TI} {tt : TT} {te : TE}
theorem zBK {pins:List (Addr × Obj)} {σ:St} {H₂:Hp} {s₂:Shared} {C:Addr} {fp:List Addr} {N':List Str} (I:Inv X pins σ H₂ s₂) (hC:s₂.heap.objs.size<=C) (hf : ∀ b ∈ fp,zAe X pins H₂ b) (hfl : ∀ b ∈ fp,b < s₂.heap.objs.size)
  (hcell : ∀ y ∈ scope.names,y.2 ≠ .cell) (hkind:scope.kind = .function) (hcl:zFE X.env.cells cl) (hfree:(scope.names.all fun p=>p.2 != .free || (cl.lookup p.1).isSome)=true):(jy X scope cl N' C s₂ H₂ fp).Ok where
 mod:=I.mod
 kind:=hkind
 glob:=I.ok.glob
 blt:=I.ok.blt
 above:=hC
 inj:=fun x y c h1 h2=>I.ok.inj x y c (hcl.look h1) (hcl.look h2)
 has:=fun y h=>by
  have h':=Qs (env:=X.env) hcell h
  have hm:(y,NameKind.free) ∈ scope.names:=by
   have aux : ∀ {l:List (Str × NameKind)},l.lookup y=some .free->(y,NameKind.free) ∈ l:=by
    intro l
    induction l with
    | nil=>intro z;simp at z
    | cons p r ih =>
     intro z
     obtain ⟨n,k⟩:=p
     rw [lookup_cons] at z
     cases e:y == n with
     | true=>rw [e] at z;cases z;rw [eq_of_beq e];exact List.mem_cons_self
     | false=>rw [e] at z;exact List.mem_cons_of_mem _ (ih z)
   exact aux h'
  have q:((NameKind.free != NameKind.free) || (cl.lookup y).isSome)=true:=List.all_eq_true.mp hfree _ hm
  have q':(cl.lookup y).isSome=true:=by rw [bne_self_eq_false,Bool.false_or] at q;exact q
  exact Option.isSome_iff_exists.mp q'
 cab:=fun _ _ h _=>by cases h
 hd:=I.ok.hd
 frames:=I.ok.frames
 stk:=.inl rfl
 exf:=fun b hb=>⟨ne_of_lt (lt_of_lt_of_le (hfl b hb) hC),fun y c e=>(hf b hb).2.2.2.2.1 y c (hcl.look e)⟩
 bs:=I.bs
 bsz:=le_trans I.ok.bsz I.sz
 noex:=fun b o e hb=>by
  rcases (hf b hb).2.2.2.1 with q | q
  ·exact I.ok.noex b o e q
  ·exact absurd (lt_of_lt_of_le (Heap.lt_size e) (le_trans I.ok.bsz q)) (lt_irrefl _)
 exfs:=fun b hb z=>by
  rcases List.mem_cons.mp (I.stkSub b z) with q | q
  ·exact (hf b hb).2.1 q
  ·exact (hf b hb).2.2.1 q
 funs:=I.stack
 frf:=I.stkFree
def zBJ (X:Cx) (pins:List (Addr × Obj)) (σ:St) (Q:VK) (acc:Value) (C:Addr) (r:Result) (s':Shared):Prop:=match r with
 | .ok _=>∃ (D:Addr) (H':Hp) (m:Str->Option Value),acc = .ref D/\Inv X pins σ H' s'/\s'.heap.Ns C m/\zAe X pins H' C/\Q (.ref D) H'
 | .error _=>False
theorem zKy {M:Model} {A:Around} {E:Value->Shared->Prop} {s:Shared} {it u:Value} {Q1:Unit->Shared->Prop} {α:Type} {t:Sem α} {Q2:α->Shared->Prop} (h:wpAny M A (letOwnedTupleGo (.Name x px) it u) Q1 E s) (k : ∀ s,Q1 () s->wpAny M A t Q2 E s):wpAny M A t Q2 E s:=by
 have z:wpAny M A (letOwnedTupleGo (.Name x px) it u >>= fun _=>t) Q2 E s:=wpAny_bind (thn h fun _ s q=>k s q)
 rw [show letOwnedTupleGo (.Name x px) it u=pure () from rfl,pure_bind] at z
 exact z
theorem Y3 {pins:List (Addr × Obj)} {σ:St} {E:Value->Shared->Prop} {s₂:Shared} {H₂:Hp} {it:Addr} {fp:List Addr} {tn:Nat->Heap->Prop} {J:It}
  (hc:X.calm=true) (hcell : ∀ y ∈ scope.names,y.2 ≠ .cell) (hkind:scope.kind = .function) (hx:scope.names.lookup x=some .local) (hcl:zFE X.env.cells cl)
  (hfree:(scope.names.all fun p=>p.2 != .free || (cl.lookup p.1).isSome)=true) (hfr:zC1 X scope fr is) (hnd:(x::fr).Nodup)
  (ht : ∀ C s₂ H₂ fp,zJY (jy X scope cl (x::fr) C s₂ H₂ fp) ifs tt) (he : ∀ C s₂ H₂ fp,PE (jy X scope cl (x::fr) C s₂ H₂ fp) elt te)
  (I:Inv X pins σ H₂ s₂) (T:zIl X.prog X.w X.K (.Name x px) J fp it tn) (st:tn 0 s₂.heap) (hf : ∀ b ∈ fp,zAe X pins H₂ b) (R:zA2 is tt te σ Q J H₂) :
  wpAny (model X.prog X.w) X.A (newList []) (fun acc s₃=>wpAny (model X.prog X.w) X.A (newFunctionEnv scope X.env.globals cl [] X.env.qual none .none (some X.env)) (fun cenv s₄ =>
   codeAny (model X.prog X.w) X.A (.compStart (.ListComp elt [⟨.Name x px,iter,ifs,0⟩] scope pos) 0 (.ref it) acc { cenv with scope:=relabel scope X.env }) (zBJ X pins σ Q acc cenv.locals) s₄) E s₃) E s₂:=by
 obtain ⟨W,⟨m0,w0⟩,turn⟩:=R
 refine wpAny_newObj_type (wpAny_newFunctionEnv hcell (by intro y hy;simp at hy) (fun h₁ hns₁ hsb₁=>?_) hkind)
 dsimp only at hns₁ hsb₁ ⊢
 generalize hH2:s₂.heap.push { cls:=.type "list", dict:=none,data:=.seq ([]:List Value).toArray }=G2 at hns₁ hsb₁ ⊢
 have hC:G2.objs.size=s₂.heap.objs.size+1:=by rw [<- hH2,Heap.size_push]
 have hDC:s₂.heap.objs.size≠G2.objs.size:=by rw [hC];exact ne_of_lt (Nat.lt_succ_self _)
 have below : ∀ b,b < s₂.heap.objs.size->b≠G2.objs.size/\b≠s₂.heap.objs.size:=fun b hb=>⟨by rw [hC];exact ne_of_lt (Nat.lt_succ_of_lt hb),ne_of_lt hb⟩
 have hfl : ∀ b ∈ fp,b < s₂.heap.objs.size:=fun b hb=>by obtain ⟨o,e,_⟩:=T.obj _ _ st b hb;exact Heap.lt_size e
 have old : ∀ b o,s₂.heap.get? b=some o->h₁.get? b=some o:=fun b o e=>hsb₁.extBut b o (below b (Heap.lt_size e)).1 (Heap.get?_push_of_some _ (hH2 ▸ Heap.get?_push_of_some _ e))
 have hacc:h₁.get? s₂.heap.objs.size=some { cls:=.type "list", data:=.seq ([]:List Value).toArray 0 }:=hsb₁.extBut _ _ hDC (Heap.get?_push_of_some _ (hH2 ▸ Heap.get?_push_size _ rfl))
 have hfresh : ∀ b,s₂.heap.objs.size<=b->H₂ b=none:=fun b hb=>I.hok.fresh hb
 have hCle:s₂.heap.objs.size<=G2.objs.size:=by rw [hC];exact Nat.le_succ _
 generalize hCe:G2.objs.size=C at *
 generalize hDe:s₂.heap.objs.size=D at *
 have ok:(jy X scope cl (x::fr) C s₂ H₂ fp).Ok:=zBK I (by rw [hDe];exact hCle) hf (by rw [hDe];exact hfl) hcell hkind hcl hfree
 have hYc:(jy X scope cl (x::fr) C s₂ H₂ fp).calm=true:=hc
 have hDfp : ∀ b ∈ fp,b≠D:=fun b hb=>ne_of_lt (hfl b hb)
 have hDst:D ∉ frs X.stack:=fun z=>by
  rcases List.mem_cons.mp (I.stkSub D z) with q | q
  ·have:=I.lt;rw [hDe,<- q] at this;exact lt_irrefl _ this
  ·exact I.nofs (by rw [hDe];exact Nat.le_refl _) q
 have hfY : ∀ {H':Hp} {its:List Value} {n:Nat},(∀ b ∈ fp,H' b=none) -> ∀ b ∈ fp,zAe (jy X scope cl (x::fr) C s₂ H₂ fp) [(D,{ cls:=.type "list", data:=.seq its.toArray n })] H' b:=fun hn b hb =>
  ⟨hn b hb,(ok.exf b hb).1,ok.exfs b hb,.inl hb,(ok.exf b hb).2,fun p hp=>by
   have e:p=(D,{ cls:=.type "list", data:=.seq _ _ }):=List.mem_singleton.mp hp
   rw [e];exact Ne.symm (hDfp b hb)⟩
 have lenF:(is.map fun j=>(σ[j]?).getD none).length=fr.length:=by rw [length_map,hfr.len]
 have I0:Inv (jy X scope cl (x::fr) C s₂ H₂ fp) [(D,{ cls:=.type "list", data:=.seq ([]:List Value).toArray 0 })] (none::is.map fun j=>(σ[j]?).getD none) H₂ { s₂ with heap:=h₁,toks:=s₂.toks+([]:List (Str × Value)).length }:=by
  refine ⟨ok,rfl,I.bare,Un.kept old,⟨_,hns₁,fun i y v e1 e2 e3=>?_⟩,fun y c e=>?_,hfresh C hCle,fun y c e=>I.freeC y c (hcl.look e),fun p hp=>?_,I.hok.kept old,?_⟩
  ·cases i with
   | zero=>cases e2
   | succ k =>
    have e1':fr[k]? = some y:=e1
    have e2':(is.map fun j=>(σ[j]?).getD none)[k]? = some (some v):=e2
    obtain ⟨j,hj,hN,hfy,hkx⟩:=hfr.get e1'
    rw [getElem?_map,hj] at e2'
    have e4:(σ[j]?).getD none=some v:=Option.some.inj e2'
    have e5:σ[j]? = some (some v):=by
     cases q:σ[j]? with
     | none=>rw [q] at e4;cases e4
     | some o=>rw [q] at e4;have e4':o=some v:=e4;rw [e4']
    obtain ⟨m,hn,hl⟩:=id I.loc
    have hvis:Vis X.env.scope y:=hkx.elim (fun q=>.inr (.inl q)) fun q=>.inr (.inr q)
    obtain ⟨u,r,lk⟩:=hl j y v hN e5 hvis
    refine ⟨u,r,.inr ⟨kb I.ok.kind hfy hkx,?_⟩⟩
    rcases lk with ⟨kl,_⟩ | ⟨_,c,ec,ic⟩
    ·rcases hkx with q | q <;> rw [kl] at q <;> cases q
    ·obtain ⟨c',ec'⟩:=ok.has y (kb I.ok.kind hfy hkx)
     have:c'=c:=Option.some.inj ((hcl.look ec').symm.trans ec)
     rw [this] at ec'
     obtain ⟨o,ho,hd⟩:=ic
     exact ⟨c,ec',o,old c o ho,hd⟩
  ·obtain ⟨v,o,ho,hd⟩:=I.cell y c (hcl.look e)
   exact ⟨v,o,old c o ho,hd⟩
  ·have e:p=(D,{ cls:=.type "list", data:=.seq ([]:List Value).toArray 0 }):=List.mem_singleton.mp hp
   rw [e]
   exact ⟨hacc,hfresh D (Nat.le_refl _),hDC,hDst,fun v z=>by cases z⟩
  ·show (none::_).length=(x::fr).length
   rw [length_cons,length_cons,lenF]
 have loop : ∀ s₃:Shared,s₃={ s₂ with heap:=h₁,toks:=s₂.toks+([]:List (Str × Value)).length } ->
   codeAny (model X.prog X.w) X.A (.compLoop (.ListComp elt [⟨.Name x px,iter,ifs,0⟩] scope pos) 0 (.ref it) (.ref D) (compEnvC scope cl C X.env)) (zBJ X pins σ Q (.ref D) C) s₃:=by
  rintro s₃ rfl
  refine codeAny_compLoop_tests (fun n s'=>∃ (i:Nat) (o:Option V) (ys:List V) (its:List Value) (k:Nat) (H':Hp),Inv (jy X scope cl (x::fr) C s₂ H₂ fp) [(D,{ cls:=.type "list", data:=.seq its.toArray k })] (o::is.map fun j=>(σ[j]?).getD none) H' s' /\
   tn i s'.heap/\(∀ b ∈ fp,H' b=none)/\qM ys its/\W i n ys H') ?_ m0 ⟨0,none,[],[],0,H₂,I0,T.keep _ _ _ st fun b _ o e=>old b o e,fun b hb=>(hf b hb).1,.nil,w0⟩
  rintro n s' ⟨i,o,ys,its,k,H',I',st',fr',vs,w'⟩
  obtain ⟨hlen,⟨stop,fin⟩ | ⟨go,hlt,step⟩⟩:=turn i n ys H' w'
  ·refine wpAny_mono (T.done (jy X scope cl (x::fr) C s₂ H₂ fp) rfl rfl rfl hYc i _ s' _ H' (fun _ _=>False) I' (hfY fr') st' stop) (fun r s1 zq=>?_) fun _ _ z=>z.elim
   obtain ⟨hr,I1⟩:=zq
   subst hr
   obtain ⟨pD,nD,_,_,_⟩:=I1.pin _ (mem_append_right _ (List.mem_singleton.mpr rfl))
   have IX:Inv X pins σ H' s1:=I.call' I1.os I1.base I1.hok I1.bare fun b hb=>⟨(hf b hb).2.2.2.1,(hf b hb).2.1,(hf b hb).2.2.2.2.1,(hf b hb).2.2.2.2.2⟩
   have fD:zAe X pins H' D:=I.fpOk (by rw [hDe];exact Nat.le_refl _) nD
   obtain ⟨m,hn,_⟩:=id I1.loc
   have hC':H' C=none:=I1.free
   refine ⟨D,upd H' D (.lst ys),m,rfl,IX.track fD ⟨hlen,its,k,vs,pD⟩,hn,I.fpOk (by rw [hDe];exact hCle) (by rw [zf (Ne.symm hDC)];exact hC'),fin D nD⟩
  ·refine wpAny_mono (T.item (jy X scope cl (x::fr) C s₂ H₂ fp) rfl rfl rfl hYc i _ s' _ H' (fun _ _=>False) I' (hfY fr') st' go) (fun r s1 zq=>?_) fun _ _ z=>z.elim
   obtain ⟨u,hr,h4⟩:=zq
   subst hr
   refine wpAny_mono (zKy (Q2:=fun _ s6=>_) h4 fun s2 zq=>?_) (fun _ _ q=>q) fun _ _ z=>z.elim
   obtain ⟨v,H5,I5,r5,y5,st5,fr5⟩:=zq
   have I5':=I5.pinned (hfY fr5) (T.obj _ _ st5)
   refine thn (qF (X:=jy X scope cl (x::fr) C s₂ H₂ fp) (i:=0) hnd rfl (.inl (lookup_relabel_local hx)) (.inr (lookup_relabel_local hx)) _ s2 _ H5 v u (fun σ' H'=>σ'=(some v::is.map fun j=>(σ[j]?).getD none)/\H'=H5) I5' r5 ⟨rfl,rfl⟩) fun _ s6 zq=>?_
   obtain ⟨σ6,H6,I6,e6,e7⟩:=zq
   subst e6 e7
   refine wpAny_mono (ht C s₂ H₂ fp _ s6 _ H6 _ I6 (step v H6 y5)) (fun ok7 s7 zq=>?_) fun _ _ z=>z.elim
   obtain ⟨H7,I7,q7⟩:=zq
   have keep : ∀ {σ8:St} {H8:Hp} {s8:Shared},Inv (jy X scope cl (x::fr) C s₂ H₂ fp) ([(D,{ cls:=.type "list", data:=.seq its.toArray k })]++Y8 fp s2.heap) σ8 H8 s8->tn (i+1) s8.heap /\ ∀ b ∈ fp,H8 b=none:=fun {σ8 H8 s8} I8 =>
    ⟨T.keep _ _ _ st5 fun b hb o e=>(I8.pin (b,o) (mem_append_right _ (mem_append_right _ (ZN hb e)))).1,fun b hb=>by
     obtain ⟨o,e,d⟩:=T.obj _ _ st5 b hb
     exact (I8.pin (b,o) (mem_append_right _ (mem_append_right _ (ZN hb e)))).2.1⟩
   cases ok7 with
   | false =>
    obtain ⟨m',hm',w7⟩:=q7
    exact ⟨m',hm',i+1,_,ys,its,k,H7,I7.unpinned,(keep I7).1,(keep I7).2,vs,w7⟩
   | true =>
    refine wpAny_mono (he C s₂ H₂ fp _ s7 _ H7 _ I7 q7) (fun yv s8 zq=>?_) fun _ _ z=>z.elim
    obtain ⟨y,H8,I8,r8,m',hm',w8⟩:=zq
    obtain ⟨pD,nD,neD,nfD,ncD⟩:=I8.pin (D,{ cls:=.type "list", data:=.seq its.toArray k }) (mem_append_right _ (mem_append_left _ (List.mem_singleton.mpr rfl)))
    have hl:=vs.length
    refine append_at (hsz:=by rw [List.size_toArray,<- hl];exact hlen) pD fun h9 sb9 hD9=>?_
    obtain ⟨st8,fr8⟩:=keep I8
    have I8':Inv (jy X scope cl (x::fr) C s₂ H₂ fp) [] (some v::is.map fun j=>(σ[j]?).getD none) H8 s8:=I8.pins_of fun p hp=>nomatch hp
    have I9:Inv (jy X scope cl (x::fr) C s₂ H₂ fp) [] (some v::is.map fun j=>(σ[j]?).getD none) H8 { s8 with heap:=h9 }:=
     I8'.turned (t':=s8.toks) (fun b o hb e=>(sb9.2 b hb).trans e) nD neD (.inr (by rw [<- hDe];exact Nat.le_refl _)) (fun y' c e z=>by
      obtain ⟨v',o',ho',hd'⟩:=I8'.cell y' c e
      rw [z,pD] at ho';cases ho';cases hd') (fun p hp=>nomatch hp)
    refine ⟨m',hm',i+1,_,ys++[y],its++[yv],k+1,H8,I9.pins_of fun p hp=>?_,T.keep _ _ _ st8 fun b hb o e=>(sb9.2 b (hDfp b hb)).trans e,fr8,vs.append (.cons r8 .nil),w8⟩
    rw [List.mem_singleton.mp hp]
    refine ⟨?_,nD,neD,nfD,fun v z=>by cases z⟩
    rw [<- List.push_toArray]
    exact hD9
 exact codeAny_compStart_list (loop _ rfl) (T.self _ 0 _ _ _ (T.keep _ _ _ st fun b _ o e=>old b o e) (loop _ rfl))
theorem yq (hc:X.calm=true) (hclos:closureFor scope X.env=pure cl) (hcl:zFE X.env.cells cl) (hfree:(scope.names.all fun p=>p.2 != .free || (cl.lookup p.1).isSome)=true) (hfr:zC1 X scope fr is) (hnd:(x::fr).Nodup)
  (hcell : ∀ y ∈ scope.names,y.2 ≠ .cell) (hkind:scope.kind = .function) (hnames : ∀ y ∈ scope.names,y.2 = .local->scope.names.lookup y.1=some .local) (hx:scope.names.lookup x=some .local)
  (hi:PI X (.Name x px) iter wi) (ht : ∀ C s₂ H₂ fp,zJY (jy X scope cl (x::fr) C s₂ H₂ fp) ifs tt) (he : ∀ C s₂ H₂ fp,PE (jy X scope cl (x::fr) C s₂ H₂ fp) elt te) (hs : ∀ x,foldedSetIterable iter X.env x=pure x:=by intro _;rfl) :
  PE X (.ListComp elt [⟨.Name x px,iter,ifs,0⟩] scope pos) (zCb is wi tt te):=by
 intro pins s σ H Q I h
 rw [eval_ListComp]
 refine wpAny_comprehension_free (use:=none) rfl hs hclos hkind hnames (thn (hi pins s σ H _ I h) fun v s1 h1=>thn h1 fun itv s2 h2=>?_)
 obtain ⟨it,fp,tn,J,H2,e,I2,T,st2,f2,R⟩:=h2
 subst e
 refine thn (Y3 hc hcell hkind hx hcl hfree hfr hnd ht he I2 T st2 f2 R) fun acc s3 h3=>thn h3 fun cenv s4 h4=>codeAny_mono h4 fun r s' q=>?_
 cases r with
 | error e=>exact q.elim
 | ok f =>
  obtain ⟨D,H',m,rfl,I',hn,fC,q⟩:=q
  obtain ⟨f0,f1,_,f3,f4,f5⟩:=fC
  exact ⟨m,hn,fun h' sb=>⟨.ref D,H',I'.turned (t':=s'.toks) (fun b o hb e=>(sb.2 b hb).trans e) f0 f1 f3 f4 f5,rfl,q⟩⟩
theorem YD {i:Nat} {y:Str} {py spos:Pos} (hN:X.N.Nodup) (hiy:X.N[i]? = some y) (hy:Loc X.env.scope y) (hsw:swapsWith (.ListComp elt [⟨.Name x px,iter,ifs,0⟩] scope pos) (some (.Name y py)) spos.line X.env=pure true)
  (hc:X.calm=true) (hclos:closureFor scope X.env=pure cl) (hcl:zFE X.env.cells cl) (hfree:(scope.names.all fun p=>p.2 != .free || (cl.lookup p.1).isSome)=true) (hfr:zC1 X scope fr is) (hnd:(x::fr).Nodup)
  (hcell : ∀ y ∈ scope.names,y.2 ≠ .cell) (hkind:scope.kind = .function) (hnames : ∀ y ∈ scope.names,y.2 = .local->scope.names.lookup y.1=some .local) (hx:scope.names.lookup x=some .local)
  (hi:PI X (.Name x px) iter wi) (ht : ∀ C s₂ H₂ fp,zJY (jy X scope cl (x::fr) C s₂ H₂ fp) ifs tt) (he : ∀ C s₂ H₂ fp,PE (jy X scope cl (x::fr) C s₂ H₂ fp) elt te) (hs : ∀ x,foldedSetIterable iter X.env x=pure x:=by intro _;rfl)
  (hf:X.fn y=true\/X.env.scope.names.lookup y=some .local:=by first | exact .inl rfl | exact .inr rfl | assumption) :
  PS X (.Assign [.Name y py] (.ListComp elt [⟨.Name x px,iter,ifs,0⟩] scope pos) spos) (zIw (zCb is wi tt te) (zBZ i)):=by
 intro pins s σ H D0 I h
 rw [exec_Assign_Name_used _ _ _ _ hsw]
 refine wpAny_bind (wpAny_standAt (wpAny_bind ?_))
 show wpAny _ X.A (do let _ <- comprehension (.ListComp elt [⟨.Name x px,iter,ifs,0⟩] scope pos) scope X.env _ (newList []) false (eval iter X.env) (some (assign (.Name y py) X.env))) _ _ s
 refine wpAny_bind (wpAny_mono (wpAny_comprehension_free (use:=some (assign (.Name y py) X.env)) (Q:=fun _ s'=>SP X pins D0 .next s') rfl hs hclos hkind hnames
  (thn (hi pins s σ H _ I h) fun v s1 h1=>thn h1 fun itv s2 h2=>?_)) (fun _ s' hq=>wpAny_pure (wpAny_pure hq)) fun _ _ e=>e)
 obtain ⟨it,fp,tn,J,H2,e,I2,T,st2,f2,R⟩:=h2
 subst e
 refine thn (Y3 hc hcell hkind hx hcl hfree hfr hnd ht he I2 T st2 f2 R) fun acc s3 h3=>thn h3 fun cenv s4 h4=>codeAny_mono h4 fun r s' q=>?_
 cases r with
 | error e=>exact q.elim
 | ok f =>
  obtain ⟨D,H',m,rfl,I',hn,fC,q⟩:=q
  obtain ⟨f0,f1,_,f3,f4,f5⟩:=fC
  show wpAny _ _ (assign (.Name y py) X.env (.ref D)) _ _ _
  refine wpAny_assign_Name (J2 I' hN hiy hy (v:=.ref D) rfl (fun s'' I'' zq=>?_) hf)
  obtain ⟨a,sb,ha⟩:=zq
  have hCa:cenv.locals≠a:=by
   rcases ha with rfl | ha
   ·exact f1
   ·exact Ne.symm (f4 y a ha)
  refine ⟨m,hn.sameBut sb hCa,fun h' sb'=>⟨_,H',I''.turned (t':=s''.toks) (fun b o hb e=>(sb'.2 b hb).trans e) f0 f1 f3 f4 f5,q⟩⟩
end
section
variable {K : W.Frag} {σ : St} {H : Hp} {Q : VK} {is : List Nat} {tt : TT} {te : TE}
def zB7 (K:W.Frag) (is:List Nat) (tt:TT) (te:TE) (σ:St) (Q:VK) (x:V) (H:Hp):Prop:=∃ a,x = .ref a/\(∃ xs,SqL K H a xs)/\zA2 is tt te σ Q (Itl K a) H
theorem zGe {tl:TE} (h:tl σ H (zB7 K is tt te σ Q)):zCb is (zFh K tl) tt te σ H Q:=h
def NxC (n:Nat) (Pv:Nat->List V->Hp->Prop) (i:Nat) (ys:List V) (H:Hp):Prop:=∃ m',m' < n - i/\m'=n - (i+1)/\i+1<=n/\Pv (i+1) ys H
theorem nxC {Pv:Nat->List V->Hp->Prop} {i:Nat} {ys:List V} (h:i < n) (p:Pv (i+1) ys H):NxC n Pv i ys H:=⟨_,by omega,rfl,h,p⟩
theorem zHm {s:St} {R:Bool->Hp->Prop} (h:R true H):zJU s H R:=h
theorem yr (hx:SqL K H a xs) (hz:xs.length<=sizeLine) (Pv:Nat->List V->Hp->Prop) (h0:Pv 0 [] H) (hl : ∀ i ys H,i<=xs.length->Pv i ys H->SqL K H a xs/\ys.length<=i)
  (hs : ∀ i x ys H,xs[i]? = some x->i < xs.length->Pv i ys H->tt (some x::is.map fun j=>(σ[j]?).getD none) H fun ok H2=>if ok=true then te (some x::is.map fun j=>(σ[j]?).getD none) H2 fun y H3=>NxC xs.length Pv i (ys++[y]) H3 else NxC xs.length Pv i ys H2)
  (hd : ∀ ys H,Pv xs.length ys H -> ∀ p H',zc H H'->H' p=some (.lst ys)->Q (.ref p) H'):zB7 K is tt te σ Q (.ref a) H:=by
 refine ⟨a,rfl,⟨xs,hx⟩,fun i m ys H=>m=xs.length - i/\i<=xs.length/\Pv i ys H,⟨xs.length,by simp,zero_le _,h0⟩,?_⟩
 rintro i m ys H ⟨rfl,hi,p⟩
 obtain ⟨q,ly⟩:=hl i ys H hi p
 refine ⟨by omega,?_⟩
 by_cases hlt:i < xs.length
 ·refine .inr ⟨⟨xs,xs[i],q,by simp [hlt]⟩,by omega,fun x H' y=>?_⟩
  obtain ⟨e,y⟩:=y
  subst e
  exact hs i x ys _ (y xs q) hlt p
 ·have e:i=xs.length:=by omega
  subst e
  exact .inl ⟨⟨xs,q,Nat.le_refl _⟩,fun p' hp=>hd ys H p p' _ (jB hp _) zK⟩
def zFM (is:List Nat) (tt:TT) (te:TE) (σ:St) (Q:VK) (vs:List V) (H:Hp):Prop:=∃ j:Int,vs=[.int j] /\ -(2 ^ 62)<=j/\j < 2 ^ 62/\zA2 is tt te σ Q (Itr 0 j.toNat) H
theorem zGt {ta:TA} (h:ta σ H (zFM is tt te σ Q)):zCb is (zGJ ta) tt te σ H Q:=h
theorem Kw (h1 : -(2 ^ 62)<=j) (h2:j < 2 ^ 62) (hz:j.toNat<=sizeLine) (Pv:Nat->List V->Hp->Prop) (h0:Pv 0 [] H) (hl : ∀ i ys H,i<=j.toNat->Pv i ys H->ys.length<=i)
  (hs : ∀ i ys H,i < j.toNat->Pv i ys H->tt (some (.int (0+i))::is.map fun j=>(σ[j]?).getD none) H fun ok H2=>if ok=true then te (some (.int (0+i))::is.map fun j=>(σ[j]?).getD none) H2 fun y H3=>NxC j.toNat Pv i (ys++[y]) H3 else NxC j.toNat Pv i ys H2)
  (hd : ∀ ys H,Pv j.toNat ys H -> ∀ p H',zc H H'->H' p=some (.lst ys)->Q (.ref p) H'):zFM is tt te σ Q [.int j] H:=by
 refine ⟨j,rfl,h1,h2,fun i m ys H=>m=j.toNat - i/\i<=j.toNat/\Pv i ys H,⟨j.toNat,by simp,zero_le _,h0⟩,?_⟩
 rintro i m ys H ⟨rfl,hi,p⟩
 have ly:=hl i ys H hi p
 refine ⟨by omega,?_⟩
 by_cases hlt:i < j.toNat
 ·refine .inr ⟨hlt,by omega,fun x H' y=>?_⟩
  obtain ⟨e,y⟩:=y
  subst e y
  exact hs i ys _ hlt p
 ·have e:i=j.toNat:=by omega
  subst e
  exact .inl ⟨Nat.le_refl _,fun p' hp=>hd ys H p p' _ (jB hp _) zK⟩
end
section
variable {K : W.Frag} {σ : St} {H : Hp} {Q : VK}
theorem zFv {r:V->Option Int->Option Int->Hp->VK->Prop} {te:TE} {tl th:TO} (h:te σ H fun x H1=>tl σ H1 fun l H2=>th σ H2 fun u H3=>r x l u H3 Q):tSl r te tl th σ H Q:=h
theorem zEP {R:Option Int->Hp->Prop} (h:R none H):zCy σ H R:=h
theorem zJh {t:TE} {R:Option Int->Hp->Prop} (h:t σ H fun x H1=>∃ i,x = .int i/\R (some i) H1):zJ1 t σ H R:=h
theorem zFr {R:Int->Prop} (h:R i) : ∃ k,V.int i = .int k/\R k:=⟨i,rfl,h⟩
theorem zK4 {lo hi:Option Int} (h:SqL K H a xs) (q : ∀ p H',zc H H'->H' p=some (.lst (YV xs lo hi))->Q (.ref p) H'):zLO K (.ref a) lo hi H Q:=⟨a,xs,rfl,h,fun p hp=>q p _ (jB hp _) zK⟩
theorem Qg {b:Addr} {zs:List V} (h1:H l=some (.lst xs)) (h2:H b=some (.lst zs)) (hz:xs.length+zs.length<=sizeLine) (q : ∀ p H',zc H H'->H' p=some (.lst (xs++zs))->Q (.ref p) H'):zC2 (.ref l) (.ref b) H Q:=
 ⟨l,b,xs,zs,rfl,rfl,h1,h2,hz,fun p hp=>q p _ (jB hp _) zK⟩
end
theorem zGY [Decidable c] (h1:c->Q (.int 1) H) (h2 : ¬ c->Q (.int 0) H):zGB [.bl (decide c)] H Q:=by
 by_cases h:c
 ·rw [decide_eq_true h];exact KY (h1 h)
 ·rw [decide_eq_false h];exact KY (h2 h)
set_option maxHeartbeats 400000
abbrev VEB:List Value:=[.type "ValueError", .type "Exception", .type "BaseException", .type "object"]
structure Exc (K:W.Frag) (C:Addr):Prop where
 ex:W.excIn K C VEB "ValueError.__new__" = true
 h1:W.findIn K (.ref C) "__getattribute__" = some (some (.builtin "BaseException.__getattribute__"))
 h2:W.findIn K (.ref C) "__getattr__" = some none
 hb:W.mroIn K C (.type "BaseException")=some true
 hd:W.hasDictIn K C=true
 ha:W.findIn K (.ref C) "__class__" = some (some (.builtin "object.__class__"))
 hn:W.specialIn K (.builtin "object.__class__") "__get__" = some (some (.builtin "getset_descriptor.__get__"))
 ht:W.takesIn K (.builtin "object.__class__")=some true
 hm:W.mroIn K C (.type "object")=some true
def V2 (x C:Addr) (h:Heap):Prop:=∃ o,h.get? x=some o/\o.cls = .ref C /\ ∃ vs,o.data = .fields vs
variable {C:Addr} {h h':Heap}
theorem V2.keep {x:Addr} (e:V2 x C h) (k : ∀ o,h.get? x=some o->h'.get? x=some o):V2 x C h':=let ⟨o,a,b⟩:=e;⟨o,k o a,b⟩
section
open PySem.W PySem.Calls Builtin Builtin.ObjectAttr Builtin.Getset_descriptor
variable {K : Frag} {x C : Addr} {M : Model} {h : Heap}
theorem V2.ty (e:V2 x C h):Looks M h (typeOf (.ref x)) (.ref C):=by
 obtain ⟨o,h1,h2,_⟩:=e
 rw [<- h2]
 exact (Looks.ld h1).andThen .now
theorem zGw {a g:Value} {name:Str} (X:K.In h) (h1:findIn K (.ref C) name=some (some a)) (h2:specialIn K a "__get__" = some (some g)) (h3:takesIn K a=some true):Looks M h (Builtin.ObjectAttr.find (.ref x) (.ref C) name) (.bind g a):=
 (looks_findIn X h1).andThen ((looks_specialIn X h2).andThen ((show Looks M h (Builtin.ObjectAttr.dataDescriptor? (some a) (some g)) (some (g,a)) from (looks_takesIn X h3).andThen .now).andThen (Looks.tag .now)))
variable {prog : Program} {w : World} {A : Around} {E : Value -> Shared -> Prop} {s : Shared}
end
def CXE (P:Program) (w:World):CXT:=fun outer H s E e s'=>∃ (x C:Addr) (a0:Value) (H':Hp) (B:Heap),e = .ref x/\s'.os=s.os/\AllBare s'.gens/\Heap.FlyingW B outer x (.ref C) a0 s'.heap /\
 (∀ h',B.StaysIn h'->s'.heap.UpToSlots h'->Un (frs outer) [] H H' s.heap h'/\HOk P w H' h')/\s.heap.get? x=none/\H' x=none/\E (.ref C) none H'
theorem jo.is (x:jo P w H h a o) : ∃ ob,h.get? a=some ob:=by
 cases o with
 | lst xs=>obtain ⟨_,_,_,_,e⟩:=x;exact ⟨_,e⟩
 | tup xs=>obtain ⟨_,_,_,ob,e,_⟩:=x;exact ⟨_,e⟩
 | dK kvs=>obtain ⟨_,_,_,_,ob,_,_,e,_⟩:=x;exact ⟨_,e⟩
 | dT kvs=>obtain ⟨_,_,_,_,ob,_,_,e,_⟩:=x;exact ⟨_,e⟩
 | set S n=>first | (obtain ⟨ob,e,_⟩:=x;exact ⟨_,e⟩) | (obtain ⟨ob,es,e,_⟩:=x;exact ⟨_,e⟩) | (obtain ⟨ob,es,ep,e,_⟩:=x;exact ⟨_,e⟩) | (obtain ⟨ob,es,ep,z,e,_⟩:=x;exact ⟨_,e⟩)
 | ins C dx fs=>obtain ⟨_,_,_,e,_⟩:=x;exact ⟨_,e⟩
 | own y=>exact x
 | xd fs=>obtain ⟨_,⟨ob,_,_,e,_⟩,_⟩:=x;exact ⟨_,e⟩
 | met f y=>exact ⟨_,x⟩
 | rng lo hi=>obtain ⟨_,_,_,e⟩:=x;exact ⟨_,e⟩
 | frz o u=>exact ⟨_,x.1⟩
 | tbl ps=>exact ⟨_,x⟩
 | ext φ=>exact x.2.1
section
variable {P : Program} {w : World} {K : W.Frag} {mg : Str -> Option Value} {base : Heap} {N : List Str} {qual : Str} {scope : Scope} {f : Addr} {cd : Value} {A : Around} {outer : List Env} {s : Shared} {H : Hp} {E : XK}
theorem XV {pins:List (Addr × Obj)} {σ:St} {H1:Hp} {s1:Shared} {x:Addr} {args:List Value}
  (I:Inv (QX (CXE P w) P w K mg base N qual scope f cd A outer s H E) pins σ H1 s1) (hm:Heap.MadeExcOf s1.heap h' x (.ref C) args) (q:E (.ref C) none H1) :
  (QX (CXE P w) P w K mg base N qual scope f cd A outer s H E).xe (.ref x) { s1 with heap:=h' }:=by
 have hst : ∀ b ∈ frs (envOfC qual scope s.heap.objs.size f cd::outer),H1 b=none:=I.stkFree
 have hin : ∀ env ∈ (envOfC qual scope s.heap.objs.size f cd::outer),∀ b,env.frame=some b->b ∈ frs (envOfC qual scope s.heap.objs.size f cd::outer):=fun env he b hb=>List.mem_filterMap.mpr ⟨env,he,hb⟩
 have FF:s1.heap.FunFrames base (envOfC qual scope s.heap.objs.size f cd::outer):=I.stack
 have old : ∀ b o,s.heap.get? b=some o->b≠s.heap.objs.size:=fun b o e=>ne_of_lt (Heap.lt_size e)
 have sub : ∀ b,b ∈ frs (envOfC qual scope s.heap.objs.size f cd::outer)->b=s.heap.objs.size\/b ∈ frs outer:=fun b hb=>List.mem_cons.mp (I.stkSub b hb)
 refine wpAny_leaves_madeW (base:=W.hideAll s1.heap (frs (envOfC qual scope s.heap.objs.size f cd::outer))) I.ok.frames rfl (fun b o e=>W.of_hideAll _ e) (W.funFrames_hide FF hin) hm fun h2 t f1 f2 f3 f4=>?_
 refine ⟨x,C,.ref t,H1,_,rfl,I.os,I.bare,f1,fun h3 st sm=>?_,?_,?_,q⟩
 ·have here : ∀ b o,s1.heap.get? b=some o->b ∉ frs (envOfC qual scope s.heap.objs.size f cd::outer)->h3.get? b=some o:=fun b o e n=>st b o (W.hideAll_get _ e n)
  have fram : ∀ b o,s1.heap.get? b=some o->b ∈ frs (envOfC qual scope s.heap.objs.size f cd::outer) -> ∃ sl,h3.get? b=some { o with slots:=sl }:=fun b o e m=>by
   obtain ⟨_,o',e',nf⟩:=FF.mem m
   have z:o'=o:=Option.some.inj (e'.symm.trans e)
   subst z
   obtain ⟨sl,e2⟩:=f4 b o' (hm.keeps b o' e) nf
   obtain ⟨sl',e3⟩:=sm b _ e2 nf
   exact ⟨sl',e3⟩
  refine ⟨⟨fun b o e n hb hx=>?_,fun b o e n hb hx=>?_,fun b o e n hx=>I.base.free b o e n hx,fun b o e hx=>?_,I.base.tups,I.base.frzs,I.base.tbls⟩,fun a u e=>?_⟩
  ·exact here b o (I.base.keep b o e n hb hx) fun z=>(sub b z).elim (old b o e) hb
  ·obtain ⟨sl,e1⟩:=I.base.slot b o e n hb hx
   have mem:b ∈ frs (envOfC qual scope s.heap.objs.size f cd::outer):=by
    show b ∈ List.filterMap _ _
    rw [List.filterMap_cons]
    exact List.mem_cons_of_mem _ hb
   obtain ⟨sl',e2⟩:=fram b _ e1 mem
   exact ⟨sl',e2⟩
  ·obtain ⟨o',e1⟩:=I.base.there b o e hx
   by_cases mem:b ∈ frs (envOfC qual scope s.heap.objs.size f cd::outer)
   ·obtain ⟨sl,e2⟩:=fram b o' e1 mem
    exact ⟨_,e2⟩
   ·exact ⟨o',here b o' e1 mem⟩
  ·refine (I.hok a u e).stay (fun b ob hb eb=>here b ob eb fun z=>?_) (fun _ z=>z) (fun _ _ z=>z)
   have:=hst b z
   rcases hb with rfl | hb
   ·rw [e] at this;cases this
   ·rw [hb] at this;cases this
 ·cases z:s.heap.get? x with
  | none=>rfl
  | some o =>
   obtain ⟨o',e1⟩:=I.base.there x o z (fun h=>nomatch h)
   have:=hm.new
   rw [e1] at this;cases this
 ·cases z:H1 x with
  | none=>rfl
  | some o =>
   obtain ⟨ob,e1⟩:=(I.hok x o z).is
   have:=hm.new
   rw [e1] at this;cases this
end
theorem zFz (X:K.In h) (c:Exc K C) : ∃ tl N nm q bs hdct sn sub ab col dd k0 k1 k2 k3 k5 mN,
  h.get? C=some (excClassObj nm q C N bs tl hdct sn sub ab col dd k0 k1 k2 k3 k5 "ValueError.__new__")/\h.Ns N mN/\mN "__init__" = none/\OwnTail h VEB tl:=by
 refine Classical.byContradiction fun ng=>?_
 have q:=c.ex
 clear c
 unfold W.excIn at q
 generalize ho:K.lookup C=o at q
 rcases o with _ | ⟨ty,dd,da,sl⟩
 ·cases q
 cases ty <;> first | (exact absurd q Bool.false_ne_true) | skip
 rename_i tn
 by_cases ht:tn = "type"
 ·subst ht
  cases da <;> first | (exact absurd q Bool.false_ne_true) | skip
  rename_i cd
  obtain ⟨nm,bs,mro,ns,qn,hdc,sn,sub,ab,col,del⟩:=cd
  cases sl with | mk l =>
  rcases mro with _ | ⟨m,bm⟩
  ·exact absurd q Bool.false_ne_true
  cases m <;> first | (exact absurd q Bool.false_ne_true) | skip
  rcases l with _ | ⟨k0,_ | ⟨k1,_ | ⟨k2,_ | ⟨k3,_ | ⟨_ | k4,l⟩⟩⟩⟩⟩ <;> first | (exact absurd q Bool.false_ne_true) | skip
  cases k4 <;> first | (exact absurd q Bool.false_ne_true) | skip
  rcases l with _ | ⟨k5,_ | ⟨k6,l⟩⟩ <;> first | (exact absurd q Bool.false_ne_true) | skip
  have q:(_ && _)=true:=q
  simp only [Bool.and_eq_true,beq_iff_eq,Bool.not_eq_true'] at q
  obtain ⟨⟨⟨⟨⟨z1,z2⟩,hdel⟩,ht⟩,hok⟩,hni⟩:=q
  subst z1 z2 hdel
  exact ng ⟨bm,ns,nm,qn,bs,hdc,sn,sub,ab,col,dd,k0,k1,k2,k3,k5,h.nsMap ns,X _ _ ho,.of_isNs (W.isNs_of_in X hok),W.nsMap_none_of_in X hok hni,W.tail_of_in X ht⟩
 ·unfold W.excIn.match_6 W.nsOkIn._sparseCasesOn_4 W.excIn._sparseCasesOn_6 at q
  dsimp only at q
  rw [dif_neg ht] at q
  cases q
def zGd (X:Cx) (E:XK):Prop:=∀ (pins:List (Addr × Obj)) (σ:St) (H:Hp) (s:Shared) (h':Heap) (x C:Addr) (args:List Value),Inv X pins σ H s->Heap.MadeExcOf s.heap h' x (.ref C) args->E (.ref C) none H->X.xe (.ref x) { s with heap:=h' }
def zFJ (C:Addr) (E:XK) (t:TA):TS:=fun _ σ H=>t σ H fun vs H1=>vs.length<=sizeLine/\E (.ref C) none H1
variable {E:XK}
theorem WL {np cpos:Pos} {e:Expr} (tk:zGd X E) (hc:X.calm=true) (c:Exc X.K C) (hg:Gl X x) (hm:X.mg x=some (.ref C)) (ha:PA X (e::es) t)
  (hdb:(x == ("__debug__" : Str))=false:=by decide) (he:starEach (e::es) X.env=(false,eval e X.env)::starEach es X.env:=by rfl) (hpl:(backTo cpos (starEach es X.env)).any (·.1)=false:=by rfl) :
  PS X (.Raise (some (.Call (.Name x np) (e::es) [] cpos)) none pos) (zFJ C E t):=by
 intro pins s σ H D I h
 obtain ⟨tl,N,nm,q,bs,hdct,sn,sub,ab,col,dd,k0,k1,k2,k3,k5,mN,hC,hN,hni,T⟩:=zFz I.ok.mod.kin c
 refine wpAny_Raise_call_subT (C:=C) (bm:=tl) (mN:=mN) (N:=N) (nm:=nm) (q:=q) (bs:=bs) (hdct:=hdct) (sn:=sn) (sub:=sub) (ab:=ab) (col:=col) (dd:=dd) (k0:=k0) (k1:=k1) (k2:=k2) (k3:=k3) (k5:=k5) PySem.F.excBase_ValueError (T.hasType PySem.F.excBase_ValueError.hasBase) (I.ok.hd hc) (by rw [he];show (false || (backTo cpos (starEach es X.env)).any (·.1))=false;rw [hpl];rfl) hni (jr I hg hm ⟨rfl,?_⟩ hdb)
 have z:=ha cpos pins s σ H _ I h
 rw [he] at z ⊢
 refine Calls.evalArgs_plain (thn z fun us s1 zq=>?_)
 obtain ⟨vs,H1,I1,r,hl,qe⟩:=zq
 have hv:us.length<=sizeLine:=by rw [<- r.length];exact hl
 exact ⟨rfl,hv,I1.bk _ _ hC,hN.keeps I1.bk,T.keeps I1.bk,fun h' y hm'=>tk pins σ H1 s1 h' y C us I1 hm' qe⟩
def zLv (P:Program) (w:World) (K:W.Frag) (mg:Str->Option Value) (base:Heap) (x:Str) (k:Nat) (ps:List Str) (sp:Sp):Prop:=
 ∃ (f:Addr) (fd:FuncData),xx P w K mg base (CXE P w) k f fd ps sp/\mg x=some (.ref f)/\W.keepIn K (.ref f)=true/\jx K fd ps []
def XP (X:Cx) (pins:List (Addr × Obj)) (σ:St) (E:XK) (e:Value) (s':Shared):Prop:=∃ H1 s1,Inv X pins σ H1 s1/\CXE X.prog X.w X.stack H1 s1 E e s'
def Cx.inExc (X:Cx) (x:Addr):Cx:={ X with A:=X.A.mark (some (.ref x)),calm:=false,xe:=fun _ _=>False }
section
variable {X : Cx} {pins : List (Addr × Obj)} {σ : St} {H : Hp} {s : Shared}
theorem Cx.Ok.inExc (ok:X.Ok) (x:Addr):(X.inExc x).Ok:=
 ⟨ok.mod,ok.kind,ok.glob,ok.blt,ok.above,ok.inj,ok.has,ok.cab,(fun z=>nomatch z),ok.frames,ok.stk,ok.exf,ok.bs,ok.bsz,ok.noex,ok.exfs,ok.funs,ok.frf⟩
theorem Inv.inExc (I:Inv X pins σ H s) (x:Addr):Inv (X.inExc x) pins σ H s:=⟨I.ok.inExc x,I.os,I.bare,I.base,I.loc,I.cell,I.free,I.freeC,I.pin,I.hok,I.len⟩
theorem Inv.outExc {x:Addr} (ok:X.Ok) (I:Inv (X.inExc x) pins σ H s):Inv X pins σ H s:=⟨ok,I.os,I.bare,I.base,I.loc,I.cell,I.free,I.freeC,I.pin,I.hok,I.len⟩
theorem Inv.track2 (I:Inv X pins σ H s) (f0:H a=none) (f1:a≠X.env.locals) (f3 : ∀ ob,X.s₀.heap.get? a≠some ob) (f4 : ∀ x c,X.env.cells.lookup x=some c->c≠a) (f5 : ∀ p ∈ X.pn++pins,p.1≠a)
  (new:jo X.prog X.w (upd H a o) s.heap a o):Inv X pins σ (upd H a o) s:=by
 have up : ∀ b,H b=none->b≠a->upd H a o b=none:=fun b e n=>by rw [zf n];exact e
 have st : ∀ {b u},H b=some u->upd H a o b=some u:=fun {b u} e=>by rw [zf (zg e f0)];exact e
 refine ⟨I.ok,I.os,I.bare,⟨I.base.keep,I.base.slot,fun b ob e n hx=>up b (I.base.free b ob e n hx) (fun z=>f3 ob (z ▸ e)),I.base.there,fun b xs e=>st (I.base.tups b xs e),fun b ob u e=>st (I.base.frzs b ob u e),fun b ps e=>?_⟩,I.loc,I.cell,up _ I.free (Ne.symm f1),fun x c e=>up c (I.freeC x c e) (f4 x c e),fun p hp=>?_,I.hok.track f0 new,I.len⟩
 ·obtain ⟨m,q⟩:=I.base.tbls b ps e
  exact ⟨m,st q⟩
 ·obtain ⟨e,n,r⟩:=I.pin p hp
  exact ⟨e,up _ n (f5 p hp),r⟩
theorem Inv.renamed {m':Str->Option Value} {t':Nat} (I:Inv X pins σ H s) (hs:Heap.SameBut X.env.locals s.heap h') (hn:h'.Ns X.env.locals m'):Inv X pins (List.replicate σ.length none) H { s with heap:=h',toks:=t' }:=by
 have ne0 : ∀ b o,X.s₀.heap.get? b=some o->b≠X.env.locals:=fun b o e=>ne_of_lt (lt_of_lt_of_le (Heap.lt_size e) I.ok.above)
 have at' : ∀ b o,b≠X.env.locals->s.heap.get? b=some o->h'.get? b=some o:=fun b o n e=>(hs.2 b n).trans e
 refine ⟨I.ok,I.os,I.bare,⟨fun b o e n hb hx=>at' b o (ne0 b o e) (I.base.keep b o e n hb hx),fun b o e n hb hx=>?_,I.base.free,fun b o e hx=>?_,I.base.tups,I.base.frzs,I.base.tbls⟩,⟨m',hn,fun i x v _ e _=>?_⟩,fun x c e=>?_,I.free,I.freeC,fun p hp=>?_,fun a u e=>?_,?_⟩
 ·obtain ⟨sl,e1⟩:=I.base.slot b o e n hb hx
  exact ⟨sl,at' b _ (ne0 b o e) e1⟩
 ·obtain ⟨o',e1⟩:=I.base.there b o e hx
  exact ⟨o',at' b o' (ne0 b o e) e1⟩
 ·rw [List.getElem?_replicate] at e
  split at e <;> simp at e
 ·obtain ⟨v,o,ho,hd⟩:=I.cell x c e
  exact ⟨v,o,at' c o (I.cne x c e) ho,hd⟩
 ·obtain ⟨e,n,ne,r⟩:=I.pin p hp
  exact ⟨at' _ _ ne e,n,ne,r⟩
 ·refine (I.hok a u e).stay (fun b ob hb eb=>at' b ob (fun z=>?_) eb) (fun _ z=>z) (fun _ _ z=>z)
  have:=I.free
  rw [<- z] at this
  rcases hb with rfl | hb
  ·rw [e] at this;cases this
  ·rw [hb] at this;cases this
 ·rw [List.length_replicate];exact I.len
end
section
variable {X : Cx} {H : Hp} {Q : VK} {K : W.Frag}
theorem VN : ∀ {Ds:List Addr} {us:List Value},qM (Ds.map V.ref) us->us=Ds.map Value.ref
 | [],_,.nil=>rfl
 | D::Ds,_,.cons r t=>by cases r;rw [VN t];rfl
theorem Fun.okX {base:Heap} {qual:Str} {st:Stmt} {f:Addr} {N:List Str} (F:Fun K x qual st f fd) (S:zN N ps (zG st)) (len : ∀ vs H Q E,sp vs H Q E->vs.length=ps.length)
  (hbody : ∀ (cdv:Value) (A:Around) (outer:List Env) (s:Shared) (H:Hp) (vs:List V) (Q:VK) (E:XK),j5 k (A.deeper (envOfC qual (zG st) s.heap.objs.size f cdv))->sp vs H Q E ->
   zGd (QX (CXE P w) P w K mg base N qual (zG st) f cdv A outer s H E) E -> ∃ t,PSs (QX (CXE P w) P w K mg base N qual (zG st) f cdv A outer s H E) (z6 st) t/\t { nx:=fun _ H'=>Q .non H',rt:=Q } (start N vs) H):xx P w K mg base (CXE P w) (k+1) f fd ps sp:=by
 obtain ⟨oc,od,kV,doc,pm,an,cdv,ct,osl,rfl,lk,hcd⟩:=F.ex
 exact zCD lk hcd S len fun A outer s H vs Q E hr hsp=>hbody cdv A outer s H vs Q E hr hsp fun pins σ H s h' x C args I hm q=>XV I hm q
theorem xx.calm {base:Heap} {f:Addr} (F:xx P w K mg base (CXE P w) k f fd ps sp):xx P w K mg base CX0 k f fd ps (fun vs H Q _=>sp vs H Q E0):=
 ⟨fun vs H Q _ h=>F.len vs H Q E0 h,fun A outer s H args us vs Q _ hr he hb hv hs=>codeAny_mono (F.run A outer s H args us vs Q E0 hr he hb hv hs) fun r s' hq=>by
  cases r with
  | ok fl=>cases fl <;> exact hq
  | error e =>
   obtain ⟨_,_,_,_,_,_,_,_,_,_,_,_,z⟩:=hq
   exact z.elim⟩
end
section
variable {X : Cx} {H : Hp} {Q : VK} {K : W.Frag} {σ : St} {pos p1 p2 : Pos} {n1 n2 : Nat} {a b : Int}
def zEZ (p:Addr):HO:=.ext (W.KitAt p "dict")
theorem zIP {p:Addr} {o:Obj} (e:h.get? p=some o) (c:o.cls = .type "dict"):jo P w H h p (zEZ p):=
 ⟨⟨o,e,c⟩,⟨o,e⟩,fun _ _ ⟨o,x,y⟩ k=>⟨o,k o x,y⟩⟩
def zLa:TE:=fun _ H Q=>∀ p H',zc H H'->H' p=some (zEZ p)->Q (.ref p) H'
theorem zFt:PE X (.Dict [] [] pos) zLa:=fun pins s σ H Q I h =>
 wpAny_Dict_empty ⟨.ref s.heap.objs.size,_,I.laid (a:=s.heap.objs.size) (o:=zEZ s.heap.objs.size) (t':=s.toks) (fun _ _ q=>Heap.get?_push_of_some _ q) (Nat.le_refl _) (zIP (Heap.get?_push_size _ rfl) rfl),rfl,h _ _ (jB I.fresh _) zK⟩
theorem zKR (h : ∀ p H',zc H H'->H' p=some (zEZ p)->Q (.ref p) H'):zLa σ H Q:=h
inductive Odd (H:Hp):V->Prop where
 | non:Odd H .non
 | bl (b:Bool):Odd H (.bl b)
 | str (x:Str):Odd H (.str x)
 | lst {p:Addr} {xs:List V} (e:H p=some (.lst xs)):Odd H (.ref p)
 | tup {p:Addr} {xs:List V} (e:H p=some (.tup xs)):Odd H (.ref p)
 | dct {p:Addr} (e:H p=some (zEZ p)):Odd H (.ref p)
theorem Odd.same {v:V} (h:Odd H v) (g:zc H H'):Odd H' v:=by
 cases h with
 | non=>exact .non
 | bl b=>exact .bl b
 | str x=>exact .str x
 | lst e=>exact .lst (g _ _ e)
 | tup e=>exact .tup (g _ _ e)
 | dct e=>exact .dct (g _ _ e)
def Xe (K:W.Frag):List V->Hp->VK->Prop:=fun xs H Q=>zE7 K xs H Q \/ ∃ p T b,xs=[.ref p,.ty T]/\H p=some (zEZ p)/\W.kitOne K (.type "dict") (.type T)=some b/\Q (.bl b) H
theorem zCY:jC X (.builtin "isinstance") (Xe X.K):=by
 refine jC.or ZI ?_
 intro pins s σ H xs us Q I r h
 obtain ⟨p,T,b,rfl,hp,e,q⟩:=h
 obtain ⟨v,w,rfl,rx,rw'⟩:=Y1 r
 cases rx;cases rw'
 exact W.kia_one W.kitx_dict I.kIn (I.hok p _ hp).1 e (fun z=>nomatch z) fun tk=>⟨.bl b,H,I.tok _,rfl,q⟩
theorem ZD {T:String} {b:Bool} (e:W.kitOne K (.type "int") (.type T)=some b) (q:Q (.bl b) H):Xe K [.int i,.ty T] H Q:=.inl (Xl (.int i) ⟨_,.inl rfl⟩ e q)
theorem kS {i:Bool} {T:String} {b:Bool} (e:W.kitOne K (.type "bool") (.type T)=some b) (q:Q (.bl b) H):Xe K [.bl i,.ty T] H Q:=.inl (Xl (.bl i) ⟨_,.inl rfl⟩ e q)
theorem ZC {T:String} {b:Bool} (e:W.kitOne K (.type "str") (.type T)=some b) (q:Q (.bl b) H):Xe K [.str x,.ty T] H Q:=.inl (Xl (.str x) ⟨_,.inl rfl⟩ e q)
theorem ZJ {T:String} {b:Bool} (e:W.kitOne K (.type "NoneType") (.type T)=some b) (q:Q (.bl b) H):Xe K [.non,.ty T] H Q:=.inl (Xl .non ⟨_,.inl rfl⟩ e q)
theorem ZE {p:Addr} {T:String} {b:Bool} (h:H p=some (.lst xs)) (e:W.kitOne K (.type "list") (.type T)=some b) (q:Q (.bl b) H):Xe K [.ref p,.ty T] H Q:=.inl (Xl (.lst h) ⟨_,.inl rfl⟩ e q)
theorem ZL {p:Addr} {T:String} {b:Bool} (h:H p=some (.tup xs)) (e:W.kitOne K (.type "tuple") (.type T)=some b) (q:Q (.bl b) H):Xe K [.ref p,.ty T] H Q:=.inl (Xl (.tup h) ⟨_,.inl rfl⟩ e q)
theorem ZH {p:Addr} {T:String} {b:Bool} (h:H p=some (zEZ p)) (e:W.kitOne K (.type "dict") (.type T)=some b) (q:Q (.bl b) H):Xe K [.ref p,.ty T] H Q:=.inr ⟨p,T,b,rfl,h,e,q⟩
theorem Odd.int {v:V} (h:Odd H v) (q1:Q (.bl true) H) (q0:Q (.bl false) H):Xe K [v,.ty "int"] H Q:=by
 cases h with
 | non=>exact ZJ (kI K) q0
 | bl b=>exact kS (Qx K) q1
 | str x=>exact ZC (Jg K) q0
 | lst e=>exact ZE e (Q8 K) q0
 | tup e=>exact ZL e (QF K) q0
 | dct e=>exact ZH e (Q5 K) q0
theorem zBl {D:Z9} (h:t σ H fun vs H1=>vs.length<=sizeLine/\E (.ref C) none H1):zFJ C E t D σ H:=h
theorem Ym:bootBuiltins "ValueError" = some (.type "ValueError"):=by decide +kernel
def Nm (K:W.Frag) (x:Str) (C:Addr):Prop:=W.nsIn K mainGlobals x=some (some (.ref C))
theorem Nm.eq {C':Addr} (h:Nm K x C) (h':Nm K x C'):C=C':=by
 have:=h.symm.trans h'
 cases this;rfl
variable {env:Env}
theorem zY {c:Const}:starEach (.Constant c n p::es) env=(false,eval (.Constant c n p) env)::starEach es env:=rfl
theorem qS:starEach (.Name x p::es) env=(false,eval (.Name x p) env)::starEach es env:=rfl
theorem zGV {f:Expr} {as:List Expr} {ks:List Keyword}:starEach (.Call f as ks p::es) env=(false,eval (.Call f as ks p) env)::starEach es env:=rfl
theorem zD2 {es':List Expr}:starEach (.Tuple es' k p::es) env=(false,eval (.Tuple es' k p) env)::starEach es env:=rfl
theorem zHD {es':List Expr}:starEach (.List es' p::es) env=(false,eval (.List es' p) env)::starEach es env:=rfl
theorem zGR {ks:List (Option Expr)} {vs:List Expr}:starEach (.Dict ks vs p::es) env=(false,eval (.Dict ks vs p) env)::starEach es env:=rfl
theorem qB {a b:Expr}:starEach (.Subscript a b p::es) env=(false,eval (.Subscript a b p) env)::starEach es env:=rfl
theorem zAY {a:Expr} {os:List CmpOp} {bs:List Expr}:starEach (.Compare a os bs p::es) env=(false,eval (.Compare a os bs p) env)::starEach es env:=rfl
theorem zG5 {T:String} {r:V->List V->Hp->VK->Prop} {to:TE} (h:to σ H fun x H1=>tyV K T x H1/\t σ H1 fun xs H2=>r x xs H2 Q):tBM K T r to t σ H Q:=h
theorem zFH {p:Addr} {R:Prop} (h:SqL K H p xs) (q:R):tyV K "list" (.ref p) H/\R:=⟨.inl ⟨rfl,_,h⟩,q⟩
theorem ZG {y:V} (h:H l=some (.lst xs)) (h2:xs.length < sizeLine) (q:Q .non (upd H l (.lst (xs++[y])))):zCj (.ref l) [y] H Q:=⟨l,xs,y,rfl,rfl,h,h2,q⟩
def SB (r:Addr) (H F:Hp):Prop:=∀ b o,b≠r->H b=some o->F b=some o
variable {r:Addr}
theorem SB.then {F G:Hp} (h:SB r H F) (g:zc F G):SB r H G:=fun b u n e=>g _ _ (h b u n e)
theorem SB.refl:SB r H H:=fun _ _ _ e=>e
theorem SB.same {F:Hp} (h:SB r H F) (n:H r=none):zc H F:=fun b o e=>h b o (zg e n) e
end
section
variable {X : Cx} {H : Hp} {Q : VK} {K : W.Frag}
def zCH:R2:=fun x y H Q=>∃ i j:Str,x = .str i/\y = .str j/\i.length+j.length<=sizeLine/\Q (.str (i++j)) H
theorem jR:OpR X (binaryOp .Add) zCH:=We
theorem zJO {i j:Str} (hz:i.length+j.length<=sizeLine) (q:Q (.str (i++j)) H):zCH (.str i) (.str j) H Q:=⟨i,j,rfl,rfl,hz,q⟩
variable {z:Str}
theorem zJV {c:Nat} (hz:z.length<=sizeLine) (e:atI z.cps.toList i=some c) (q:Q (.str ⟨#[c]⟩) H):zEx (.str z) (.int i) H Q:=⟨z,i,c,rfl,rfl,hz,e,q⟩
def zD1:List V->Hp->VK->Prop:=fun xs H Q=>∃ z:Str,xs=[.str z]/\z.length<=sizeLine/\Q (.int z.length) H
theorem jG:jC X (.builtin "len") zD1:=VR
theorem zJn (hz:z.length<=sizeLine) (q:Q (.int z.length) H):zD1 [.str z] H Q:=⟨z,rfl,hz,q⟩
def zKH:R2:=fun x y H Q=>∃ i j:Str,x = .str i/\y = .str j/\Q (.bl (!(Builtin.Str.occurrences j i 0 j.length 1).isEmpty)) H
theorem zEo:OpR X (compareOp .In) zKH:=zA8
theorem zKU {i j:Str} (q:Q (.bl (!(Builtin.Str.occurrences j i 0 j.length 1).isEmpty)) H):zKH (.str i) (.str j) H Q:=⟨i,j,rfl,rfl,q⟩
theorem zFO {i j:Str} (q:Q (.bl (decide (i=j))) H):rEq (.str i) (.str j) H Q:=zAL rfl q
theorem zDF (q:Q (.bl true) H):zE7 K [.str x,.ty "str"] H Q:=Xl (.str x) ⟨_,.inl rfl⟩ (J0 K) q
def zEj:V->Option Int->Option Int->Hp->VK->Prop:=fun x lo hi H Q=>∃ z:Str,x = .str z/\z.length<=sizeLine/\Q (.str (Txt.slice z lo hi)) H
theorem xl:SlR X zEj:=by
 intro pins s σ H x v vl vu lo hi sl Q I rx hs pl pu h
 obtain ⟨z,rfl,hz,q⟩:=h
 obtain ⟨t,rfl⟩:=rx
 refine ⟨"str", _,PySem.F.slot_str_getitem.lookup,typeIs_str _ _ _,?_⟩
 have fin : ∀ (t':Tok) (k:Nat),EP X pins σ Q (.str (Txt.slice z lo hi) t') { s with toks:=k }:=fun t' k=>⟨.str _,H,I.tok _,⟨t',rfl⟩,q⟩
 have le:=le_trans (Txt.slice_le z lo hi) hz
 cases pl <;> cases pu
 ·exact wpAny_getItem_str_slice (l:=none) (u:=none) (st:=none) hs rfl (post_val_or_str ⟨le,fin⟩)
 ·exact wpAny_getItem_str_slice (l:=none) (u:=some (_,_)) (st:=none) hs rfl (post_val_or_str ⟨le,fin⟩)
 ·exact wpAny_getItem_str_slice (l:=some (_,_)) (u:=none) (st:=none) hs rfl (post_val_or_str ⟨le,fin⟩)
 ·exact wpAny_getItem_str_slice (l:=some (_,_)) (u:=some (_,_)) (st:=none) hs rfl (post_val_or_str ⟨le,fin⟩)
theorem zGx {lo hi:Option Int} (hz:z.length<=sizeLine) (q:Q (.str (Txt.slice z lo hi)) H):zEj (.str z) lo hi H Q:=⟨z,rfl,hz,q⟩
end
abbrev Lt (x:Str):List Nat:=x.cps.toList
def T (l:List Nat):Str:=⟨l.toArray⟩
theorem Xr (l:List Nat):Lt (T l)=l:=rfl
theorem ZY (x:Str):T (Lt x)=x:=by cases x;simp [T,Lt]
variable {y:Str}
theorem YL (h:Lt x=Lt y):x=y:=by rw [<- ZY x,<- ZY y,h]
theorem zKB {a b:List Nat}:T a=T b↔a=b:=⟨fun h=>by have:=congrArg Lt h;rwa [Xr,Xr] at this,fun h=>by rw [h]⟩
theorem zJB (x:Str):x.length=(Lt x).length:=rfl
theorem zKw (x y:Str):x++y=T (Lt x++Lt y):=YL (by rw [Xr];show (x.cps++y.cps).toList=_;simp)
theorem ka {a b:List Nat} {i:Nat} (h:i < a.length):(a++b).getD i 0=a.getD i 0:=by
 rw [getD_eq_getElem?_getD,getD_eq_getElem?_getD,List.getElem?_append_left h]
theorem zCB {a b:List Nat} {i:Nat} (h:a.length<=i):(a++b).getD i 0=b.getD (i - a.length) 0:=by
 rw [getD_eq_getElem?_getD,getD_eq_getElem?_getD,List.getElem?_append_right h]
theorem zCI (l:List Nat) (a:Nat) : ∀ m:Nat,(List.range m).filterMap (fun k=>l[a+k]?)=(l.drop a).take m
 | 0=>by simp
 | m+1=>by
  rw [List.range_succ,List.filterMap_append,zCI l a m,List.take_succ]
  congr 1
  rw [List.getElem?_drop]
  rw [List.filterMap_cons]
  cases l[a+m]? <;> rfl
def cl (n d:Nat):Option Int->Nat
 | none=>d
 | some i=>(max 0 (min (if i < 0 then i+n else i) (n:Int))).toNat
theorem KP (z:Str) (lo hi:Option Int):Txt.slice z lo hi=T (((Lt z).take (cl (Lt z).length (Lt z).length hi)).drop (cl (Lt z).length 0 lo)):=by
 have e:Builtin.Str.strSliceIndices lo hi 1 z.length=(List.range (cl (Lt z).length (Lt z).length hi - cl (Lt z).length 0 lo)).map (fun x=>cl (Lt z).length 0 lo+x):=by
  rw [<- sliceRange_one]
  unfold Builtin.Str.strSliceIndices
  cases lo <;> cases hi <;> simp [cl,zJB,Int.toNat_of_nonneg,Int.le_max_left]
 have k:(List.filterMap (fun x=>z.cps[x]?) (Builtin.Str.strSliceIndices lo hi 1 z.length))=((Lt z).take (cl (Lt z).length (Lt z).length hi)).drop (cl (Lt z).length 0 lo):=by
  rw [e,List.filterMap_map]
  have f:((fun x=>z.cps[x]?) ∘ fun x=>cl (Lt z).length 0 lo+x)=fun k=>(Lt z)[cl (Lt z).length 0 lo+k]?:=by funext k;simp [Lt]
  rw [f,zCI,List.drop_take]
 unfold Txt.slice
 split
 ·rename_i h
  have hl:(Builtin.Str.strSliceIndices lo hi 1 z.length).length=(Lt z).length:=(by simpa using h:_=z.length)
  rw [e,length_map,List.length_range] at hl
  have b1:cl (Lt z).length (Lt z).length hi<=(Lt z).length:=by
   unfold cl;split <;> omega
  rcases eq_zero_or_pos (Lt z).length with p | p
  ·rw [List.eq_nil_of_length_eq_zero p];simp
   exact YL (List.eq_nil_of_length_eq_zero p)
  ·rw [show cl (Lt z).length 0 lo=0 by omega,show cl (Lt z).length (Lt z).length hi=(Lt z).length by omega,take_length,drop_zero,ZY]
 ·rw [k];rfl
section
variable {X : Cx} {H : Hp} {Q : VK} {K : W.Frag}
theorem zCl (hz:(Lt x).length+(Lt y).length<=16777216) (q:Q (.str (T (Lt x++Lt y))) H):zCH (.str x) (.str y) H Q:=zJO hz (by rw [zKw];exact q)
variable {z:Str}
theorem zE1 (hz:(Lt z).length<=16777216) (q:Q (.int (Lt z).length) H):zD1 [.str z] H Q:=zJn hz q
theorem zC6 (hz:(Lt z).length<=16777216) (h0:0<=i) (h1:i < (Lt z).length) (q:Q (.str (T [(Lt z).getD i.toNat 0])) H):zEx (.str z) (.int i) H Q:=by
 refine zJV (c:=(Lt z).getD i.toNat 0) hz ?_ q
 unfold atI ixN
 rw [if_pos h0,if_pos h1]
 show (Lt z)[i.toNat]? = _
 rw [getD_eq_getElem?_getD,getElem?_eq_getElem (by omega)];rfl
theorem zCU (n:Nat) (hn:(Lt z).length=n) (hz:n<=16777216) (h0:0<=i) (h1:i < n) (q : ∀ c,c ∈ Lt z->Q (.str (T [c])) H):zEx (.str z) (.int i) H Q:=by
 refine zC6 (by omega) h0 (by omega) (q _ ?_)
 rw [getD_eq_getElem?_getD,getElem?_eq_getElem (by omega)]
 exact List.getElem_mem _
theorem zJ4 (hz:(Lt z).length<=16777216) (h1:0 < (Lt z).length) (q:Q (.str (T [(Lt z).getD ((Lt z).length - 1) 0])) H):zEx (.str z) (.int (-1)) H Q:=by
 refine zJV (c:=(Lt z).getD ((Lt z).length - 1) 0) hz ?_ q
 unfold atI ixN
 rw [if_neg (show ¬ (0:Int) <= -1 by decide),if_pos (show -((Lt z).length:Int) <= -1 by omega)]
 show (Lt z)[((-1:Int)+(Lt z).length).toNat]? = _
 rw [show ((-1:Int)+(Lt z).length).toNat=(Lt z).length - 1 by omega,getD_eq_getElem?_getD,getElem?_eq_getElem (by omega)];rfl
theorem zH2 (hz:(Lt z).length<=16777216) (h:0<=j) (q:Q (.str (T ((Lt z).take j.toNat))) H):zEj (.str z) none (some j) H Q:=by
 refine zGx hz ?_
 rw [KP]
 have e:(Lt z).take (cl (Lt z).length (Lt z).length (some j))=(Lt z).take j.toNat:=by
  unfold cl;dsimp only;rw [if_neg (by omega)]
  rcases Int.le_total j (Lt z).length with p | p
  ·rw [Int.min_eq_left p,max_eq_right h]
  ·rw [Int.min_eq_right p,max_eq_right (by omega),take_of_length_le (by omega),take_of_length_le (by omega)]
 rw [e];exact q
theorem zCK (l:List Nat) (h:0<=i) (n d:Nat) (hn:l.length<=n):l.drop (cl n d (some i))=l.drop i.toNat:=by
 unfold cl;dsimp only;rw [if_neg (by omega)]
 rcases Int.le_total i n with p | p
 ·rw [Int.min_eq_left p,max_eq_right h]
 ·rw [Int.min_eq_right p,max_eq_right (by omega),drop_of_length_le (by omega),drop_of_length_le (by omega)]
theorem zF1 (l:List Nat) (h:0<=i) (d:Nat):l.take (cl l.length d (some i))=l.take i.toNat:=by
 unfold cl;dsimp only;rw [if_neg (by omega)]
 rcases Int.le_total i l.length with p | p
 ·rw [Int.min_eq_left p,max_eq_right h]
 ·rw [Int.min_eq_right p,max_eq_right (by omega),take_of_length_le (by omega),take_of_length_le (by omega)]
theorem zIO (hz:(Lt z).length<=16777216) (h:0<=i) (q:Q (.str (T ((Lt z).drop i.toNat))) H):zEj (.str z) (some i) none H Q:=by
 refine zGx hz ?_
 rw [KP,zCK _ h _ _ (by rw [length_take];omega)]
 show Q (.str (T (((Lt z).take (Lt z).length).drop i.toNat))) H
 rw [take_length];exact q
theorem zGu (hz:(Lt z).length<=16777216) (h:0<=i) (h':0<=j) (q:Q (.str (T (((Lt z).take j.toNat).drop i.toNat))) H):zEj (.str z) (some i) (some j) H Q:=by
 refine zGx hz ?_
 rw [KP,zCK _ h _ _ (by rw [length_take];omega),zF1 _ h']
 exact q
def zH8:R2:=fun x y H Q=>∃ (z:Str) (n:Int),x = .str z/\y = .int n/\n < 16777216 /\ -16777216 < n/\(Lt z).length*n.toNat<=16777216/\Q (.str (T (List.replicate n.toNat (Lt z)).flatten)) H
theorem Y6 : ∀ (xs:List (Array Nat)) (a:Array Nat),(xs.foldl (fun x1 x2=>x1++x2) a).toList=a.toList++(xs.map Array.toList).flatten
 | [],a=>by simp
 | x::xs,a=>by rw [foldl_cons,Y6 xs];simp
theorem zLM (z:Str) (n:Int):Txt.mul z n=T (List.replicate n.toNat (Lt z)).flatten:=by
 unfold Txt.mul
 split
 ·rw [show n.toNat=0 by omega];rfl
 ·split
  ·rename_i h1 h2
   rw [Bool.or_eq_true] at h2
   rcases h2 with h | h
   ·have:n=1:=by simpa using h
    subst this
    show z=T ([Lt z].flatten)
    simp [ZY]
   ·have e:(Lt z).length=0:=(by simpa using h:z.length=0)
    have e':Lt z=[]:=List.eq_nil_of_length_eq_zero e
    refine YL ?_
    rw [Xr,e']
    simp
  ·refine YL ?_
   show (List.foldl (fun x1 x2=>x1++x2) #[] (List.replicate n.toNat z.cps)).toList=_
   rw [Y6,List.map_replicate,Xr]
   simp
theorem zBI:OpR X (binaryOp .Mult) zH8:=by
 intro pins s σ H x y v u Q I rx ry h
 obtain ⟨z,n,rfl,rfl,h1,h2,h3,q⟩:=h
 obtain ⟨t,rfl⟩:=rx
 obtain ⟨t',rfl⟩:=ry
 refine SB.mul ⟨?_,fun h4 _=>?_,fun _ _=>?_⟩ fun t' k=>⟨.str _,H,I.tok _,⟨t',rfl⟩,by rw [zLM];exact q⟩
 ·rw [decide_eq_false (by omega),decide_eq_false (by omega)];rfl
 ·have e:((Lt z).length:Int)*n<=16777216:=by
   have:=Int.ofNat_le.mpr h3
   rw [Int.natCast_mul,Int.toNat_of_nonneg (by omega)] at this;exact this
  intro h5
  have h6:=Int.mul_le_of_le_ediv (c:=n) (by omega) (Int.le_refl ((2 ^ 63 - 1) / n))
  have h7:((2:Int) ^ 63 - 1) / n+1<=(Lt z).length:=h5
  have h8:=Int.mul_le_mul_of_nonneg_right h7 (show 0<=n by omega)
  have h9:=Int.lt_ediv_add_one_mul_self ((2:Int) ^ 63 - 1) (show 0 < n by omega)
  omega
 ·unfold Builtin.Str.tooLong
  exact decide_eq_false (by show ¬ (Lt z).length*n.toNat > 16777216;omega)
theorem zGz {c:Nat} {n:Int} (h1:n < 16777216) (h2 : -16777216 < n) (q:Q (.str (T (List.replicate n.toNat c))) H):zH8 (.str (T [c])) (.int n) H Q:=
 ⟨T [c],n,rfl,rfl,h1,h2,by rw [Xr,List.length_singleton,Nat.one_mul];omega,by rw [Xr,List.flatten_replicate_singleton];exact q⟩
theorem zEm {i j:Str} (q:Q (.bl (!decide (i=j))) H):rNe (.str i) (.str j) H Q:=⟨rfl,by
 have e:decide (V.str i=V.str j)=decide (i=j):=by
  by_cases h:i=j
  ·rw [decide_eq_true h,decide_eq_true (congrArg V.str h)]
  ·rw [decide_eq_false h,decide_eq_false (fun z=>h (V.str.inj z))]
 rw [e];exact q⟩
theorem zGM {a b:List Nat} (hz:a.length+b.length<=16777216) (q:Q (.str (T (a++b))) H):zCH (.str (T a)) (.str (T b)) H Q:=zCl hz q
theorem zCL {a:List Nat} (hz:a.length+(Lt y).length<=16777216) (q:Q (.str (T (a++Lt y))) H):zCH (.str (T a)) (.str y) H Q:=zCl hz q
theorem zFf {a:List Nat} (hz:a.length<=16777216) (q:Q (.int a.length) H):zD1 [.str (T a)] H Q:=zE1 hz q
theorem zIH {a:List Nat} (hz:a.length<=16777216) (h0:0<=i) (h1:i < a.length) (q:Q (.str (T [a.getD i.toNat 0])) H):zEx (.str (T a)) (.int i) H Q:=zC6 hz h0 h1 q
theorem zFo {a:List Nat} (hz:a.length<=16777216) (h1:0 < a.length) (q:Q (.str (T [a.getD (a.length - 1) 0])) H):zEx (.str (T a)) (.int (-1)) H Q:=zJ4 hz h1 q
theorem zGn {a:List Nat} (hz:a.length<=16777216) (h:0<=j) (q:Q (.str (T (a.take j.toNat))) H):zEj (.str (T a)) none (some j) H Q:=zH2 hz h q
theorem zGP {a:List Nat} (hz:a.length<=16777216) (h:0<=i) (q:Q (.str (T (a.drop i.toNat))) H):zEj (.str (T a)) (some i) none H Q:=zIO hz h q
theorem zD8 {a:List Nat} (hz:a.length<=16777216) (h:0<=i) (h':0<=j) (q:Q (.str (T ((a.take j.toNat).drop i.toNat))) H):zEj (.str (T a)) (some i) (some j) H Q:=zGu hz h h' q
theorem zFI {a b:List Nat} (q:Q (.bl (decide (a=b))) H):rEq (.str (T a)) (.str (T b)) H Q:=zFO (by
 have e:decide (T a=T b)=decide (a=b):=decide_eq_decide.mpr zKB
 rw [e];exact q)
theorem zFD {a b:List Nat} (q:Q (.bl (!decide (a=b))) H):rNe (.str (T a)) (.str (T b)) H Q:=zEm (by
 have e:decide (T a=T b)=decide (a=b):=decide_eq_decide.mpr zKB
 rw [e];exact q)
theorem qU {p:Addr} (h:SqL K H p xs) (h0:0<=i) (h1:i < xs.length) (q : ∀ x,xs[i.toNat]? = some x->Q x H):zGp K (.ref p) (.int i) H Q:=by
 have h2:i.toNat < xs.length:=by omega
 have e:atI xs ((i.toNat:Nat):Int)=some xs[i.toNat]:=zFe (getElem?_eq_getElem h2)
 rw [show ((i.toNat:Nat):Int)=i by omega] at e
 exact zAm h e (q _ (getElem?_eq_getElem h2))
def zCv:V->List V->Hp->VK->Prop:=fun x xs H Q=>∃ z y:Str,x = .str z/\xs=[.str y]/\Q (.int (Txt.find z y)) H
theorem zDe:MtR X "str.find" zCv:=by
 intro pins s σ H x xs v us Q I rx rv h
 obtain ⟨z,y,rfl,rfl,q⟩:=h
 obtain ⟨t,rfl⟩:=rx
 obtain ⟨u,rfl,ru⟩:=rv.one
 obtain ⟨t',rfl⟩:=ru
 exact SC.find ⟨.int _,H,I.tok _,⟨_,rfl⟩,q⟩
theorem zBR (q:Q (.int (Txt.find z y)) H):zCv (.str z) [.str y] H Q:=⟨z,y,rfl,rfl,q⟩
theorem zHe {R:Prop} (q:R):tyV K "str" (.str z) H/\R:=⟨rfl,q⟩
end
def Its (x:Str):It:=⟨fun i _=>i < (Lt x).length,fun i H v H'=>H'=H /\ ∃ c,(Lt x)[i]? = some c/\v = .str (T [c]),fun i _=>i=(Lt x).length⟩
theorem zEN {K:PySem.W.Frag} {tg:Expr} (x:Str) (t:Tok) (it:Addr) (ty:String) (hty:ty = "str_ascii_iterator" \/ ty = "str_iterator"):zIl P w K tg (Its x) [it] it (fun i h=>h.IsStrIter it ty x t i) where
 mem:=by simp
 obj:=fun i h st b hb=>by
  have e:b=it:=by simpa using hb
  subst e
  obtain ⟨o,e,c,d⟩:=st
  exact ⟨o,e,fun v z=>by rw [d] at z;cases z⟩
 keep:=fun i h h' st k=>by
  obtain ⟨o,e,c,d⟩:=st
  exact ⟨o,k it (by simp) o e,c,d⟩
 item:=by
  intro X hP hw hK hc i pins s σ H E I hf st hg
  subst hP hw hK
  obtain ⟨f0,f1,f2,f3,f4,f5⟩:=hf it (by simp)
  have W:Walks X.prog X.w X.A it [it] [it] x.cps.size (SignAt x) (fun i h=>h.IsStrIter it ty x t i):=by
   rcases hty with rfl | rfl
   ·exact Walks.strAscii (I.ok.hd hc) it x t
   ·exact Walks.strWide (I.ok.hd hc) it x t
  refine W.item i s _ _ hg st fun v h' tk hv st' kk=>?_
  obtain ⟨c,u,hcu,rfl⟩:=hv
  have I1:Inv X pins σ H { s with heap:=h',toks:=tk }:=I.turned (fun b o hb e=>kk b o (by simpa using hb) e) f0 f1 f3 f4 f5
  obtain ⟨o,e,c1,d⟩:=id st'
  have hn:["enumerate", "zip", "dict_itemiterator", "dict_reverseitemiterator", "odict_iterator", "itertools.zip_longest", "itertools.pairwise"].contains ty=false:=by rcases hty with rfl | rfl <;> decide
  exact ⟨_,rfl,zFV (s:={ s with heap:=h',toks:=tk }) e c1 d hn ⟨.str (T [c]),H,I1,⟨u,rfl⟩,⟨rfl,c,by simpa [Lt] using hcu,rfl⟩,st',fun b hb=>(hf b hb).1⟩⟩
 done:=by
  intro X hP hw hK hc i pins s σ H E I hf st hg
  subst hP hw hK
  obtain ⟨f0,f1,f2,f3,f4,f5⟩:=hf it (by simp)
  have W:Walks X.prog X.w X.A it [it] [it] x.cps.size (SignAt x) (fun i h=>h.IsStrIter it ty x t i):=by
   rcases hty with rfl | rfl
   ·exact Walks.strAscii (I.ok.hd hc) it x t
   ·exact Walks.strWide (I.ok.hd hc) it x t
  have hi:i=x.cps.size:=hg
  subst hi
  exact W.done s _ _ st fun h' tk kk=>⟨rfl,I.turned (fun b o hb e=>kk b o (by simpa using hb) e) f0 f1 f3 f4 f5⟩
 self:=fun _ _ _ _ _ st h=>by
  rcases hty with rfl | rfl
  ·exact wpAny_pyIter_striter_ascii st h
  ·exact wpAny_pyIter_striter_wide st h
section
variable {X : Cx} {tg : Expr}
def zK2 (tl:TE):TI:=fun σ H R=>tl σ H fun x H1=>∃ z:Str,x = .str z/\R (Its z) H1
theorem zBB {l:Expr} {tl:TE} (hl:PE X l tl):PI X tg l (zK2 tl):=by
 intro pins s σ H R I h
 refine thn (hl pins s σ H _ I h) fun v s1 zq=>?_
 obtain ⟨x,H1,I1,r1,q1⟩:=zq
 obtain ⟨z,e,q⟩:=q1
 subst e
 obtain ⟨t,rfl⟩:=r1
 have hty:strIterType z = "str_ascii_iterator" \/ strIterType z = "str_iterator" := by unfold strIterType;split <;> simp
 refine wpAny_pyIter_strU ?_
 refine ⟨s1.heap.objs.size,[s1.heap.objs.size],_,_,H1,rfl,I1.kept (t':=s1.toks) fun b o e=>Heap.get?_push_of_some _ e,zEN z t _ _ hty,⟨_,Heap.get?_push_size _ rfl,rfl,rfl⟩,fun b hb=>?_,q⟩
 have e:b=s1.heap.objs.size:=by simpa using hb
 subst e
 exact I1.fpOk (Nat.le_refl _) (I1.hok.fresh (Nat.le_refl _))
end
section
variable {σ : St} {H : Hp} {Q : VK} {D : Z9} {K : W.Frag}
def zJA (g:TG) (tb:TS) (D:Z9) (σ:St) (x:V) (H:Hp):Prop:=∃ z:Str,x = .str z /\ ∃ W:Nat->Nat->St->Hp->Prop,(∃ m,W 0 m σ H) /\ ∀ i m σ H,W i m σ H ->
 ((Its z).stop i H/\D.nx σ H)\/((Its z).go i H /\ ∃ N:St->Hp->Prop,(∀ σ' H',N σ' H' -> ∃ m',m' < m/\W (i+1) m' σ' H') /\ ∀ x H',(Its z).yld i H x H'->g x σ H' fun σ2 H2=>tb { D with nx:=N,ct:=N,bk:=D.nx } σ2 H2)
theorem zI7 {tl:TE} {g:TG} {tb:TS} (h:tl σ H (zJA g tb D σ)):zKJ (zK2 tl) g tb D σ H:=h
theorem zGv {g:TG} {tb:TS} {a:List Nat} (Pv:Nat->St->Hp->Prop) (h0:Pv 0 σ H)
  (hs : ∀ i c σ H,a[i]? = some c->Pv i σ H->g (.str (T [c])) σ H fun σ2 H2=>tb { D with nx:=Pv (i+1),ct:=Pv (i+1),bk:=D.nx } σ2 H2) (hd : ∀ σ H,Pv a.length σ H->D.nx σ H):zJA g tb D σ (.str (T a)) H:=by
 refine ⟨T a,rfl,fun i m σ H=>i+m=a.length/\Pv i σ H,⟨a.length,by omega,h0⟩,?_⟩
 rintro i m σ H ⟨hm,hp⟩
 rcases lt_or_ge i a.length with h | h
 ·refine .inr ⟨h,Pv (i+1),fun σ' H' hp'=>⟨m - 1,by omega,by omega,hp'⟩,?_⟩
  rintro x H' ⟨rfl,c,hc,rfl⟩
  exact hs i c σ H' hc hp
 ·have e:i=a.length:=by omega
  subst e
  exact .inl ⟨rfl,hd σ H hp⟩
end
def fv (c:Nat):Int:=if 48<=c/\c<=57 then (c:Int) - 48 else if 97<=c/\c<=102 then (c:Int) - 87 else -1
theorem zDP : ∀ c ∈ List.range 127,Txt.find "0123456789abcdef" (T [c])=fv c:=by decide +kernel
theorem zGk {c:Nat} (h:c < 127):Txt.find "0123456789abcdef" (T [c])=fv c:=zDP c (List.mem_range.mpr h)
def fc (d:Nat):Nat:=(Lt "0123456789abcdef").getD d 0
theorem zIW : ∀ d ∈ List.range 16,fc d < 127/\fv (fc d)=d/\(fc d=48->d=0):=by decide +kernel
theorem zEO {d:Nat} (h:d < 16):fc d < 127/\fv (fc d)=d/\(fc d=48->d=0):=zIW d (List.mem_range.mpr h)
def val (b:Int) (l:List Nat):Int:=l.foldl (fun n c=>n*b+fv c) 0
theorem Qp (b:Int) (l:List Nat) (c:Nat):val b (l++[c])=val b l*b+fv c:=by unfold val;rw [List.foldl_append];rfl
theorem J1 (b:Int) (l:List Nat) : ∀ m:Nat,val b (List.replicate m 48++l)=val b l
 | 0=>by simp
 | m+1=>by
  have ih:=J1 b l m
  unfold val at ih ⊢
  rw [List.replicate_succ,List.cons_append,foldl_cons]
  have:(0:Int)*b+fv 48=0:=by rw [Int.zero_mul];decide
  rw [this];exact ih
def xG (b:Int) (l:List Nat):Prop:=∀ c ∈ l,c < 127/\0<=fv c/\fv c < b
theorem xG.mono {b b':Int} {l:List Nat} (h:xG b l) (hb:b<=b'):xG b' l:=fun c hc=>⟨(h c hc).1,(h c hc).2.1,by have:=(h c hc).2.2;omega⟩
theorem xG.app {b:Int} {l m:List Nat} (h:xG b l) (h':xG b m):xG b (l++m):=fun c hc=>(List.mem_append.mp hc).elim (h c) (h' c)
theorem xG.noughts {b:Int} (hb:2<=b) (m:Nat):xG b (List.replicate m 48):=fun c hc=>by
 rw [List.eq_of_mem_replicate hc];exact ⟨by decide,by decide,by show (0:Int) < b;omega⟩
theorem xG.one {b d:Nat} (hb:b<=16) (h:d < b):xG b [fc d]:=fun c hc=>by
 rw [List.mem_singleton.mp hc]
 have:=zEO (d:=d) (by omega)
 exact ⟨this.1,by omega,by omega⟩
def QS (b n:Nat):List Nat:=if h:n < b\/b < 2 then [fc n] else QS b (n / b)++[fc (n % b)]
termination_by n
decreasing_by exact Nat.div_lt_self (by omega) (by omega)
theorem xM {b:Nat} (h:n < b):QS b n=[fc n]:=by rw [QS];simp [h]
theorem Jw {b:Nat} (h2:2<=b) (h:b<=n):QS b n=QS b (n / b)++[fc (n % b)]:=by rw [QS];simp [show ¬ n < b by omega,show ¬ b < 2 by omega]
theorem XM {b:Nat} (h2:2<=b) (h16:b<=16) : ∀ (m n:Nat),n<=m->xG b (QS b n)/\val b (QS b n)=n/\QS b n≠[]/\((QS b n).getD 0 0=48->n=0):=by
 intro m
 induction m with
 | zero =>
  intro n hn
  rw [xM (by omega)]
  have e:=zEO (d:=n) (by omega)
  exact ⟨xG.one h16 (by omega),by unfold val;simp [e.2.1],by simp,fun _=>by omega⟩
 | succ m ih =>
  intro n hn
  rcases lt_or_ge n b with h | h
  ·rw [xM h]
   have e:=zEO (d:=n) (by omega)
   exact ⟨xG.one h16 (by omega),by unfold val;simp [e.2.1],by simp,fun q=>e.2.2 (by simpa using q)⟩
  ·have hd:n / b < n:=Nat.div_lt_self (by omega) (by omega)
   obtain ⟨i1,i2,i3,i4⟩:=ih (n / b) (by omega)
   have hm:=Nat.mod_lt n (show b > 0 by omega)
   rw [Jw h2 h]
   refine ⟨i1.app (xG.one h16 hm),?_,by simp,fun q=>?_⟩
   ·rw [Qp,i2,(zEO (d:=n % b) (by omega)).2.1]
    have:=Nat.div_add_mod n b
    rw [Nat.mul_comm] at this
    omega
   ·rw [ka (List.length_pos_iff.mpr i3)] at q
    have:=i4 q
    have p:0 < n / b:=Nat.div_pos h (by omega)
    omega
theorem Yt {b:Nat} (h2:2<=b) : ∀ (k n:Nat),n < b ^ (k+1)->(QS b n).length<=k+1
 | 0,n,h=>by rw [Nat.pow_one] at h;rw [xM h];simp
 | k+1,n,h=>by
  rcases lt_or_ge n b with h' | h'
  ·rw [xM h'];simp
  ·rw [Jw h2 h',length_append]
   have:=Yt h2 k (n / b) (Nat.div_lt_of_lt_mul (by rw [Nat.pow_succ,Nat.mul_comm] at h;exact h))
   simp;omega
theorem zDd {b:Nat} (h2:2<=b) (h:n < 1766847064778384329583297500742918515827483896875618958121606201292619776):(QS b n).length<=240:=by
 refine Yt h2 239 n (lt_of_lt_of_le h ?_)
 have e:(1766847064778384329583297500742918515827483896875618958121606201292619776:Nat)=2 ^ 240:=by decide +kernel
 rw [e];exact Nat.pow_le_pow_left h2 240
variable {m:Nat}
theorem VU {b:Nat} (h2:2<=b) (l:List Nat):QS b m++l=if m / b=0 then fc (m % b)::l else QS b (m / b)++fc (m % b)::l:=by
 rcases lt_or_ge m b with h' | h'
 ·rw [if_pos (Nat.div_eq_of_lt h'),xM h',Nat.mod_eq_of_lt h'];rfl
 ·have p:0 < m / b:=Nat.div_pos h' (by omega)
  rw [if_neg (by omega),Jw h2 h',append_assoc];rfl
theorem KM (hz:xs.length<=sizeLine) (h : ∀ p,H p=none->Q (.ref p) (upd H p (.lst xs))):zKo Q xs H:=⟨hz,h⟩
theorem qO (g:zc H H') (n:H l=none):zc H (upd H' l o):=fun b u q=>by rw [zf (zg q n)];exact g b u q
variable {σ:St}
theorem zJ6 {T:String} {r:V->List V->Hp->VK->Prop} {to:TE} (h:to σ H fun x H1=>tyV K T x H1/\r x [] H1 Q):zLg K T r to σ H Q:=h
theorem zCc (h:H l=some (.lst xs)) (q:Q .non (upd H l (.lst xs.reverse))):WI (.ref l) [] H Q:=⟨l,xs,rfl,rfl,h,q⟩
def jn (m:List Nat):List (List Nat)->List Nat
 | []=>[]
 | x::xs=>x++(xs.map (m ++ ·)).flatten
theorem VL (m:Str) : ∀ (xs:List (List Nat)) (a:Array Nat),((xs.map T).foldl (fun acc p=>acc++m.cps++p.cps) a).toList=a.toList++(xs.map (Lt m ++ ·)).flatten
 | [],a=>by simp
 | x::xs,a=>by
  rw [map_cons,foldl_cons,VL m xs,map_cons,List.flatten_cons]
  simp [T]
theorem zEq (m:Str) (xs:List (List Nat)):Txt.join m (xs.map T)=T (jn (Lt m) xs):=by
 refine YL ?_
 rw [Xr]
 unfold Txt.join Builtin.Str.glued
 cases xs with
 | nil=>rfl
 | cons x xs =>
  show (List.foldl (fun acc p=>acc++m.cps++p.cps) (T x).cps (xs.map T)).toList=_
  rw [VL];rfl
theorem zBr (m:List Nat) {xs:List (List Nat)} (h:xs≠[]) (y:List Nat):jn m (xs++[y])=jn m xs++(m++y):=by
 cases xs with
 | nil=>exact absurd rfl h
 | cons x xs=>unfold jn;simp
theorem zHa (xs:List (List Nat)):jn [] xs=xs.flatten:=by
 cases xs with
 | nil=>rfl
 | cons x xs=>unfold jn;simp
theorem zIt {m:Str} {xs:List (List Nat)} (h:xs.flatten.length+xs.length*(Lt m).length<=16777216):JoinOk m (xs.map T)=true:=by
 have e : ∀ (xs:List (List Nat)) (n:Nat),(xs.map T).foldl (fun x1 x2=>x1+x2.length+m.length) n=n+xs.flatten.length+xs.length*(Lt m).length:=by
  intro xs
  induction xs with
  | nil=>intro n;simp
  | cons x xs ih =>
   intro n
   rw [map_cons,foldl_cons,ih,List.flatten_cons,length_append,length_cons,Nat.add_mul]
   have e1:(T x).length=x.length:=rfl
   have e2:m.length=(Lt m).length:=rfl
   rw [e1,e2];omega
 unfold JoinOk Builtin.Str.tooLong
 rw [List.foldl_toArray,e,decide_eq_false (by show ¬ 0+xs.flatten.length+xs.length*(Lt m).length > 16777216;omega)]
 rfl
def zEw (K:W.Frag):V->List V->Hp->VK->Prop:=fun x vs H Q=>∃ (m:Str) (p:Addr) (xs:List (List Nat)),x = .str m/\vs=[.ref p]/\H p=some (.lst (xs.map fun l=>V.str (T l)))/\xs.flatten.length+xs.length*(Lt m).length<=16777216/\Q (.str (T (jn (Lt m) xs))) H
theorem Vb : ∀ {xs:List (List Nat)} {us:List Value},qM (xs.map fun l=>V.str (T l)) us -> ∃ ts:List (Str × Tok),us=strValues ts/\ts.map (fun x=>x.1)=xs.map T
 | [],_,.nil=>⟨[],rfl,rfl⟩
 | x::xs,_,.cons r t=>by
  obtain ⟨ts,rfl,e⟩:=Vb t
  obtain ⟨u,rfl⟩:=r
  exact ⟨(T x,u)::ts,rfl,by rw [map_cons,map_cons,e]⟩
theorem Z2:MtR X "str.join" (zEw X.K):=by
 intro pins s σ H x vs v us Q I rx rv h
 obtain ⟨m,p,xs,rfl,rfl,hH,hz,q⟩:=h
 obtain ⟨t,rfl⟩:=rx
 obtain ⟨u,rfl,ru⟩:=rv.one
 cases ru
 obtain ⟨its,r,pl,_⟩:=I.list (SqL.of hH)
 obtain ⟨ts,rfl,e⟩:=Vb r
 exact SC.join pl.isList e (zIt hz) fun t' k=>⟨.str _,H,I.tok _,⟨t',rfl⟩,by rw [zEq];exact q⟩
theorem XI {m:Str} {p:Addr} {xs:List (List Nat)} (h:H p=some (.lst (xs.map fun l=>V.str (T l)))) (hz:xs.flatten.length+xs.length*(Lt m).length<=16777216) (q:Q (.str (T (jn (Lt m) xs))) H):zEw K (.str m) [.ref p] H Q:=⟨m,p,xs,rfl,rfl,h,hz,q⟩
def pcs (a:List Nat) (z g e:Nat):List (List Nat):=if h:e=0\/z=0 then [] else pcs a z g (e - z - g)++[(a.take e).drop (e - z)]
termination_by e
decreasing_by omega
theorem ZQ (a:List Nat) (z g:Nat):pcs a z g 0=[]:=by rw [pcs];simp
variable {z:Nat}
theorem Yb {a:List Nat} {g e:Nat} (hz:0 < z) (h:0 < e):pcs a z g e=pcs a z g (e - z - g)++[(a.take e).drop (e - z)]:=by
 rw [pcs];rw [dif_neg (by omega)]
theorem zEX {a:List Nat} {z g:Nat} (hz:0 < z) : ∀ (m e:Nat),e<=m->(pcs a z g e).flatten.length<=e/\(pcs a z g e).length<=e
 | 0,e,h=>by rw [show e=0 by omega,ZQ];simp
 | m+1,e,h=>by
  rcases eq_zero_or_pos e with p | p
  ·rw [p,ZQ];simp
  ·obtain ⟨i1,i2⟩:=zEX (a:=a) (g:=g) hz m (e - z - g) (by omega)
   rw [Yb hz p]
   simp only [List.flatten_append,length_append,List.flatten_cons,List.flatten_nil,List.append_nil,length_drop,length_take,length_cons,List.length_nil]
   have mn:=Nat.min_le_left e a.length
   have d1:e - z - g<=e - z:=Nat.sub_le _ _
   have d2:e - z+z=e\/e - z=0:=by omega
   generalize min e a.length=M at *
   generalize (pcs a z g (e - z - g)).flatten.length=X at *
   generalize (pcs a z g (e - z - g)).length=Y at *
   generalize e - z - g=D at *
   generalize e - z=F at *
   clear h
   exact ⟨by omega,by omega⟩
def RJ (z m:Nat) (b:List Nat):List Nat:=if h:b.length<=z\/z=0 then b else b.take z++m::RJ z m (b.drop z)
termination_by b.length
decreasing_by rw [length_drop];omega
theorem kY {b:List Nat} (h:b.length<=z):RJ z m b=b:=by rw [RJ];simp [h]
theorem XF {b:List Nat}:RJ 0 m b=b:=by rw [RJ];simp
theorem Yx {b:List Nat} (hz:0 < z) (h:z < b.length):RJ z m b=b.take z++m::RJ z m (b.drop z):=by
 rw [RJ];rw [dif_neg (by omega)]
theorem zEb {z m:Nat} : ∀ (k:Nat) (b:List Nat),b.length<=k->b.length<=(RJ z m b).length/\(RJ z m b).length<=2*b.length
 | 0,b,h=>by rw [kY (by omega)];omega
 | k+1,b,h=>by
  rcases eq_zero_or_pos z with p | p
  ·subst p;rw [XF];omega
  ·rcases lt_or_ge z b.length with q | q
   ·have ih:=zEb (z:=z) (m:=m) k (b.drop z) (by rw [length_drop];omega)
    rw [length_drop] at ih
    rw [Yx p q,length_append,length_take,length_cons]
    omega
   ·rw [kY q];omega
theorem zAz {z m x:Nat} (hz:0 < z) : ∀ (k:Nat) (c:List Nat),c.length<=k->RJ z m (c++[x])=RJ z m c++((if 0 < c.length/\c.length % z=0 then [m] else [])++[x])
 | 0,c,h=>by
  have e:c=[]:=List.eq_nil_of_length_eq_zero (by omega)
  subst e
  rw [kY (by simp;omega),kY (by simp)];simp
 | k+1,c,h=>by
  rcases Nat.lt_trichotomy c.length z with p | p | p
  ·rw [kY (by simp;omega),kY (by omega),if_neg (by
    intro q;rw [Nat.mod_eq_of_lt p] at q;omega)];simp
  ·rw [Yx hz (by simp;omega),kY (b:=c) (by omega),if_pos ⟨by omega,by rw [p];exact Nat.mod_self z⟩]
   rw [List.take_append_of_le_length (by omega),take_of_length_le (by omega),List.drop_append_of_le_length (by omega),drop_of_length_le (by omega),kY (by simp;omega)]
   simp
  ·rw [Yx hz (by simp;omega),Yx (b:=c) hz p]
   rw [List.take_append_of_le_length (by omega),List.drop_append_of_le_length (by omega),zAz hz k (c.drop z) (by rw [length_drop];omega),length_drop]
   have e:(c.length - z) % z=c.length % z:=(Nat.mod_eq_sub_mod (by omega)).symm
   rw [e,append_assoc,List.cons_append]
   have e2:(0 < c.length - z/\c.length % z=0)=(0 < c.length/\c.length % z=0):=propext ⟨fun q=>⟨by omega,q.2⟩,fun q=>⟨by omega,q.2⟩⟩
   simp only [e2]
theorem zFL {a:List Nat} {z m:Nat} (hz:0 < z) : ∀ (k e:Nat),e<=k->e<=a.length->(jn [m] (pcs a z 0 e)).reverse=RJ z m (a.take e).reverse
 | 0,e,h,_=>by rw [show e=0 by omega,ZQ,kY (by simp)];simp [jn]
 | k+1,e,h,ha=>by
  rcases eq_zero_or_pos e with p | p
  ·rw [p,ZQ,kY (by simp)];simp [jn]
  ·rw [Yb hz p,Nat.sub_zero]
   have le:(a.take e).length=e:=by rw [length_take];omega
   rcases lt_or_ge z e with q | q
   ·have ih:=zFL (a:=a) (m:=m) hz k (e - z) (by omega) (by omega)
    have ne:pcs a z 0 (e - z)≠[]:=by rw [Yb hz (by omega)];simp
    rw [zBr _ ne,List.reverse_append,List.reverse_append,ih,Yx (b:=(a.take e).reverse) hz (by rw [length_reverse];omega),List.take_reverse,List.drop_reverse,le]
    rw [List.take_take,Nat.min_eq_left (show e - z<=e by omega)]
    simp
   ·rw [show e - z=0 by omega,ZQ,kY (by rw [length_reverse];omega)]
    simp [jn]
def gr (z m:Nat) (a:List Nat):List Nat:=(RJ z m a.reverse).reverse
theorem zKv {a:List Nat} (hz:0 < z):jn [m] (pcs a z 0 a.length)=gr z m a:=by
 have:=zFL (m:=m) hz a.length a.length (Nat.le_refl _) (Nat.le_refl _)
 rw [take_length] at this
 unfold gr
 rw [<- this,reverse_reverse]
theorem zB9 {a:List Nat}:a.length<=(gr z m a).length/\(gr z m a).length<=2*a.length:=by
 have:=zEb (z:=z) (m:=m) a.reverse.length a.reverse (Nat.le_refl _)
 unfold gr;rw [length_reverse] at this ⊢;exact this
def UJ (z:Nat) (c:List Nat):List Nat:=if h:c.length=0\/z=0 then [] else c.take z++UJ z (c.drop (z+1))
termination_by c.length
decreasing_by rw [length_drop];omega
theorem zIT:UJ z []=[]:=by rw [UJ];simp
theorem zBu {c:List Nat} (hz:0 < z) (h:0 < c.length):UJ z c=c.take z++UJ z (c.drop (z+1)):=by rw [UJ];rw [dif_neg (by omega)]
def ug (z:Nat) (a:List Nat):List Nat:=if z=0 then a else (UJ z a.reverse).reverse
theorem XN {a:List Nat}:gr 0 m a=a:=by unfold gr;rw [XF,reverse_reverse]
theorem zGX {a:List Nat} (hk:k < a.length):gr z m (a.drop (a.length - (k+1)))=a.getD (a.length - 1 - k) 0::((if 0 < z/\0 < k/\k % z=0 then [m] else [])++gr z m (a.drop (a.length - k))):=by
 have e:a.drop (a.length - (k+1))=a.getD (a.length - 1 - k) 0::a.drop (a.length - k):=by
  rw [List.drop_eq_getElem_cons (by omega),getD_eq_getElem?_getD,getElem?_eq_getElem (by omega)]
  congr 2 <;> omega
 have lk:(a.drop (a.length - k)).length=k:=by rw [length_drop];omega
 rcases eq_zero_or_pos z with p | p
 ·subst p;rw [XN,XN,e,if_neg (by omega)];rfl
 ·rw [e]
  unfold gr
  rw [List.reverse_cons,zAz p _ _ (Nat.le_refl _),length_reverse,lk]
  by_cases q:0 < k/\k % z=0
  ·rw [if_pos q,if_pos ⟨p,q⟩];simp
  ·rw [if_neg q,if_neg (fun h=>q h.2)];simp
variable {ts:List (List Nat)}
theorem zJE {p:Addr} (h:SqL K H p (ts.map fun l=>V.str (T l))) (h0:0<=i) (h1:i < ts.length) (q:Q (.str (T (ts.getD i.toNat []))) H):zGp K (.ref p) (.int i) H Q:=by
 refine qU h h0 (by rw [length_map];exact h1) fun x hx=>?_
 have h2:i.toNat < ts.length:=by omega
 rw [getElem?_map,getElem?_eq_getElem h2] at hx
 cases hx
 rw [getD_eq_getElem?_getD,getElem?_eq_getElem h2] at q
 exact q
section
variable {X : Cx} {H : Hp} {Q : VK} {K : W.Frag}
inductive NT (H:Hp):V->Prop where
 | int (i:Int):NT H (.int i)
 | non:NT H .non
 | bl (b:Bool):NT H (.bl b)
 | lst {p:Addr} {xs:List V} (e:H p=some (.lst xs)):NT H (.ref p)
 | tup {p:Addr} {xs:List V} (e:H p=some (.tup xs)):NT H (.ref p)
 | dct {p:Addr} (e:H p=some (zEZ p)):NT H (.ref p)
theorem NT.same {v:V} (h:NT H v) (g:zc H H'):NT H' v:=by
 cases h with
 | int i=>exact .int i
 | non=>exact .non
 | bl b=>exact .bl b
 | lst e=>exact .lst (g _ _ e)
 | tup e=>exact .tup (g _ _ e)
 | dct e=>exact .dct (g _ _ e)
theorem zEU {v:V} (h:NT H v) (q:Q (.bl false) H):Xe K [v,.ty "str"] H Q:=by
 cases h with
 | int i=>exact ZD (KS _) q
 | non=>exact ZJ (JU _) q
 | bl b=>exact kS (VH _) q
 | lst e=>exact ZE e (Vk _) q
 | tup e=>exact ZL e (Yu _) q
 | dct e=>exact ZH e (Vp _) q
def Asc (l:List Nat):Prop:=∀ c ∈ l,c < 127
theorem Asc.nil:Asc []:=fun _ h=>nomatch h
theorem Asc.app {l m:List Nat} (h:Asc l) (h':Asc m):Asc (l++m):=fun c hc=>(List.mem_append.mp hc).elim (h c) (h' c)
theorem Asc.one {c:Nat} (h:c < 127):Asc [c]:=fun d hd=>by rw [List.mem_singleton.mp hd];exact h
theorem Asc.take {l:List Nat} (h:Asc l) (n:Nat):Asc (l.take n):=fun c hc=>h c (List.mem_of_mem_take hc)
theorem Asc.drop {l:List Nat} (h:Asc l) (n:Nat):Asc (l.drop n):=fun c hc=>h c (List.mem_of_mem_drop hc)
theorem Asc.rep {l:List Nat} (h:Asc l) (n:Nat):Asc (List.replicate n l).flatten:=fun c hc=>by
 obtain ⟨m,hm,hc⟩:=List.mem_flatten.mp hc
 rw [List.eq_of_mem_replicate hm] at hc
 exact h c hc
theorem xG.asc {b:Int} {l:List Nat} (h:xG b l):Asc l:=fun c hc=>(h c hc).1
theorem xG.snoc {b:Int} {l:List Nat} {i c:Nat} (h:xG b (l.take i)) (hi:l[i]? = some c) (h1:c < 127) (h2:0<=fv c) (h3:fv c < b):xG b (l.take (i+1)):=by
 rw [List.take_succ,hi]
 refine h.app fun d hd=>?_
 rw [List.mem_singleton.mp hd];exact ⟨h1,h2,h3⟩
end
theorem zE {l:List Nat} {j:Nat} (e:x=T l):PE X (.Constant (.str x) j pos) (tC (.str (T l))):=by
 rw [<- e];exact zZ
theorem Jx {z m:Nat} (hz:0 < z) : ∀ (k:Nat) (b:List Nat),b.length<=k->1<=b.length->(RJ z m b).length=b.length+(b.length - 1) / z
 | 0,b,h,h1=>by omega
 | k+1,b,h,h1=>by
  rcases lt_or_ge z b.length with q | q
  ·have ih:=Jx (m:=m) hz k (b.drop z) (by rw [length_drop];omega) (by rw [length_drop];omega)
   rw [length_drop] at ih
   rw [Yx hz q,length_append,length_take,length_cons,ih]
   have e:(b.length - 1) / z=(b.length - z - 1) / z+1:=by
    rw [Nat.div_eq_sub_div hz (by omega),show b.length - 1 - z=b.length - z - 1 by omega]
   omega
  ·rw [kY q,Nat.div_eq_of_lt (by omega)];omega
theorem X7 {c:List Nat} (hz:0 < z) (h:0 < c.length):0 < (UJ z c).length:=by
 rw [zBu hz h,length_append,length_take];omega
theorem zIk {z m:Nat} (hz:0 < z) : ∀ (k:Nat) (c:List Nat),c.length<=k->c.length % (z+1)≠0->(∀ j,j < c.length->j % (z+1)=z->c.getD j 0=m)->RJ z m (UJ z c)=c
 | 0,c,h,h0,_=>by rw [show c.length=0 by omega] at h0;simp at h0
 | k+1,c,h,h0,hm=>by
  have p0:0 < c.length:=by
   rcases eq_zero_or_pos c.length with p | p
   ·rw [p] at h0;simp at h0
   ·exact p
  rcases Nat.lt_trichotomy c.length (z+1) with q | q | q
  ·rw [zBu hz p0,take_of_length_le (by omega),drop_of_length_le (by omega),zIT,List.append_nil,kY (by omega)]
  ·rw [q,Nat.mod_self] at h0;exact absurd rfl h0
  ·have l1:(c.take z).length=z:=by rw [length_take];omega
   have l2:(c.drop (z+1)).length=c.length - (z+1):=length_drop ..
   have ih:=zIk (m:=m) hz k (c.drop (z+1)) (by omega) (by rw [l2,<- Nat.mod_eq_sub_mod (by omega)];exact h0) (fun j hj he=>by
    have z1:=hm (z+1+j) (by omega) (by rw [Nat.add_mod_left];exact he)
    rw [getD_eq_getElem?_getD] at z1 ⊢
    rw [List.getElem?_drop];exact z1)
   have up:=X7 (c:=c.drop (z+1)) hz (by omega)
   rw [zBu hz p0,Yx hz (by rw [length_append,l1];omega),List.take_append_of_le_length (by omega),take_of_length_le (by omega),List.drop_append_of_le_length (by omega),drop_of_length_le (by omega),List.nil_append,ih]
   have cz:=hm z (by omega) (Nat.mod_eq_of_lt (by omega))
   rw [getD_eq_getElem?_getD,getElem?_eq_getElem (by omega)] at cz
   have cz':c[z]=m:=cz
   rw [<- cz',<- List.drop_eq_getElem_cons,List.take_append_drop]
def GG (z m:Nat) (t:List Nat):Prop:=1<=(ug z t).length/\(ug z t).length<=40/\gr z m (ug z t)=t
theorem GG.len {t:List Nat} (h:GG z m t):(ug z t).length+(if 0 < z then ((ug z t).length - 1) / z else 0)=t.length:=by
 have e:=congrArg List.length h.2.2
 rcases eq_zero_or_pos z with p | p
 ·subst p;rw [XN] at e;simp;exact e
 ·unfold gr at e
  rw [length_reverse,Jx p _ _ (Nat.le_refl _) (by rw [length_reverse];exact h.1),length_reverse] at e
  rw [if_pos p];exact e
theorem Yn {l:List Nat} {j:Nat} (h:j < l.length):l.reverse.getD j 0=l.getD (l.length - 1 - j) 0:=by
 rw [getD_eq_getElem?_getD,getD_eq_getElem?_getD,List.getElem?_reverse h]
theorem zDu {a b:Nat} (h1:1<=a) (h2:1<=b) (h:a+(a - 1) / z=b+(b - 1) / z):a=b:=by
 rcases Nat.lt_trichotomy a b with p | p | p
 ·have:=Nat.div_le_div_right (c:=z) (show a - 1<=b - 1 by omega);omega
 ·exact p
 ·have:=Nat.div_le_div_right (c:=z) (show b - 1<=a - 1 by omega);omega
theorem GG.of {many:Nat} {t:List Nat} (h1:1<=many) (h2:many<=40) (hl:many+(if 0 < z then (many - 1) / z else 0)=t.length) (hm:0 < z -> ∀ k,k < t.length->(t.length - 1 - k) % (z+1)=z->t.getD k 0=m):GG z m t:=by
 rcases eq_zero_or_pos z with p | p
 ·subst p
  have e:ug 0 t=t:=rfl
  unfold GG;rw [e,XN];simp at hl;exact ⟨by omega,by omega,rfl⟩
 ·rw [if_pos p] at hl
  have hn:t.length % (z+1)≠0:=by
   have d:=Nat.div_add_mod (many - 1) z
   have r:=Nat.mod_lt (many - 1) p
   generalize (many - 1) / z=q at *
   generalize (many - 1) % z=r' at *
   have e:t.length=r'+1+(z+1)*q:=by rw [Nat.add_mul,Nat.one_mul];omega
   rw [e,Nat.add_mul_mod_self_left,Nat.mod_eq_of_lt (by omega)];omega
  have rj:=zIk (m:=m) p _ t.reverse (Nat.le_refl _) (by rw [length_reverse];exact hn) (fun j hj he=>by
   rw [length_reverse] at hj
   rw [Yn hj]
   exact hm p _ (by omega) (by rw [show t.length - 1 - (t.length - 1 - j)=j by omega];exact he))
  have e:ug z t=(UJ z t.reverse).reverse:=by unfold ug;rw [if_neg (by omega)]
  have tp:0 < t.length:=lt_of_lt_of_le (show 0 < many by omega) (by rw [<- hl];exact Nat.le_add_right _ _)
  have up:=X7 (c:=t.reverse) p (by rw [length_reverse];exact tp)
  have ln:=Jx (m:=m) p _ (UJ z t.reverse) (Nat.le_refl _) up
  rw [rj,length_reverse] at ln
  have em:=zDu (z:=z) (a:=(UJ z t.reverse).length) (b:=many) up h1 (by omega)
  refine ⟨by rw [e,length_reverse];omega,by rw [e,length_reverse];omega,?_⟩
  rw [e];unfold gr;rw [reverse_reverse,rj,reverse_reverse]
def KD (w:World) (K:W.Frag) (d:Addr) (z:Str) (v:Addr):Prop:=∃ (es:Array DictEntry) (n:Nat),K.lookup d=some { cls:=.type "dict", data:=.dict es n }/\(∀ e,e ∈ es -> ∃ k,Value.isStrOf k e.key=true/\e.hash=hashStr w k)/\findBy Value.isStrOf es z=some (.ref v)
def zLe (w:World) (K:W.Frag):R2:=fun x y H Q=>∃ d z v,x = .ref d/\y = .str z/\KD w K d z v/\Q (.ref v) H
section
variable {X : Cx} {H : Hp} {Q : VK} {K : W.Frag} {w : World}
theorem zJa:IxR X (zLe X.w X.K):=by
 intro value slice pins s σ H x y v u Q I rx ry h hs
 obtain ⟨d,z,p,rfl,rfl,⟨es,n,lk,ks,f⟩,q⟩:=h
 cases rx
 obtain ⟨t,rfl⟩:=ry
 have ho:=I.kIn d _ lk
 have fin : ∀ k,EP X pins σ Q (.ref p) { s with toks:=k }:=fun k=>⟨.ref p,H,I.tok _,rfl,q⟩
 exact subscriptTail_builtinR (x:=.ref p) ⟨_,ho,rfl⟩ slot_dict_getitem.lookup
  (wpAny_getItem_of (knd:=PySem.strKind X.prog X.w) (k:=z) (f:=fun k=>findBy Value.isStrOf es k) (Q:=fun r s'=>r = .ref p/\EP X pins σ Q r s') (by simp [PySem.strKind,Value.isStrOf]) ⟨_,es,n,ho,⟨rfl,rfl,rfl⟩,rfl,ks,fun k=>rfl⟩ f ⟨rfl,fin _⟩) hs
theorem zI4 {d v:Addr} {z:Str} (h:KD w K d z v) (q:Q (.ref v) H):zLe w K (.ref d) (.str z) H Q:=⟨d,z,v,rfl,rfl,h,q⟩
theorem zFp {p:Addr} {v:V} (h:SqT K H p xs) (e:atI xs i=some v) (q:Q v H):zKE K (.ref p) (.int i) H Q:=⟨p,xs,i,v,rfl,rfl,h,e,q⟩
theorem SqT.same {p:Addr} (h:SqT K H p xs) (e:zc H H'):SqT K H' p xs:=by
 rcases h with h | h
 ·rcases h with h | ⟨o,h⟩
  ·exact .inl (.inl (e _ _ h))
  ·exact .inl (.inr ⟨o,e _ _ h⟩)
 ·exact .inr h
theorem SqT.mod {p:Addr} {its:List Value} (lk:K.lookup p=some { cls:=.type "tuple", data:=.seq its.toArray n }) (hz:its.length<=1000) (r:qM xs its):SqT K H p xs:=.inr ⟨_,its.toArray,n,lk,rfl,rfl,qz (by simpa using hz),by simpa using r⟩
end
def stL (x:Str) (b:Bool):List Nat:=if x = "minus" then (if b then [45] else []) else if x = "plus" then (if b then [45] else [43]) else if x = "blank" then (if b then [45] else [32]) else if x = "brackets" then (if b then [40] else []) else []
def stT (x:Str) (b:Bool):List Nat:=if x = "minus" then [] else if x = "plus" then [] else if x = "blank" then [] else if x = "brackets" then (if b then [41] else []) else (if b then [45] else [])
def Qj (x:Str):Prop:=x = "minus" \/ x = "plus" \/ x = "blank" \/ x = "brackets" \/ x = "behind"
theorem yM (b:Bool):stL "minus" b=(if b then [45] else [])/\stT "minus" b=[]:=by unfold stL stT;cases b <;> decide +kernel
theorem kX (b:Bool):stL "plus" b=(if b then [45] else [43])/\stT "plus" b=[]:=by unfold stL stT;cases b <;> decide +kernel
theorem yD (b:Bool):stL "blank" b=(if b then [45] else [32])/\stT "blank" b=[]:=by unfold stL stT;cases b <;> decide +kernel
theorem jD (b:Bool):stL "brackets" b=(if b then [40] else [])/\stT "brackets" b=(if b then [41] else []):=by unfold stL stT;cases b <;> decide +kernel
theorem xF (b:Bool):stL "behind" b=[]/\stT "behind" b=(if b then [45] else []):=by unfold stL stT;cases b <;> decide +kernel
theorem zFS (h:Qj x) (b:Bool):(stL x b).length<=1/\(stT x b).length<=1:=by
 rcases h with rfl | rfl | rfl | rfl | rfl
 ·rw [(yM b).1,(yM b).2];cases b <;> decide
 ·rw [(kX b).1,(kX b).2];cases b <;> decide
 ·rw [(yD b).1,(yD b).2];cases b <;> decide
 ·rw [(jD b).1,(jD b).2];cases b <;> decide
 ·rw [(xF b).1,(xF b).2];cases b <;> decide
def Sty (w:World) (K:W.Frag) (d:Addr):Prop:=∀ (x:Str),Qj x -> ∃ p a b:Addr,KD w K d x p /\ ∀ H:Hp,SqT K H p [.ref a,.ref b]/\SqT K H a [.str (T (stL x false)),.str (T (stT x false))]/\SqT K H b [.str (T (stL x true)),.str (T (stT x true))]
theorem sty_mk {d:Addr} {n0:Nat} {t0:Tok} {p0 a0 b0:Addr} {n01 n02 n03:Nat} {u01 u02 u03 u04:Tok} {t1:Tok} {p1 a1 b1:Addr} {n11 n12 n13:Nat} {u11 u12 u13 u14:Tok} {t2:Tok} {p2 a2 b2:Addr} {n21 n22 n23:Nat} {u21 u22 u23 u24:Tok} {t3:Tok} {p3 a3 b3:Addr} {n31 n32 n33:Nat} {u31 u32 u33 u34:Tok} {t4:Tok} {p4 a4 b4:Addr} {n41 n42 n43:Nat} {u41 u42 u43 u44:Tok}
  (hd:K.lookup d=some { cls:=.type "dict", data:=.dict #[⟨PyData.keyHash w.params "minus", .str "minus" t0,.ref p0⟩,⟨PyData.keyHash w.params "plus", .str "plus" t1,.ref p1⟩,⟨PyData.keyHash w.params "blank", .str "blank" t2,.ref p2⟩,⟨PyData.keyHash w.params "brackets", .str "brackets" t3,.ref p3⟩,⟨PyData.keyHash w.params "behind", .str "behind" t4,.ref p4⟩] n0 })
  (hp0:K.lookup p0=some { cls:=.type "tuple", data:=.seq #[.ref a0,.ref b0] n01 })
  (ha0:K.lookup a0=some { cls:=.type "tuple", data:=.seq #[.str "" u01,.str "" u02] n02 })
  (hb0:K.lookup b0=some { cls:=.type "tuple", data:=.seq #[.str "-" u03,.str "" u04] n03 })
  (hp1:K.lookup p1=some { cls:=.type "tuple", data:=.seq #[.ref a1,.ref b1] n11 })
  (ha1:K.lookup a1=some { cls:=.type "tuple", data:=.seq #[.str "+" u11,.str "" u12] n12 })
  (hb1:K.lookup b1=some { cls:=.type "tuple", data:=.seq #[.str "-" u13,.str "" u14] n13 })
  (hp2:K.lookup p2=some { cls:=.type "tuple", data:=.seq #[.ref a2,.ref b2] n21 })
  (ha2:K.lookup a2=some { cls:=.type "tuple", data:=.seq #[.str " " u21,.str "" u22] n22 })
  (hb2:K.lookup b2=some { cls:=.type "tuple", data:=.seq #[.str "-" u23,.str "" u24] n23 })
  (hp3:K.lookup p3=some { cls:=.type "tuple", data:=.seq #[.ref a3,.ref b3] n31 })
  (ha3:K.lookup a3=some { cls:=.type "tuple", data:=.seq #[.str "" u31,.str "" u32] n32 })
  (hb3:K.lookup b3=some { cls:=.type "tuple", data:=.seq #[.str "(" u33,.str ")" u34] n33 })
  (hp4:K.lookup p4=some { cls:=.type "tuple", data:=.seq #[.ref a4,.ref b4] n41 })
  (ha4:K.lookup a4=some { cls:=.type "tuple", data:=.seq #[.str "" u41,.str "" u42] n42 })
  (hb4:K.lookup b4=some { cls:=.type "tuple", data:=.seq #[.str "" u43,.str "-" u44] n43 }):Sty w K d:=by
 have ks : ∀ e,e ∈ (#[⟨PyData.keyHash w.params "minus", .str "minus" t0,.ref p0⟩,⟨PyData.keyHash w.params "plus", .str "plus" t1,.ref p1⟩,⟨PyData.keyHash w.params "blank", .str "blank" t2,.ref p2⟩,⟨PyData.keyHash w.params "brackets", .str "brackets" t3,.ref p3⟩,⟨PyData.keyHash w.params "behind", .str "behind" t4,.ref p4⟩]:Array DictEntry) -> ∃ k,Value.isStrOf k e.key=true/\e.hash=hashStr w k:=by
  intro e he
  simp only [List.mem_toArray,mem_cons,List.not_mem_nil,or_false] at he
  rcases he with rfl | rfl | rfl | rfl | rfl
  ·exact ⟨"minus", by simp [Value.isStrOf],rfl⟩
  ·exact ⟨"plus", by simp [Value.isStrOf],rfl⟩
  ·exact ⟨"blank", by simp [Value.isStrOf],rfl⟩
  ·exact ⟨"brackets", by simp [Value.isStrOf],rfl⟩
  ·exact ⟨"behind", by simp [Value.isStrOf],rfl⟩
 intro x hx
 rcases hx with rfl | rfl | rfl | rfl | rfl
 ·refine ⟨p0,a0,b0,⟨_,_,hd,ks,?_⟩,fun H=>⟨.mod hp0 (by simp) (.cons rfl (.cons rfl .nil)),.mod ha0 (by simp) (.cons ⟨u01,?_⟩ (.cons ⟨u02,?_⟩ .nil)),.mod hb0 (by simp) (.cons ⟨u03,?_⟩ (.cons ⟨u04,?_⟩ .nil))⟩⟩
  ·unfold findBy
   simp only [find?_toArray,find?_cons]
   rfl
  ·exact congrArg (fun z=>Value.str z _) (by rw [(yM _).1];decide +kernel)
  ·exact congrArg (fun z=>Value.str z _) (by rw [(yM _).2];decide +kernel)
  ·exact congrArg (fun z=>Value.str z _) (by rw [(yM _).1];decide +kernel)
  ·exact congrArg (fun z=>Value.str z _) (by rw [(yM _).2];decide +kernel)
 ·refine ⟨p1,a1,b1,⟨_,_,hd,ks,?_⟩,fun H=>⟨.mod hp1 (by simp) (.cons rfl (.cons rfl .nil)),.mod ha1 (by simp) (.cons ⟨u11,?_⟩ (.cons ⟨u12,?_⟩ .nil)),.mod hb1 (by simp) (.cons ⟨u13,?_⟩ (.cons ⟨u14,?_⟩ .nil))⟩⟩
  ·unfold findBy
   simp only [find?_toArray,find?_cons]
   rfl
  ·exact congrArg (fun z=>Value.str z _) (by rw [(kX _).1];decide +kernel)
  ·exact congrArg (fun z=>Value.str z _) (by rw [(kX _).2];decide +kernel)
  ·exact congrArg (fun z=>Value.str z _) (by rw [(kX _).1];decide +kernel)
  ·exact congrArg (fun z=>Value.str z _) (by rw [(kX _).2];decide +kernel)
 ·refine ⟨p2,a2,b2,⟨_,_,hd,ks,?_⟩,fun H=>⟨.mod hp2 (by simp) (.cons rfl (.cons rfl .nil)),.mod ha2 (by simp) (.cons ⟨u21,?_⟩ (.cons ⟨u22,?_⟩ .nil)),.mod hb2 (by simp) (.cons ⟨u23,?_⟩ (.cons ⟨u24,?_⟩ .nil))⟩⟩
  ·unfold findBy
   simp only [find?_toArray,find?_cons]
   rfl
  ·exact congrArg (fun z=>Value.str z _) (by rw [(yD _).1];decide +kernel)
  ·exact congrArg (fun z=>Value.str z _) (by rw [(yD _).2];decide +kernel)
  ·exact congrArg (fun z=>Value.str z _) (by rw [(yD _).1];decide +kernel)
  ·exact congrArg (fun z=>Value.str z _) (by rw [(yD _).2];decide +kernel)
 ·refine ⟨p3,a3,b3,⟨_,_,hd,ks,?_⟩,fun H=>⟨.mod hp3 (by simp) (.cons rfl (.cons rfl .nil)),.mod ha3 (by simp) (.cons ⟨u31,?_⟩ (.cons ⟨u32,?_⟩ .nil)),.mod hb3 (by simp) (.cons ⟨u33,?_⟩ (.cons ⟨u34,?_⟩ .nil))⟩⟩
  ·unfold findBy
   simp only [find?_toArray,find?_cons]
   rfl
  ·exact congrArg (fun z=>Value.str z _) (by rw [(jD _).1];decide +kernel)
  ·exact congrArg (fun z=>Value.str z _) (by rw [(jD _).2];decide +kernel)
  ·exact congrArg (fun z=>Value.str z _) (by rw [(jD _).1];decide +kernel)
  ·exact congrArg (fun z=>Value.str z _) (by rw [(jD _).2];decide +kernel)
 ·refine ⟨p4,a4,b4,⟨_,_,hd,ks,?_⟩,fun H=>⟨.mod hp4 (by simp) (.cons rfl (.cons rfl .nil)),.mod ha4 (by simp) (.cons ⟨u41,?_⟩ (.cons ⟨u42,?_⟩ .nil)),.mod hb4 (by simp) (.cons ⟨u43,?_⟩ (.cons ⟨u44,?_⟩ .nil))⟩⟩
  ·unfold findBy
   simp only [find?_toArray,find?_cons]
   rfl
  ·exact congrArg (fun z=>Value.str z _) (by rw [(xF _).1];decide +kernel)
  ·exact congrArg (fun z=>Value.str z _) (by rw [(xF _).2];decide +kernel)
  ·exact congrArg (fun z=>Value.str z _) (by rw [(xF _).1];decide +kernel)
  ·exact congrArg (fun z=>Value.str z _) (by rw [(xF _).2];decide +kernel)
def zJw (P:Program) (w:World) (p:Addr) (kvs:List (Str × V)) (h:Heap):Prop:=∃ us:List (Str × Value),Heap.DictOf (PySem.strKind P w) h p us/\us.map Prod.fst=kvs.map Prod.fst/\qM (kvs.map Prod.snd) (us.map Prod.snd)
def V1 (P:Program) (w:World) (p:Addr) (kvs:List (Str × V)):HO:=.ext (zJw P w p kvs)
theorem zB3 {p:Addr} {kvs:List (Str × V)} (m:zJw P w p kvs h):jo P w H h p (V1 P w p kvs):=by
 refine ⟨m,?_,fun h1 h2 m1 k=>?_⟩
 ·obtain ⟨us,⟨o,es,ep,ho,_⟩,_⟩:=m
  exact ⟨o,ho⟩
 ·obtain ⟨us,⟨o,es,ep,ho,hr⟩,h3,h4⟩:=m1
  exact ⟨us,⟨o,es,ep,k o ho,hr⟩,h3,h4⟩
theorem JC : ∀ (us acc:List (Str × Value)),(acc.map Prod.fst++us.map Prod.fst).Nodup->us.foldl (fun acc kv=>stored acc kv.fst kv.snd) acc=acc++us
 | [],acc,_=>by simp
 | u::us,acc,h=>by
  have hn:(acc.any fun kv=>decide (kv.fst=u.1))=false:=by
   rw [List.any_eq_false]
   intro kv hkv z
   have z':kv.fst=u.1:=of_decide_eq_true z
   rw [map_cons,List.nodup_append] at h
   exact h.2.2 kv.fst (List.mem_map.mpr ⟨kv,hkv,rfl⟩) u.1 List.mem_cons_self z'
  have e:stored acc u.fst u.snd=acc++[u]:=by
   unfold stored
   rw [hn];rfl
  rw [foldl_cons,e,JC us (acc++[u]) (by rw [List.map_append,append_assoc];exact h),append_assoc];rfl
section
variable {X : Cx} {H : Hp} {Q : VK} {K : W.Frag} {σ : St}
def PM (X:Cx) (pos:Pos) (keys:List (Option Expr)) (values:List Expr) (ks:List Str) (t:TA):Prop:=
 ∀ (pins:List (Addr × Obj)) (s:Shared) (σ:St) (H:Hp) (R:List V->Hp->Prop),Inv X pins σ H s->t σ H R ->
  wpAny (model X.prog X.w) X.A (evalPairs (pairTrees keys values X.env pos)) (fun ws s2=>∃ vs H2,Inv X pins σ H2 s2/\(∃ us:List (Str × Value),Carries (PySem.strKind X.prog X.w) ws us/\us.map Prod.fst=ks/\qM vs (us.map Prod.snd))/\R vs H2) X.xe s
theorem zHo:PM X pos [] [] [] zAr:=fun pins s σ H R I h=>pairTrees_nil_walk ⟨[],H,I,⟨[],trivial,rfl,.nil⟩,h⟩
theorem Kb {j:Nat} {v:Expr} {ks:List (Option Expr)} {vs:List Expr} {xs:List Str} {tv:TE} (hv:PE X v tv) (hr:PM X pos ks vs xs t):PM X pos (some (.Constant (.str x) j p)::ks) (v::vs) (x::xs) (zBS tv t):=by
 intro pins s σ H R I h
 refine pairTrees_cons_walk (Calls.Constant_str (thn (hv pins _ σ H _ (I.tok _) h) fun vv s2 ⟨y,H1,I1,r1,q1⟩=>thn (hr pins s2 σ H1 _ I1 q1) fun ws s3 ⟨ys,H2,I2,⟨us,c,e,r⟩,q2⟩=>?_))
 exact ⟨y::ys,H2,I2,⟨(x,vv)::us,⟨by simp [PySem.strKind,Value.isStrOf],rfl,c⟩,by rw [map_cons,e],.cons r1 r⟩,q2⟩
def zLu (P:Program) (w:World) (ks:List Str) (t:TA):TE:=fun σ H Q=>∀ p H0,H p=none->zc H H0->H0 p=some (V1 P w p [])->t σ H0 fun vs H1=>H1 p=some (V1 P w p [])/\vs.length=ks.length /\ ∀ H2,SB p H1 H2->H2 p=some (V1 P w p (ks.zip vs))->Q (.ref p) H2
theorem zJT {keys:List (Option Expr)} {values:List Expr} {ks:List Str} (h:PM X pos keys values ks t) (hall:keys.all (·.isSome)=true) (hl:keys.length=values.length) (h0:keys≠[]) (h15:keys.length<=15) (nd:ks.Nodup) :
  PE X (.Dict keys values pos) (zLu X.prog X.w ks t):=by
 intro pins s σ H Q I q
 have hn:=I.hok.fresh (Nat.le_refl s.heap.objs.size)
 have I1:=I.laid (a:=s.heap.objs.size) (o:=V1 X.prog X.w s.heap.objs.size []) (h':=s.heap.push { cls:=.type "dict", data:=.dict #[] }) (t':=s.toks) (fun _ _ q=>Heap.get?_push_of_some _ q) (Nat.le_refl _) (zB3 ⟨[],Heap.DictOf.new _,rfl,.nil⟩)
 refine wpAny_Dict_walk (knd:=PySem.strKind X.prog X.w) hall hl h0 h15 (thn (h pins _ σ _ _ I1 (q _ _ hn (jB hn _) zK)) fun ws s2 ⟨vs,H2,I2,⟨us,c,e,r⟩,e0,lk,q2⟩=>?_)
 obtain ⟨us0,dd,z1,_⟩:=(I2.hok _ _ e0).1
 have z2:us0=[]:=List.map_eq_nil_iff.mp z1
 subst z2
 refine ⟨us,c,dd,fun h' dd' hs=>⟨.ref s.heap.objs.size,_,?_,rfl,q2 _ (fun b o n z=>by rw [zf n];exact z) zK⟩⟩
 have em:merged [] us=us:=by unfold merged;rw [JC us [] (by rw [List.map_nil,List.nil_append,e];exact nd),List.nil_append]
 rw [em] at dd'
 have he : ∃ q,h'.get? s.heap.objs.size=some q:=let ⟨q,_,_,hq,_⟩:=dd';⟨q,hq⟩
 refine I2.write (x:=s.heap.objs.size) (e:=s.heap.objs.size) (by rw [e0];exact trivial) (.inl rfl) (fun b q hb z=>(hs.2 b hb).trans z) he (zB3 ⟨us,dd',?_,?_⟩)
 ·rw [e,List.map_fst_zip (by omega)]
 ·rw [List.map_snd_zip (by omega)];exact r
def YZ (kvs:List (Str × V)) (z:Str):Option V:=(kvs.find? fun kv=>decide (kv.1=z)).map Prod.snd
theorem WR : ∀ {kvs:List (Str × V)} {us:List (Str × Value)} {z:Str} {v:V},us.map Prod.fst=kvs.map Prod.fst->qM (kvs.map Prod.snd) (us.map Prod.snd)->YZ kvs z=some v -> ∃ u,valueAt us z=some u/\jz v u
 | [],us,z,v,_,_,h=>by cases h
 | kv::kvs,[],z,v,e,_,h=>by cases e
 | kv::kvs,u::us,z,v,e,r,h=>by
  rw [map_cons,map_cons,List.cons.injEq] at e
  rw [map_cons,map_cons] at r
  cases r with
  | cons r1 r2 =>
   unfold YZ at h
   unfold valueAt
   rw [find?_cons] at h ⊢
   rw [e.1]
   by_cases hz:kv.1=z
   ·rw [decide_eq_true hz] at h ⊢
    cases h
    exact ⟨u.2,rfl,r1⟩
   ·rw [decide_eq_false hz] at h ⊢
    exact WR e.2 r2 h
theorem zK6 {ks:List Str} (h : ∀ p H0,H p=none->zc H H0->H0 p=some (V1 P w p [])->t σ H0 fun vs H1=>H1 p=some (V1 P w p [])/\vs.length=ks.length /\ ∀ H2,SB p H1 H2->H2 p=some (V1 P w p (ks.zip vs))->Q (.ref p) H2):zLu P w ks t σ H Q:=h
def zKN (P:Program) (w:World):R2:=fun x y H Q=>∃ p z kvs v,x = .ref p/\y = .str z/\H p=some (V1 P w p kvs)/\YZ kvs z=some v/\Q v H
theorem zHy:IxR X (zKN X.prog X.w):=by
 intro value slice pins s σ H x y v u Q I rx ry h hs
 obtain ⟨p,z,kvs,v0,rfl,rfl,hp,lk,q⟩:=h
 cases rx
 obtain ⟨t,rfl⟩:=ry
 obtain ⟨us,dd,h3,h4⟩:=(I.hok _ _ hp).1
 obtain ⟨u0,hu,ru⟩:=WR h3 h4 lk
 have fin : ∀ k,EP X pins σ Q u0 { s with toks:=k }:=fun k=>⟨v0,H,I.tok _,ru,q⟩
 have ty:s.TypeIs (.ref p) "dict" := by
  obtain ⟨o,es,ep,ho,hx,_⟩:=id dd
  exact ⟨o,ho,hx.1⟩
 exact subscriptTail_builtinR (x:=u0) ty slot_dict_getitem.lookup
  (wpAny_getItem_of (knd:=PySem.strKind X.prog X.w) (k:=z) (Q:=fun r s'=>r=u0/\EP X pins σ Q r s') (by simp [PySem.strKind,Value.isStrOf]) dd.mapOf hu ⟨rfl,fin _⟩) hs
theorem zKn {p:Addr} {z:Str} {kvs:List (Str × V)} {v:V} (hp:H p=some (V1 P w p kvs)) (lk:YZ kvs z=some v) (q:Q v H):zKN P w (.ref p) (.str z) H Q:=⟨p,z,kvs,v,rfl,rfl,hp,lk,q⟩
end
def bod (x:Str) (b:Bool) (t:List Nat):List Nat:=(t.take (t.length - (stT x b).length)).drop (stL x b).length
def Fg (l:List Nat):Prop:=l≠[]/\0<=fv (l.getD 0 0)/\0<=fv (l.getD (l.length - 1) 0)
def Sgd (x:Str) (b:Bool) (t:List Nat):Prop:=Fg (bod x b t)/\stL x b++bod x b t++stT x b=t
theorem zIx (h:Qj x) (b:Bool):Asc (stL x b)/\Asc (stT x b):=by
 unfold Asc
 rcases h with rfl | rfl | rfl | rfl | rfl
 ·rw [(yM b).1,(yM b).2];cases b <;> decide
 ·rw [(kX b).1,(kX b).2];cases b <;> decide
 ·rw [(yD b).1,(yD b).2];cases b <;> decide
 ·rw [(jD b).1,(jD b).2];cases b <;> decide
 ·rw [(xF b).1,(xF b).2];cases b <;> decide
section
variable {X : Cx} {H : Hp} {Q : VK} {K : W.Frag} {σ : St}
def zLq:V->List V->Hp->VK->Prop:=fun x vs H Q=>∃ (a:List Nat) (i:Int) (c:Nat),x = .str (T a)/\vs=[.int i,.str (T [c])]/\0<=i/\i<=1000/\Q (.str (T (List.replicate (i.toNat - a.length) c++a))) H
theorem zBa:MtR X "str.rjust" zLq:=by
 intro pins s σ H x vs v us Q I rx rv h
 obtain ⟨a,i,c,rfl,rfl,h0,h1,q⟩:=h
 obtain ⟨t,rfl⟩:=rx
 obtain ⟨u1,u2,rfl,r1,r2⟩:=Y1 rv
 obtain ⟨t1,rfl⟩:=r1
 obtain ⟨t2,rfl⟩:=r2
 have pk:PadOk i=true:=by
  unfold PadOk Builtin.Str.tooLong fitsSsize
  have : ¬ i.toNat > sizeLine:=by show ¬ i.toNat > 16777216;omega
  rw [decide_eq_false this]
  simp
  omega
 refine rjust_fill pk rfl fun t' k=>⟨.str _,H,I.tok _,⟨t',rfl⟩,?_⟩
 have e:Txt.rjustF (T a) i ((T [c]).cps.getD 0 0)=T (List.replicate (i.toNat - a.length) c++a):=YL (rjustF_list (T a) i c)
 rw [e];exact q
theorem zKX {a:List Nat} {c:Nat} (h0:0<=i) (h1:i<=1000) (q:Q (.str (T (List.replicate (i.toNat - a.length) c++a))) H):zLq (.str (T a)) [.int i,.str (T [c])] H Q:=⟨a,i,c,rfl,rfl,h0,h1,q⟩
end
def dgs (b p n:Nat):List Nat:=List.replicate (p+1 - (QS b n).length) 48++QS b n
theorem YQ {b p:Nat} (h2:2<=b) (h16:b<=16) (hp:p<=6) (h:n < b ^ (40+p)):xG b (dgs b p n)/\val b (dgs b p n)=n/\p+1<=(dgs b p n).length/\(dgs b p n).length<=40+p/\((dgs b p n).getD 0 0=48->(dgs b p n).length=p+1):=by
 have s:=XM h2 h16 n n (Nat.le_refl _)
 have ln:=Yt h2 (39+p) n (by rw [show 39+p+1=40+p by omega];exact h)
 have ps:=List.length_pos_iff.mpr s.2.2.1
 have ld:(dgs b p n).length=p+1 - (QS b n).length+(QS b n).length:=by unfold dgs;rw [length_append,List.length_replicate]
 refine ⟨(xG.noughts (by omega) _).app s.1,?_,by omega,by omega,fun z=>?_⟩
 ·unfold dgs;rw [J1];exact s.2.1
 ·rcases lt_or_ge (p+1) (QS b n).length with q | q
  ·have e:dgs b p n=QS b n:=by unfold dgs;rw [show p+1 - (QS b n).length=0 by omega];rfl
   rw [e] at z
   have:=s.2.2.2 z
   subst this
   rw [xM (by omega)] at q
   simp at q
  ·omega
def whl (b p n:Nat):List Nat:=(dgs b p n).take ((dgs b p n).length - p)
def rst (b p n:Nat):List Nat:=(dgs b p n).drop ((dgs b p n).length - p)
def bdy (b p pt z m n:Nat):List Nat:=if p=0 then gr z m (whl b p n) else gr z m (whl b p n)++[pt]++rst b p n
theorem zBd (b p n:Nat):whl b p n++rst b p n=dgs b p n:=List.take_append_drop _ _
theorem WK {b p:Nat} (h2:2<=b) (h16:b<=16) (hp:p<=6) (h:n < b ^ (40+p)):1<=(whl b p n).length/\(whl b p n).length<=40/\(rst b p n).length=p/\((whl b p n).getD 0 0=48->(whl b p n).length=1):=by
 have s:=YQ h2 h16 hp h
 have lw:(whl b p n).length=(dgs b p n).length - p:=by unfold whl;rw [length_take];omega
 refine ⟨by omega,by omega,by unfold rst;rw [length_drop];omega,fun z=>?_⟩
 have e:(whl b p n).getD 0 0=(dgs b p n).getD 0 0:=by
  rw [<- zBd b p n,ka (by omega)]
 rw [e] at z
 have:=s.2.2.2.2 z
 omega
theorem zDG {a:List Nat} (hk:k < a.length):gr z m (a.drop k)=a.getD k 0::((if 0 < z/\0 < a.length - (k+1)/\(a.length - (k+1)) % z=0 then [m] else [])++gr z m (a.drop (k+1))):=by
 have t:=zGX (z:=z) (m:=m) (a:=a) (k:=a.length - (k+1)) (by omega)
 rw [show a.length - (a.length - (k+1)+1)=k by omega,show a.length - 1 - (a.length - (k+1))=k by omega,show a.length - (a.length - (k+1))=k+1 by omega] at t
 exact t
section
variable {X : Cx} {H : Hp} {Q : VK} {K : W.Frag} {σ : St}
theorem VW : ∀ {kvs:List (Str × V)} {us:List (Str × Value)} {z:Str},us.map Prod.fst=kvs.map Prod.fst->YZ kvs z=none->valueAt us z=none
 | [],us,z,e,_=>by
  have:us=[]:=by simpa using e
  subst this;rfl
 | kv::kvs,[],z,e,h=>by cases e
 | kv::kvs,u::us,z,e,h=>by
  rw [map_cons,map_cons,List.cons.injEq] at e
  unfold YZ at h
  unfold valueAt
  rw [find?_cons] at h ⊢
  rw [e.1]
  by_cases hz:kv.1=z
  ·rw [decide_eq_true hz] at h;cases h
  ·rw [decide_eq_false hz] at h ⊢
   exact VW e.2 h
end
theorem zEa {z m:Nat} : ∀ (k:Nat) (b:List Nat),b.length<=k -> ∀ c ∈ RJ z m b,c ∈ b\/c=m
 | 0,b,h,c,hc=>by rw [kY (by omega)] at hc;exact .inl hc
 | k+1,b,h,c,hc=>by
  rcases eq_zero_or_pos z with p | p
  ·subst p;rw [XF] at hc;exact .inl hc
  ·rcases lt_or_ge z b.length with q | q
   ·rw [Yx p q] at hc
    rcases List.mem_append.mp hc with hc | hc
    ·exact .inl (List.mem_of_mem_take hc)
    ·rcases List.mem_cons.mp hc with hc | hc
     ·exact .inr hc
     ·rcases zEa k (b.drop z) (by rw [length_drop];omega) c hc with hc | hc
      ·exact .inl (List.mem_of_mem_drop hc)
      ·exact .inr hc
   ·rw [kY q] at hc;exact .inl hc
theorem zIg {a:List Nat} (h:Asc a) (hm:m < 127):Asc (gr z m a):=fun c hc=>by
 unfold gr at hc
 rcases zEa _ a.reverse (Nat.le_refl _) c (List.mem_reverse.mp hc) with z | z
 ·exact h c (List.mem_reverse.mp z)
 ·rw [z];exact hm
theorem zFx {b:List Nat} (h:0 < b.length):(RJ z m b).getD 0 0=b.getD 0 0:=by
 rcases eq_zero_or_pos z with p | p
 ·subst p;rw [XF]
 ·rcases lt_or_ge z b.length with q | q
  ·rw [Yx p q,ka (by rw [length_take];omega),getD_eq_getElem?_getD,List.getElem?_take,if_pos p,<- getD_eq_getElem?_getD]
  ·rw [kY q]
theorem zGG {a:List Nat} (h:0 < a.length):(gr z m a).getD ((gr z m a).length - 1) 0=a.getD (a.length - 1) 0:=by
 have l:=zB9 (z:=z) (m:=m) (a:=a)
 have e1:(RJ z m a.reverse).getD 0 0=a.reverse.getD 0 0:=zFx (by rw [length_reverse];exact h)
 rw [Yn h] at e1
 have e2:(gr z m a).reverse=RJ z m a.reverse:=by unfold gr;rw [reverse_reverse]
 rw [<- e2,Yn (by omega)] at e1
 rw [show (gr z m a).length - 1=(gr z m a).length - 1 - 0 by omega,e1];rfl
theorem zBM {a:List Nat} (h:0 < a.length):(gr z m a).getD 0 0=a.getD 0 0:=by
 have f:=zDG (z:=z) (m:=m) (a:=a) (k:=0) h
 rw [drop_zero] at f
 rw [f];rfl
theorem xG.get {b:Int} {l:List Nat} (h:xG b l) {i:Nat} (hi:i < l.length):0<=fv (l.getD i 0):=by
 rw [getD_eq_getElem?_getD,getElem?_eq_getElem hi];exact (h _ (List.getElem_mem hi)).2.1
theorem zDm {b p pt:Nat} (h2:2<=b) (h16:b<=16) (hp:p<=6) (h:n < b ^ (40+p)) (hpt:pt < 127) (hm:m < 127):Fg (bdy b p pt z m n)/\Asc (bdy b p pt z m n)/\(bdy b p pt z m n).length<=100:=by
 have ds:=YQ h2 h16 hp h
 have ws:=WK h2 h16 hp h
 have wr:=zBd b p n
 have fw:xG b (whl b p n):=fun c hc=>ds.1 c (by rw [<- wr];exact mem_append_left _ hc)
 have fr:xG b (rst b p n):=fun c hc=>ds.1 c (by rw [<- wr];exact mem_append_right _ hc)
 have gl:=zB9 (z:=z) (m:=m) (a:=whl b p n)
 have ag:=zIg (z:=z) (m:=m) fw.asc hm
 unfold bdy Fg
 rcases eq_zero_or_pos p with q | q
 ·rw [if_pos q]
  refine ⟨⟨List.length_pos_iff.mp (by omega),?_,?_⟩,ag,by omega⟩
  ·rw [zBM (by omega)];exact fw.get (by omega)
  ·rw [zGG (by omega)];exact fw.get (by omega)
 ·rw [if_neg (by omega)]
  refine ⟨⟨by simp,?_,?_⟩,(ag.app (Asc.one hpt)).app fr.asc,by simp only [length_append,List.length_singleton];omega⟩
  ·rw [append_assoc,ka (by omega),zBM (by omega)];exact fw.get (by omega)
  ·rw [zCB (by simp only [length_append,List.length_singleton];omega)]
   exact fr.get (by simp only [length_append,List.length_singleton];omega)
theorem zJM {b:Bool} {B:List Nat}:bod x b (stL x b++B++stT x b)=B:=by
 unfold bod
 rw [show (stL x b++B++stT x b).length - (stT x b).length=(stL x b++B).length by simp only [length_append];omega,List.take_append_of_le_length (Nat.le_refl _),take_length,List.drop_append,drop_of_length_le (Nat.le_refl _),Nat.sub_self];rfl
def zI1 (X:Cx) (E:XK):Prop:=∀ (pins:List (Addr × Obj)) (σ:St) (e:Value) (s':Shared),XP X pins σ E e s'->X.xe e s'
section
variable {P : Program} {w : World} {K : W.Frag} {mg : Str -> Option Value} {base : Heap} {N : List Str} {qual : Str} {scope : Scope} {f : Addr} {cd : Value} {A : Around} {outer : List Env} {s : Shared} {H : Hp} {E : XK}
theorem zCM:zI1 (QX (CXE P w) P w K mg base N qual scope f cd A outer s H E) E:=by
 intro pins σ e s' h
 obtain ⟨H1,s1,I1,fl⟩:=h
 obtain ⟨x,C,a0,H',B,rfl,hos,hbare,fly,clo,hx1,hx2,q⟩:=fl
 refine wpAny_leaves_onW I1.ok.frames rfl fly fun h2 fly2 sm=>?_
 refine ⟨x,C,a0,H',B,rfl,hos.trans I1.os,hbare,fly2,fun h3 st sm3=>?_,?_,hx2,q⟩
 ·have cl:=clo h3 st (sm.trans sm3)
  have I3:=I1.call' (s':={ s' with heap:=h3 }) hos cl.1 cl.2 hbare (fun b z=>nomatch z)
  exact ⟨I3.base,I3.hok⟩
 ·cases z:s.heap.get? x with
  | none=>rfl
  | some o =>
   obtain ⟨o',e1⟩:=I1.base.there x o z (fun h=>nomatch h)
   rw [hx1] at e1;cases e1
end
variable {N:List Str} {qual:Str} {f:Addr}
theorem zAk {base:Heap} {scope:Scope} {cd:Value} {A:Around} {outer:List Env} {s:Shared}:jW (CXE P w) (QX (CXE P w) P w K mg base N qual scope f cd A outer s H E) E:=fun pins σ H1 s1 e s' I h=>zCM pins σ e s' ⟨H1,s1,I,h⟩
abbrev tsV (ts:List (List Nat)):List V:=ts.map fun l=>V.str (T l)
theorem zBL (ts:List (List Nat)):(tsV ts).all Xn=true:=by
 rw [List.all_eq_true];intro x hx
 obtain ⟨l,_,rfl⟩:=List.mem_map.mp hx
 rfl
theorem zIF (a b:List Nat):eqV (.str (T a)) (.str (T b))=decide (a=b):=by
 show (T a == T b)=_
 rw [Bool.eq_iff_iff,beq_iff_eq,decide_eq_true_iff,zKB]
section
variable {X : Cx} {H : Hp} {Q : VK} {K : W.Frag}
theorem Wa (t:List Nat) (ts:List (List Nat)):inV (.str (T t)) (tsV ts)=decide (t ∈ ts):=by
 unfold inV
 rw [Bool.eq_iff_iff,List.any_eq_true,decide_eq_true_iff]
 constructor
 ·rintro ⟨y,hy,e⟩
  obtain ⟨l,hl,rfl⟩:=List.mem_map.mp hy
  rw [zIF,decide_eq_true_iff] at e
  exact e ▸ hl
 ·intro h
  exact ⟨_,List.mem_map.mpr ⟨t,h,rfl⟩,by rw [zIF,decide_eq_true_iff]⟩
theorem zFb {p:Addr} {t:List Nat} (h:SqL K H p (tsV ts)) (q:Q (.bl (!decide (t ∈ ts))) H):rIn K true (.str (T t)) (.ref p) H Q:=⟨p,_,rfl,.inl h,rfl,zBL ts,by rw [Wa];exact q⟩
theorem zFk {p:Addr} (h:SqL K H p (tsV ts)) (h0:0 < ts.length) (q:Q (.str (T (ts.getD (ts.length - 1) []))) H):zGp K (.ref p) (.int (-1)) H Q:=by
 refine zAm h (v:=.str (T (ts.getD (ts.length - 1) []))) ?_ q
 unfold atI ixN
 rw [length_map,if_neg (show ¬ (0:Int) <= -1 by decide),if_pos (show -(ts.length:Int) <= -1 by omega)]
 show (tsV ts)[((-1:Int)+ts.length).toNat]? = _
 rw [show ((-1:Int)+ts.length).toNat=ts.length - 1 by omega,getElem?_map,getD_eq_getElem?_getD,getElem?_eq_getElem (by omega)]
 rfl
def zBy (K:W.Frag):List V->Hp->VK->Prop:=fun xs H Q=>∃ p ys,xs=[.ref p]/\(SqL K H p ys\/SqT K H p ys) /\ ∀ l,H l=none->Q (.ref l) (upd H l (.lst ys))
theorem KI:jC X (.type "list") (zBy X.K):=Y2
theorem K6 {p:Addr} {ys:List V} (h:SqL K H p ys) (q : ∀ l H',zc H H'->H l=none->H' l=some (.lst ys)->Q (.ref l) H'):zBy K [.ref p] H Q:=⟨p,ys,rfl,.inl h,fun l hl=>q l _ (qO (zc.refl _) hl) hl zK⟩
def zAy:V->List V->Hp->VK->Prop:=fun x xs H Q=>∃ a b:List Nat,x = .str (T a)/\xs=[.str (T b)]/\Q (.bl (decide (a.take b.length=b))) H
theorem zHA (a b:List Nat):Txt.startswith (T a) (T b)=decide (a.take b.length=b):=by
 have la:(T a).length=a.length:=rfl
 have lb:(T b).length=b.length:=rfl
 unfold Txt.startswith
 rw [StrLaws.subAt_eq,drop_zero,la,lb]
 show (decide (0+b.length<=a.length) && (a.take b.length == b))=_
 rw [Bool.eq_iff_iff,Bool.and_eq_true,decide_eq_true_iff,decide_eq_true_iff,beq_iff_eq]
 constructor
 ·exact fun h=>h.2
 ·intro h
  have:=congrArg List.length h
  rw [length_take] at this
  exact ⟨by omega,h⟩
theorem Xj:MtR X "str.startswith" zAy:=by
 intro pins s σ H x xs v us Q I rx rv h
 obtain ⟨a,b,rfl,rfl,q⟩:=h
 obtain ⟨t,rfl⟩:=rx
 obtain ⟨u,rfl,ru⟩:=rv.one
 obtain ⟨t',rfl⟩:=ru
 exact SC.startswith ⟨.bl _,H,I,rfl,by rw [zHA];exact q⟩
theorem zDX {a b:List Nat} (q:Q (.bl (decide (a.take b.length=b))) H):zAy (.str (T a)) [.str (T b)] H Q:=⟨a,b,rfl,rfl,q⟩
end
def lk (n w:Int):Int:=if n < w then w - n else 0
def zC4 (x:Str):Prop:=x = "left" \/ x = "right" \/ x = "middle"
def pA (x:Str) (n w:Int):Int:=if x = "left" then 0 else if x = "right" then lk n w else lk n w / 2
def pB (x:Str) (n w:Int):Int:=lk n w - pA x n w
def sl (t:List Nat) (w:Int) (x:Str) (n:Nat):List Nat:=(t.take ((pA x n w)+n).toNat).drop (pA x n w).toNat
def fa (f:Nat):List Nat->Nat
 | []=>0
 | c::t=>if c=f then fa f t+1 else 0
structure KJ (K:W.Frag) (x qual:Str) (st:Stmt) (f:Addr) (fd:FuncData):Prop where
 ex : ∃ (oc:Value) (od:Option Addr) (dV kV doc pm:Value) (an:Option Addr) (cdv ct:Value) (osl:Array (Option Value)),
  fd=W.fnOf x qual (qP st) (z6 st) (zG st) dV kV doc pm an cdv ct/\K.lookup f=some ⟨oc,od,.func fd,osl⟩/\W.codeIn K cdv qual=true
 kp:W.keepIn K (.ref f)=true
variable {st:Stmt}
theorem Fun.d (F:Fun K x qual st f fd):KJ K x qual st f fd:=by
 obtain ⟨oc,od,kV,doc,pm,an,cdv,ct,osl,h⟩:=F.ex
 exact ⟨⟨oc,od,.none,kV,doc,pm,an,cdv,ct,osl,h⟩,F.kp⟩
section
variable {P : Program} {w : World} {K : W.Frag} {mg : Str -> Option Value} {base : Heap}
theorem KJ.ok (F:KJ K x qual st f fd) (S:zN N ps (zG st)) (len : ∀ vs H Q E,sp vs H Q E->vs.length=ps.length)
  (hbody : ∀ (cdv:Value) (A:Around) (outer:List Env) (s:Shared) (H:Hp) (vs:List V) (Q:VK) (E:XK),j5 k (A.deeper (envOfC qual (zG st) s.heap.objs.size f cdv))->sp vs H Q E ->
   ∃ t,PSs (QX CX0 P w K mg base N qual (zG st) f cdv A outer s H E).nox (z6 st) t/\t { nx:=fun _ H'=>Q .non H',rt:=Q } (start N vs) H):xx P w K mg base CX0 (k+1) f fd ps sp:=by
 obtain ⟨oc,od,dV,kV,doc,pm,an,cdv,ct,osl,rfl,lk,hcd⟩:=F.ex
 refine zCD lk hcd S len fun A outer s H vs Q E hr hsp=>?_
 obtain ⟨t,h,q⟩:=hbody cdv A outer s H vs Q E hr hsp
 exact ⟨t,h.nox,q⟩
theorem KJ.okX (F:KJ K x qual st f fd) (S:zN N ps (zG st)) (len : ∀ vs H Q E,sp vs H Q E->vs.length=ps.length)
  (hbody : ∀ (cdv:Value) (A:Around) (outer:List Env) (s:Shared) (H:Hp) (vs:List V) (Q:VK) (E:XK),j5 k (A.deeper (envOfC qual (zG st) s.heap.objs.size f cdv))->sp vs H Q E ->
   zGd (QX (CXE P w) P w K mg base N qual (zG st) f cdv A outer s H E) E->jW (CXE P w) (QX (CXE P w) P w K mg base N qual (zG st) f cdv A outer s H E) E -> ∃ t,PSs (QX (CXE P w) P w K mg base N qual (zG st) f cdv A outer s H E) (z6 st) t/\t { nx:=fun _ H'=>Q .non H',rt:=Q } (start N vs) H):xx P w K mg base (CXE P w) (k+1) f fd ps sp:=by
 obtain ⟨oc,od,dV,kV,doc,pm,an,cdv,ct,osl,rfl,lk,hcd⟩:=F.ex
 exact zCD lk hcd S len fun A outer s H vs Q E hr hsp=>hbody cdv A outer s H vs Q E hr hsp (fun pins σ H s h' x C args I hm q=>XV I hm q) zAk
theorem KJ.binds (F:KJ K x qual st f fd)
  (h : ∀ (dV kV doc pm:Value) (an:Option Addr) (cdv ct:Value) (us:List Value),us.length=ps.length->bindArgs (W.fnOf x qual (qP st) (z6 st) (zG st) dV kV doc pm an cdv ct) ⟨us,[]⟩=pure (ps.zip us)):jx K fd ps []:=by
 obtain ⟨oc,od,dV,kV,doc,pm,an,cdv,ct,osl,rfl,lk,hcd⟩:=F.ex
 exact .all (h dV kV doc pm an cdv ct)
theorem zBT {oc:Value} {od an:Option Addr} {osl:Array (Option Value)} {dV kV doc pm cdv ct:Value} (l:K.lookup f=some ⟨oc,od,.func (W.fnOf x qual (qP st) (z6 st) (zG st) dV kV doc pm an cdv ct),osl⟩)
  (c:W.codeIn K cdv qual=true) (k:W.keepIn K (.ref f)=true):KJ K x qual st f (W.fnOf x qual (qP st) (z6 st) (zG st) dV kV doc pm an cdv ct):=⟨⟨oc,od,dV,kV,doc,pm,an,cdv,ct,osl,rfl,l,c⟩,k⟩
end
def zKF (P:Program) (w:World) (K:W.Frag) (mg:Str->Option Value) (base:Heap) (CX:CXT) (C:Addr) (m:Str) (k:Nat) (ps:List Str) (sp:Sp):Prop:=
 ∃ (f:Addr) (fd:FuncData),xx P w K mg base CX k f fd ps sp/\zKA K C m f/\jx K fd ps []
def zKV (P:Program) (w:World) (K:W.Frag) (mg:Str->Option Value) (base:Heap) (CX:CXT) (C:Addr) (k:Nat) (ps:List Str) (sp:Sp):Prop:=
 ∃ (f:Addr) (fd:FuncData),xx P w K mg base CX k f fd ps sp/\Mk K C f/\jx K fd ps []
structure zKa (K:W.Frag) (C:Addr) (m:Str) (f:Addr):Prop where
 sp:W.specialIn K (.ref C) "__getattribute__" = some (some (.builtin "type.__getattribute__"))
 rd:W.readsIn K C (.type "type")=true
 fc:W.findCls K (.ref C) (.type "type") m=some (.val (.ref f))
 kp:W.keepIn K (.ref f)=true
def zKC (P:Program) (w:World) (K:W.Frag) (mg:Str->Option Value) (base:Heap) (CX:CXT) (C:Addr) (m:Str) (k:Nat) (ps:List Str) (sp:Sp):Prop:=
 ∃ (f:Addr) (fd:FuncData),xx P w K mg base CX k f fd ps sp/\zKa K C m f/\jx K fd ps []
section
variable {X : Cx} {CX : CXT} {k n : Nat} {C : Addr} {ps : List Str} {sp : Sp} {E : XK} {x m : Str} {p np pos apos : Pos} {e o : Expr} {es : List Expr} {ta : TE} {t : TA}
variable {pl:Sem Bool}
theorem zj (F:zKF X.prog X.w X.K X.mg X.base CX C m k ps sp) (c:Cls X.K C) (hx:jW CX X E) (hr:j5 n X.A) (he:PE X o ta) (ha:PA X (e::es) t) (hk:k<=n:=by decide)
  (hst:starEach (e::es) X.env=(false,eval e X.env)::starEach es X.env:=by rfl) (hpl:(backTo pos (starEach es X.env)).any (·.1)=false:=by rfl)
  (ht:eval (.Call (.Attribute o m apos) (e::es) [] pos) X.env=(do
   let ov <- eval o X.env
   standAt apos.atName
   let (f,first) <- holding [ov] (getMethod ov m pl)
   callWith pos f first (backTo pos (starEach (e::es) X.env)) (backToKw pos (keywordEach [] X.env))):=by rfl) :
  PE X (.Call (.Attribute o m apos) (e::es) [] pos) (VQ C m sp [] E ta t):=by
 obtain ⟨f,fd,G,M,b⟩:=F
 exact zGL (pl:=pl) he c M (G.mono hk) hr b .nil hx ha hst hpl ht
theorem qQ (F:zKF X.prog X.w X.K X.mg X.base CX C m k ps sp) (c:Cls X.K C) (hx:jW CX X E) (hr:j5 n X.A) (he:PE X o ta) (hk:k<=n:=by decide)
  (ht:eval (.Call (.Attribute o m apos) [] [] pos) X.env=(do
   let ov <- eval o X.env
   standAt apos.atName
   let (f,first) <- holding [ov] (getMethod ov m pl)
   callWith pos f first (backTo pos (starEach [] X.env)) (backToKw pos (keywordEach [] X.env))):=by rfl) :
  PE X (.Call (.Attribute o m apos) [] [] pos) (VQ C m sp [] E ta zAr):=by
 obtain ⟨f,fd,G,M,b⟩:=F
 exact zEE (pl:=pl) he c M (G.mono hk) hr b .nil hx ht
theorem JY (F:zKV X.prog X.w X.K X.mg X.base CX C k ps sp) (hx:jW CX X E) (hr:j5 n X.A) (hg:Gl X x) (hm:X.mg x=some (.ref C)) (ha:PA X (e::es) t) (hk:k+1<=n:=by decide)
  (hdb:(x == ("__debug__" : Str))=false:=by decide) (he:starEach (e::es) X.env=(false,eval e X.env)::starEach es X.env:=by rfl) (hpl:(backTo pos (starEach es X.env)).any (·.1)=false:=by rfl) :
  PE X (.Call (.Name x p) (e::es) [] pos) (zFs C sp [] E t):=by
 obtain ⟨f,fd,G,M,b⟩:=F
 exact zFq M G (hr.mono hk) hg hm b .nil hx ha hdb he hpl
theorem Jb (F:zKC X.prog X.w X.K X.mg X.base CX C m k ps sp) (hx:jW CX X E) (hr:j5 n X.A) (hg:Gl X x) (hm:X.mg x=some (.ref C)) (ha:PA X (e::es) t) (hk:k<=n:=by decide)
  (hdb:(x == ("__debug__" : Str))=false:=by decide) (hst:starEach (e::es) X.env=(false,eval e X.env)::starEach es X.env:=by rfl) (hpl:(backTo pos (starEach es X.env)).any (·.1)=false:=by rfl)
  (ht:eval (.Call (.Attribute (.Name x np) m apos) (e::es) [] pos) X.env=(do
   let ov <- eval (.Name x np) X.env
   standAt apos.atName
   let (f,first) <- holding [ov] (getMethod ov m pl)
   callWith pos f first (backTo pos (starEach (e::es) X.env)) (backToKw pos (keywordEach [] X.env))):=by rfl) :
  PE X (.Call (.Attribute (.Name x np) m apos) (e::es) [] pos) (Ye sp [] E t):=by
 intro pins s σ H Q I h
 obtain ⟨f,fd,G,M,b⟩:=F
 refine W.methodCall_KW (pl:=pl) (jr I hg hm ?_ hdb) ht
 refine W.method_cls I.kIn M.sp (W.cls_value I.kIn M.rd M.fc rfl ?_)
 have I1:=I.tok (s.toks+1)
 refine W.callWith_K (first:=[]) (h₀:=X.base) I.ok.mod.kin M.kp (thn (ha pos pins _ σ H _ I1 h) fun us s2 ⟨vs,H2,I2,r,q2⟩=>⟨I2.kIn,?_⟩) hst hpl
 exact Vt (us:=us) (vs:=vs) (G.mono hk) hr b .nil hx I2 r q2
end
section
variable {σ : St} {H : Hp} {Q : VK} {D : Z9} {K : W.Frag} {C : Addr} {m f : Str} {sp : Sp} {E : XK} {ta tv : TE} {t : TA} {a : Addr}
def zD9 (H:Hp) (a C:Addr) (m:Str):Prop:=∃ dx fs,H a=some (.ins C dx fs)/\fs.lookup m=none
def jf (K:W.Frag) (H:Hp) (a:Addr) (f:Str) (v:V):Prop:=∃ C dx fs,H a=some (.ins C dx fs)/\Cls K C/\ya K C f/\fs.lookup f=some v
theorem zD9.same (g:zc H H') (h:zD9 H a C m):zD9 H' a C m:=by obtain ⟨dx,fs,e,l⟩:=h;exact ⟨dx,fs,g _ _ e,l⟩
variable {v:V}
theorem jf.same (g:zc H H') (h:jf K H a f v):jf K H' a f v:=by obtain ⟨C,dx,fs,e,l⟩:=h;exact ⟨C,dx,fs,g _ _ e,l⟩
def zHf (C:Addr) (m:Str) (sp:Sp) (dvs:List V) (E:XK) (t:TA) (σ:St) (Q:VK):VK:=fun x H1=>∃ a dx fs,x = .ref a/\H1 a=some (.ins C dx fs)/\fs.lookup m=none/\t σ H1 fun vs H2=>sp (x::(vs++dvs)) H2 Q E
variable {dvs:List V}
theorem K7 (h:ta σ H (zHf C m sp dvs E t σ Q)):VQ C m sp dvs E ta t σ H Q:=h
theorem XE (hi:zD9 H a C m) (h:t σ H fun vs H2=>sp (.ref a::(vs++dvs)) H2 Q E):zHf C m sp dvs E t σ Q (.ref a) H:=by
 obtain ⟨dx,fs,e,l⟩:=hi
 exact ⟨a,dx,fs,rfl,e,l,h⟩
def zLt (K:W.Frag) (f:Str) (Q:VK):VK:=fun x H1=>∃ a C dx fs v,x = .ref a/\H1 a=some (.ins C dx fs)/\Cls K C/\ya K C f/\fs.lookup f=some v/\Q v H1
theorem zLL (h:ta σ H (zLt K f Q)):zLo K ta f σ H Q:=h
theorem zIN (hi:jf K H a f v) (q:Q v H):zLt K f Q (.ref a) H:=by
 obtain ⟨C,dx,fs,e,c,n,l⟩:=hi
 exact ⟨a,C,dx,fs,v,rfl,e,c,n,l,q⟩
def zLd (K:W.Frag) (f:Str) (y:V) (D:Z9) (σ:St):VK:=fun x H2=>∃ a C dx fs,x = .ref a/\H2 a=some (.ins C dx fs)/\Cls K C/\ya K C f/\fs.length < 1000/\D.nx σ (upd H2 a (.ins C dx (Z0 f y fs)))
theorem zIJ (h:tv σ H fun y H1=>ta σ H1 (zLd K f y D σ)):zLS K ta tv f D σ H:=h
theorem jb {dx:Addr} {fs:List (Str × V)} {y:V} (e:H a=some (.ins C dx fs)) (c:Cls K C) (n:ya K C f) (l:fs.length < 1000) (q:D.nx σ (upd H a (.ins C dx (Z0 f y fs)))):zLd K f y D σ (.ref a) H:=⟨a,C,dx,fs,rfl,e,c,n,l,q⟩
def zKb (C:Addr) (sp:Sp) (dvs:List V) (E:XK) (Q:VK):List V->Hp->Prop:=fun vs H1=>∀ x dx,H1 x=none->H1 dx=none->dx≠x ->
 sp (.ref x::(vs++dvs)) (upd (upd H1 dx (.own x)) x (.ins C dx [])) (fun v H2=>v = .non/\Q (.ref x) H2) E
theorem zJF (h:t σ H (zKb C sp dvs E Q)):zFs C sp dvs E t σ H Q:=h
theorem qc (f:Str) (v:V):Z0 f v []=[(f,v)]:=rfl
variable {r:List (Str × V)}
theorem zh {k:Str} {x:V} (h:k≠f):Z0 f v ((k,x)::r)=(k,x)::Z0 f v r:=by
 rw [show Z0 f v ((k,x)::r)=(if k=f then (k,v)::r else (k,x)::Z0 f v r) from rfl,if_neg h]
theorem yc {k:Str} {x:V}:((k,x)::r).lookup k=some x:=by simp [List.lookup]
theorem qH {k:Str} {x:V} (h:f≠k):((k,x)::r).lookup f=r.lookup f:=by
 have:(f == k)=false:=by simpa using h
 simp [List.lookup,this]
end
def Wk (σc σ:St):Prop:=σc.length=σ.length /\ ∀ (i:Nat) v,σc[i]? = some (some v)->σ[i]? = some (some v)
theorem Wk.nil:Wk [] []:=⟨rfl,fun i v h=>h⟩
theorem Wk.one {a b:St} {x:Option V} (h:Wk a b):Wk (x::a) (x::b):=⟨by rw [length_cons,length_cons,h.1],fun i v e=>by
 cases i with
 | zero=>exact e
 | succ i=>exact h.2 i v e⟩
theorem Wk.any {a b:St} {x:Option V} (h:Wk a b):Wk (none::a) (x::b):=⟨by rw [length_cons,length_cons,h.1],fun i v e=>by
 cases i with
 | zero=>exact absurd (Option.some.inj e) (by simp)
 | succ i=>exact h.2 i v e⟩
def Cx.tr (X:Cx) (pins:List (Addr × Obj)) (σc:St) (E:XK):Cx:={ X with pn:=X.pn++pins,xe:=XP X pins σc E }
section
variable {X : Cx} {pins pins0 : List (Addr × Obj)} {σ σc : St} {H : Hp} {s : Shared} {E : XK}
theorem Cx.Ok.tr (ok:X.Ok):(X.tr pins σc E).Ok:=⟨ok.mod,ok.kind,ok.glob,ok.blt,ok.above,ok.inj,ok.has,ok.cab,ok.hd,ok.frames,ok.stk,ok.exf,ok.bs,ok.bsz,ok.noex,ok.exfs,ok.funs,ok.frf⟩
theorem Cx.Ok.untr (ok:(X.tr pins σc E).Ok):X.Ok:=⟨ok.mod,ok.kind,ok.glob,ok.blt,ok.above,ok.inj,ok.has,ok.cab,ok.hd,ok.frames,ok.stk,ok.exf,ok.bs,ok.bsz,ok.noex,ok.exfs,ok.funs,ok.frf⟩
theorem Inv.tr (I:Inv X pins σ H s):Inv (X.tr pins σc E) [] σ H s:=⟨I.ok.tr,I.os,I.bare,I.base,I.loc,I.cell,I.free,I.freeC,fun p hp=>I.pin p (by simpa [Cx.tr] using hp),I.hok,I.len⟩
theorem Inv.untr (I:Inv (X.tr pins0 σc E) pins σ H s):Inv X pins0 σ H s:=⟨I.ok.untr,I.os,I.bare,I.base,I.loc,I.cell,I.free,I.freeC,fun p hp=>I.pin p (mem_append_left _ hp),I.hok,I.len⟩
theorem SP.untr {D:Z9} {f:Flow} {s':Shared} (h:SP (X.tr pins0 σc E) pins D f s'):SP X pins0 D f s':=by
 cases f with
 | next=>obtain ⟨σ',H',I,q⟩:=h;exact ⟨σ',H',I.untr,q⟩
 | brk=>obtain ⟨σ',H',I,q⟩:=h;exact ⟨σ',H',I.untr,q⟩
 | cont=>obtain ⟨σ',H',I,q⟩:=h;exact ⟨σ',H',I.untr,q⟩
 | ret u=>obtain ⟨v,σ',H',I,r,q⟩:=h;exact ⟨v,σ',H',I.untr,r,q⟩
theorem SP.outExc {y:Addr} {D:Z9} {f:Flow} {s':Shared} (ok:X.Ok) (h:SP (X.inExc y) pins D f s'):SP X pins D f s':=by
 cases f with
 | next=>obtain ⟨σ',H',I,q⟩:=h;exact ⟨σ',H',I.outExc ok,q⟩
 | brk=>obtain ⟨σ',H',I,q⟩:=h;exact ⟨σ',H',I.outExc ok,q⟩
 | cont=>obtain ⟨σ',H',I,q⟩:=h;exact ⟨σ',H',I.outExc ok,q⟩
 | ret u=>obtain ⟨v,σ',H',I,r,q⟩:=h;exact ⟨v,σ',H',I.outExc ok,r,q⟩
end
def PHs (X:Cx) (hs:List ExceptHandler) (th:Addr->TS):Prop:=
 ∀ (pins:List (Addr × Obj)) (s:Shared) (σ:St) (H:Hp) (D:Z9) (y C:Addr) (B:Heap) (a0:Value),Heap.FlyingW B (X.env::X.outer) y (.ref C) a0 s.heap->Inv X pins σ H s ->
  (∀ h',B.StaysIn h'->s.heap.UpToSlots h'->Inv X pins σ H { s with heap:=h' })->th C D σ H->wpAny (model X.prog X.w) X.A (handleBy (.ref y) X.env hs) (SP X pins D) X.xe s
def tHn:Addr->TS:=fun _ _ _ _=>False
def tHc (K:W.Frag) (C':Addr) (ts:TS) (th:Addr->TS):Addr->TS:=fun C D σ H=>∃ b,W.exmOne K (.ref C) (.ref C')=some b/\if b=true then ts D σ H else th C D σ H
section
variable {X : Cx} {cx : Str} {C' : Addr} {ts : TS} {th : Addr -> TS} {np hpos pos : Pos} {b₀ : Stmt} {suite body : List Stmt} {yp hs : List ExceptHandler} {h₀ : ExceptHandler} {tb : St -> XK -> TS}
theorem zJq:PHs X [] tHn:=fun _ _ _ _ _ _ _ _ _ _ _ _ h=>h.elim
theorem isx {B:Heap} {l:List Env} {y:Addr} {a0:Value} (fl:Heap.FlyingW B l y (.ref C) a0 h):V2 y C h:=by
 obtain ⟨_,_,_,oe,vs,_,_,_,h1,⟨h2,_⟩,h3,_⟩:=fl
 exact ⟨oe,h1,h2,vs,h3⟩
theorem zGN (hgc:Gl X cx) (hmc:X.mg cx=some (.ref C')) (hs : ∀ y,PSs (X.inExc y) (b₀::suite) ts) (hr:PHs X yp th) (hdc:(cx == ("__debug__" : Str))=false:=by decide) :
  PHs X (.ExceptHandler (some (.Name cx np)) none (b₀::suite) hpos::yp) (tHc X.K C' ts th):=by
 intro pins s σ H D y C B a0 fly I clo h
 obtain ⟨b,exm,q⟩:=h
 refine wpAny_handleBy_cons (codeAny_handlers_test (jr (I.inExc y) hgc hmc ?_ hdc)) (by intro q;cases q)
 refine (W.exm_one (M:=model X.prog X.w) I.kIn (isx fly).ty exm).here ?_
 cases b with
 | false =>
  rw [if_neg Bool.false_ne_true] at q
  exact hr pins s σ H D y C B a0 fly I clo q
 | true =>
  rw [if_pos rfl] at q
  refine codeAny_handlers_suite (lands_againW fly fun h3 fly3 sm3=>?_)
  have I3:=clo h3 fly3.1 sm3
  exact wpAny_mono (hs y pins _ σ H D (I3.inExc y) q) (fun f s6 sp6=>sp6.outExc I.ok) fun _ _ z=>z.elim
def zJN (tb:St->XK->TS) (th:Addr->TS):TS:=fun D σ H=>∃ σc,tb σc (fun cls _ H2=>∃ C,cls = .ref C/\th C D σc H2) D σ H
theorem zHM (hst:X.stack=X.env::X.outer) (hfr:X.env.frame=some X.env.locals) (hb : ∀ pins σc E,PSs (X.tr pins σc E) body (tb σc E)) (hh:PHs X (h₀::hs) th):PS X (.Try body (h₀::hs) [] [] pos) (zJN tb th):=by
 intro pins s σ H D I h
 obtain ⟨σc,h⟩:=h
 refine wpAny_Try_except (wpAny_mono (hb pins σc _ [] s σ H D I.tr h) (fun f s1 q=>?_) fun er s' z=>?_)
 ·cases f with
  | next=>exact wpAny_execs_nil q.untr
  | ret u=>exact q.untr
  | brk=>exact q.untr
  | cont=>exact q.untr
 ·obtain ⟨H1,s1,I1,fl⟩:=z
  obtain ⟨y,C,a0,H2,B,rfl,hos,hbare,fly,clo,hy0,hy2,C0,z0,q⟩:=fl
  cases z0
  rw [hst] at fly
  refine wpAny_looks_onW (I.ok.frames.trans (congrArg some hst)) hfr fly fun h1 held sm1=>?_
  refine wpAny_landsW held fun h2 fly2 sm2=>?_
  have cl : ∀ h',B.StaysIn h'->h2.UpToSlots h'->Inv X pins σc H2 { s' with heap:=h' }:=fun h' st sm=>by
   have c:=clo h' st ((sm1.trans sm2).trans sm)
   exact I1.call' (s':={ s' with heap:=h' }) hos c.1 c.2 hbare (fun b z=>nomatch z)
  have c2:=clo h2 fly2.1 (sm1.trans sm2)
  have I2:Inv X pins σc H2 { s' with heap:=h2 }:=I1.call' (s':={ s' with heap:=h2 }) hos c2.1 c2.2 hbare (fun b z=>nomatch z)
  exact hh pins { s' with heap:=h2 } σc H2 D y C B a0 fly2 I2 cl q
theorem zJv {D:Z9} (σc:St) (h:tb σc (fun cls _ H2=>∃ C,cls = .ref C/\th C D σc H2) D σ H):zJN tb th D σ H:=⟨σc,h⟩
theorem zMJ {D:Z9} {b:Bool} (e:W.exmOne K (.ref C) (.ref C')=some b) (h:if b=true then ts D σ H else th C D σ H):tHc K C' ts th C D σ H:=⟨b,e,h⟩
end
section
variable {X : Cx} {pins0 : List (Addr × Obj)} {σc : St} {k n : Nat} {C : Addr} {ps : List Str} {sp : Sp} {E : XK} {x m : Str} {p np pos apos : Pos} {e o : Expr} {es : List Expr} {ta : TE} {t : TA}
def zBV (sp:Sp) (E:XK) (σc:St) (t:TA):TE:=fun σ H Q=>t σ H fun vs H1=>Wk σc σ/\sp (vs++[]) H1 Q E
theorem zFT {pins:List (Addr × Obj)} {s:Shared} {us:List Value} {vs:List V} (F:xx X.prog X.w X.K X.mg X.base (CXE X.prog X.w) k f fd ps sp) (hr:j5 k X.A) (hb:jx X.K fd ps [])
  (I:Inv (X.tr pins0 σc E) pins σ H s) (r:qM vs us) (wk:Wk σc σ) (h:sp (vs++[]) H Q E):wpAny (model X.prog X.w) X.A (call (.ref f) us) (EP (X.tr pins0 σc E) pins σ Q) (X.tr pins0 σc E).xe s:=by
 have r2:qM (vs++[]) (us++[]):=r.append .nil
 have hl:(us++[]).length=ps.length:=by rw [<- r2.length];exact F.len _ _ _ _ h
 have e0:V0 X.prog X.w X.K X.mg X.base X.A X.stack s H:=I.env0
 refine wpAny_call (codeAny_mono (F.run X.A X.stack s H ⟨us,[]⟩ (us++[]) (vs++[]) Q E hr e0 (hb s us I.kIn hl) r2 h) fun r s' hq=>?_)
 cases r with
 | error e=>exact ⟨H,s,I.untr.weak wk.1 wk.2,hq⟩
 | ok fl =>
  cases fl with
  | ret u=>exact I.after hq
  | next=>exact False.elim hq
  | brk=>exact False.elim hq
  | cont=>exact False.elim hq
theorem zD3 (F:zLv X.prog X.w X.K X.mg X.base x k ps sp) (hr:j5 n X.A) (hg:Gl X x) (ha:PA (X.tr pins0 σc E) (e::es) t) (hk:k<=n:=by decide)
  (hdb:(x == ("__debug__" : Str))=false:=by decide) (he:starEach (e::es) X.env=(false,eval e X.env)::starEach es X.env:=by rfl) (hpl:(backTo pos (starEach es X.env)).any (·.1)=false:=by rfl) :
  PE (X.tr pins0 σc E) (.Call (.Name x p) (e::es) [] pos) (zBV sp E σc t):=by
 intro pins s σ H Q I h
 obtain ⟨f,fd,G,hm,kp,b⟩:=F
 refine wpAny_Call_Name_kw (jr I hg hm ?_ hdb)
 refine W.callWith_K (h₀:=X.base) I.ok.mod.kin kp (thn (ha pos pins s σ H _ I h) fun us s1 ⟨vs,H1,I1,r,q⟩=>⟨I1.kIn,?_⟩) he hpl
 exact zFT (G.mono hk) hr b I1 r q.1 q.2
variable {σ : St} {H : Hp} {Q : VK}
theorem zF7 (h:t σ H fun vs H1=>Wk σc σ/\sp (vs++[]) H1 Q E):zBV sp E σc t σ H Q:=h
theorem zL9 {R:Prop} (h:Wk σc σ) (q:R):Wk σc σ/\R:=⟨h,q⟩
end
section
variable {X : Cx} {tg : Expr}
def Xd (z:Str) (lo hi:Option Int) (st:Int):List Nat:=(Builtin.Str.strSliceIndices lo hi st z.length).filterMap ((Lt z)[·]?)
def zL4:V->Option Int->Option Int->Int->Hp->VK->Prop:=fun x lo hi st H Q=>∃ z:Str,x = .str z/\st≠0/\z.length<=sizeLine/\(Xd z lo hi st).length<=sizeLine /\ ∀ y,(y=T (Xd z lo hi st)\/(st=1/\y=z))->Q (.str y) H
def zLN (r:V->Option Int->Option Int->Int->Hp->VK->Prop) (te:TE) (tl th:TO) (ts:TE):TE:=fun σ H Q=>te σ H fun x H1=>tl σ H1 fun l H2=>th σ H2 fun u H3=>ts σ H3 fun s H4=>∃ i,s = .int i/\r x l u i H4 Q
theorem zBO {v:Value} {o:Option Int} (p:IsPart v o) : ∃ l:Option (Int × Tok),v=partValue l/\l.map (·.1)=o:=by
 cases p with
 | none=>exact ⟨none,rfl,rfl⟩
 | int i t=>exact ⟨some (i,t),rfl,rfl⟩
theorem zBG {e st:Expr} {lo hi:Option Expr} {te ts:TE} {tl th:TO} {p2:Pos} (he:PE X e te) (hl:PO X lo tl) (hu:PO X hi th) (hs:PE X st ts):PE X (.Subscript e (.Slice lo hi (some st) p2) pos) (zLN zL4 te tl th ts):=by
 intro pins s σ H Q I h
 refine Subscript_ (thn (he pins s σ H _ I h) fun v s1 zq=>?_)
 obtain ⟨x,H1,I1,r1,q1⟩:=zq
 refine wpAny_Slice (thn (hl pins s1 σ H1 _ I1 q1) fun vl s2 ⟨l,H2,I2,pl,q2⟩=>thn (hu pins s2 σ H2 _ I2 q2) fun vu s3 zq=>?_)
 obtain ⟨u,H3,I3,pu,q3⟩:=zq
 refine thn (hs pins s3 σ H3 _ I3 q3) fun vs s4 zq=>?_
 obtain ⟨y,H4,I4,r4,i,ey,z,ex,hst,hz,hzp,q4⟩:=zq
 subst ey ex
 obtain ⟨t,rfl⟩:=r1
 obtain ⟨t4,rfl⟩:=r4
 obtain ⟨l',rfl,hl'⟩:=zBO pl
 obtain ⟨u',rfl,hu'⟩:=zBO pu
 have I5:Inv X pins σ H4 { s4 with heap:=s4.heap.push { cls:=.type "slice", data:=.fields #[partValue l',partValue u',.int i t4] } }:=I4.kept (t':=s4.toks) fun b ob q=>Heap.get?_push_of_some _ q
 show wpAny (model X.prog X.w) X.A (subscriptTail e (.Slice lo hi (some st) p2) (.str z t) (.ref s4.heap.objs.size)) (EP X pins σ Q) X.xe { s4 with heap:=s4.heap.push { cls:=.type "slice", data:=.fields #[partValue l',partValue u',.int i t4] } }
 refine tail_any (ops:=[.ref s4.heap.objs.size,.str z t]) (typeIs_str _ _ _) PySem.F.slot_str_getitem.lookup ?_ (by with_unfolding_all rfl)
 refine wpAny_getItem_str_slice (l:=l') (u:=u') (st:=some (i,t4)) ⟨_,Heap.get?_push_size _ rfl,rfl,rfl⟩ (by simpa using hst) ?_
 have e:slicePicked z l' u' (some (i,t4))=Builtin.Str.strSliceIndices l u i z.length:=by unfold slicePicked;rw [hl',hu'];rfl
 unfold sliceMade
 rw [e]
 have ep:(⟨((Builtin.Str.strSliceIndices l u i z.length).filterMap (z.cps[·]?)).toArray⟩:Str)=T (Xd z l u i):=by
  unfold Xd T;congr 3;funext k;simp [Lt]
 rw [ep]
 refine post_val_or_str ⟨?_,fun t' k=>⟨.str _,H4,I5.tok _,⟨t',rfl⟩,q4 _ ?_⟩⟩
 ·split
  ·exact hz
  ·exact hzp
 ·split
  ·rename_i hc
   rw [Bool.and_eq_true] at hc
   exact .inr ⟨by simpa using hc.1,rfl⟩
  ·exact .inl rfl
theorem zKP {r:V->Option Int->Option Int->Int->Hp->VK->Prop} {te ts:TE} {tl th:TO} (h:te σ H fun x H1=>tl σ H1 fun l H2=>th σ H2 fun u H3=>ts σ H3 fun s H4=>∃ i,s = .int i/\r x l u i H4 Q):zLN r te tl th ts σ H Q:=h
end
def qg (K:W.Frag) (C:Addr):List Str->Prop
 | []=>True
 | f::r=>ya K C f/\qg K C r
theorem qg.at {f:Str} : ∀ {l:List Str},qg K C l->f ∈ l->ya K C f
 | [],_,h=>by cases h
 | g::r,n,h=>by
  rcases List.mem_cons.mp h with rfl | h
  ·exact n.1
  ·exact n.2.at h
def bfs (wd:Int) (f:Nat) (x:Str) (st:Bool) (more:List (Str × V)):List (Str × V):=("width", .int wd)::("fill", .str (T [f]))::("side", .str x)::("strict", .bl st)::more
def bns:List Str:=["width", "fill", "side", "strict"]
structure zp (K:W.Frag) (H:Hp) (a C:Addr) (wd:Int) (f:Nat) (x:Str) (st:Bool) (more:List (Str × V)):Prop where
 at_ : ∃ dx,H a=some (.ins C dx (bfs wd f x st more))
 cl:Cls K C
 na:qg K C (bns++more.map (·.1))
section
variable {K : W.Frag} {H H' : Hp} {a C : Addr} {wd : Int} {f : Nat} {x : Str} {st : Bool} {more : List (Str × V)} {g m : Str} {v : V}
theorem zp.same (s:zc H H') (F:zp K H a C wd f x st more):zp K H' a C wd f x st more:=⟨F.at_.imp fun _ e=>s _ _ e,F.cl,F.na⟩
theorem zAs:(bfs wd f x st more).lookup ("width" : Str)=some (.int wd):=yc
theorem zDn:(bfs wd f x st more).lookup ("fill" : Str)=some (.str (T [f])):=(qH (by decide +kernel)).trans yc
theorem zDk:(bfs wd f x st more).lookup ("side" : Str)=some (.str x):=(qH (by decide +kernel)).trans ((qH (by decide +kernel)).trans yc)
theorem Wu:(bfs wd f x st more).lookup ("strict" : Str)=some (.bl st):=(qH (by decide +kernel)).trans ((qH (by decide +kernel)).trans ((qH (by decide +kernel)).trans yc))
theorem Kz (h:g ∉ bns):(bfs wd f x st more).lookup g=more.lookup g:=by
 simp only [bns,mem_cons,List.not_mem_nil,or_false,not_or] at h
 exact (qH h.1).trans ((qH h.2.1).trans ((qH h.2.2.1).trans (qH h.2.2.2)))
theorem zp.fld (F:zp K H a C wd f x st more) (n:g ∈ bns++more.map (·.1)) (l:(bfs wd f x st more).lookup g=some v):jf K H a g v:=by
 obtain ⟨dx,e⟩:=F.at_
 exact ⟨C,dx,_,e,F.cl,F.na.at n,l⟩
theorem zp.width (F:zp K H a C wd f x st more):jf K H a "width" (.int wd):=F.fld (mem_append_left _ (by decide +kernel)) zAs
theorem zp.fill (F:zp K H a C wd f x st more):jf K H a "fill" (.str (T [f])):=F.fld (mem_append_left _ (by decide +kernel)) zDn
theorem zp.side (F:zp K H a C wd f x st more):jf K H a "side" (.str x):=F.fld (mem_append_left _ (by decide +kernel)) zDk
theorem zp.strict (F:zp K H a C wd f x st more):jf K H a "strict" (.bl st):=F.fld (mem_append_left _ (by decide +kernel)) Wu
theorem zp.own (F:zp K H a C wd f x st more) (h:g ∉ bns) (l:more.lookup g=some v) (n:g ∈ more.map (·.1)):jf K H a g v:=F.fld (mem_append_right _ n) ((Kz h).trans l)
theorem zp.meth (F:zp K H a C wd f x st more) (h:m ∉ bns) (l:more.lookup m=none):zD9 H a C m:=by
 obtain ⟨dx,e⟩:=F.at_
 exact ⟨dx,_,e,(Kz h).trans l⟩
theorem xI (h:g ∉ bns):Z0 g v (bfs wd f x st more)=bfs wd f x st (Z0 g v more):=by
 simp only [bns,mem_cons,List.not_mem_nil,or_false,not_or] at h
 unfold bfs
 rw [zh (Ne.symm h.1),zh (Ne.symm h.2.1),zh (Ne.symm h.2.2.1),zh (Ne.symm h.2.2.2)]
end
section
variable {X : Cx} {K : W.Frag} {σ : St} {H : Hp} {Q : VK} {is : List Nat} {tt : TT} {te : TE}
theorem Wi (bs:List Bool):((List.range bs.length).all fun i=>(bs[i]?).getD true)=bs.all id:=by
 rw [Bool.eq_iff_iff,List.all_eq_true,List.all_eq_true]
 constructor
 ·intro h b hb
  obtain ⟨i,hi,rfl⟩:=List.getElem_of_mem hb
  have:=h i (List.mem_range.mpr hi)
  simpa [getElem?_eq_getElem hi] using this
 ·intro h i hi
  have hi':=List.mem_range.mp hi
  have:=h _ (List.getElem_mem hi')
  simpa [getElem?_eq_getElem hi'] using this
def zLb (K:W.Frag):List V->Hp->VK->Prop:=fun xs H Q=>∃ (p:Addr) (bs:List Bool),xs=[.ref p]/\SqL K H p (bs.map V.bl)/\Q (.bl (bs.all id)) H
theorem VF (hc:X.calm=true):jC X (.builtin "all") (zLb X.K):=by
 intro pins s σ H xs us Q I r h
 obtain ⟨p,bs,rfl,hp,q⟩:=h
 obtain ⟨u,rfl,ru⟩:=r.one
 cases ru
 obtain ⟨its,ri,pl,hz⟩:=I.list hp
 have hl:=pl.isList
 have hlt:p < s.heap.objs.size:=by obtain ⟨_,e,_⟩:=hl;exact Heap.lt_size e
 have hlen:its.length=bs.length:=by have:=ri.length;rw [length_map] at this;exact this.symm
 refine call_all_walk (wpAny_pyIter_list hl ?_)
 refine ⟨s.heap.objs.size,[s.heap.objs.size,p],[s.heap.objs.size],its.toArray.size,_,_,fun i=>(bs[i]?).getD true,rfl,Walks.list (A:=X.A.in1) (I.ok.hd hc) _ p (ne_of_lt hlt) its.toArray,
  ⟨⟨_,Heap.get?_push_size _ rfl,rfl,rfl⟩,hl.push _⟩,fun i v s' Q' E' hP hQ=>?_,fun h' tk hk=>?_⟩
 ·have hP':its[i]? = some v:=by simpa using hP
  have hi:i < bs.length:=by
   rcases lt_or_ge i its.length with z | z
   ·omega
   ·rw [List.getElem?_eq_none z] at hP';cases hP'
  obtain ⟨u,hu,ru⟩:=ri.get (i:=i) (x:=.bl bs[i]) (by rw [getElem?_map,getElem?_eq_getElem hi];rfl)
  rw [hP'] at hu;cases hu
  cases ru
  simp only [getElem?_eq_getElem hi,Option.getD_some] at hQ
  exact wpAny_truthy_bool hQ
 ·have e:((List.range its.toArray.size).all fun i=>(bs[i]?).getD true)=bs.all id:=by
   rw [List.size_toArray,hlen];exact Wi bs
  rw [e]
  exact ⟨.bl _,H,I.kept fun b x eb=>hk b x (fun hm=>by rw [List.mem_singleton.mp hm] at eb;exact lt_irrefl _ (Heap.lt_size eb)) (Heap.get?_push_of_some _ eb),rfl,q⟩
theorem zK8 {p:Addr} {bs:List Bool} (h:SqL K H p (bs.map V.bl)) (q:Q (.bl (bs.all id)) H):zLb K [.ref p] H Q:=⟨p,bs,rfl,h,q⟩
theorem zE3 {c:Nat} {a:List Nat} (q:Q (.bl (decide (c ∈ a))) H):zKH (.str (T [c])) (.str (T a)) H Q:=zKU (by
 have e:=PySem.StrLaws.found_one (T a) c
 rw [show (T [c])=(⟨#[c]⟩:Str) from rfl,e];exact q)
theorem zE9:bootBuiltins "all" = some (.builtin "all"):=by decide +kernel
def zFA (is:List Nat) (tt:TT) (te:TE) (σ:St) (Q:VK) (x:V) (H:Hp):Prop:=∃ z:Str,x = .str z/\zA2 is tt te σ Q (Its z) H
theorem zFa {tl:TE} (h:tl σ H (zFA is tt te σ Q)):zCb is (zK2 tl) tt te σ H Q:=h
theorem zDT {a:List Nat} (hz:a.length<=sizeLine) (Pv:Nat->List V->Hp->Prop) (h0:Pv 0 [] H) (hl : ∀ i ys H,i<=a.length->Pv i ys H->ys.length<=i)
  (hs : ∀ i c ys H,a[i]? = some c->i < a.length->Pv i ys H->tt (some (.str (T [c]))::is.map fun j=>(σ[j]?).getD none) H fun ok H2=>if ok=true then te (some (.str (T [c]))::is.map fun j=>(σ[j]?).getD none) H2 fun y H3=>NxC a.length Pv i (ys++[y]) H3 else NxC a.length Pv i ys H2)
  (hd : ∀ ys H,Pv a.length ys H -> ∀ p H',zc H H'->H' p=some (.lst ys)->Q (.ref p) H'):zFA is tt te σ Q (.str (T a)) H:=by
 refine ⟨T a,rfl,fun i m ys H=>m=a.length - i/\i<=a.length/\Pv i ys H,⟨a.length,by simp,zero_le _,h0⟩,?_⟩
 rintro i m ys H ⟨rfl,hi,p⟩
 have ly:=hl i ys H hi p
 refine ⟨by omega,?_⟩
 by_cases hlt:i < a.length
 ·refine .inr ⟨hlt,by omega,fun x H' y=>?_⟩
  obtain ⟨rfl,c,hc,rfl⟩:=y
  exact hs i c ys _ hc hlt p
 ·have e:i=a.length:=by omega
  subst e
  exact .inl ⟨rfl,fun p' hp=>hd ys H p p' _ (jB hp _) zK⟩
end
mutual
inductive Dt (K:W.Frag) (H:Hp):V->PyData->Prop
 | non:Dt K H .non .none
 | bl (b:Bool):Dt K H (.bl b) (.bool b)
 | int (i:Int):Dt K H (.int i) (.int i)
 | str (z:Str):Dt K H (.str z) (.str z)
 | lst {p:Addr} {xs:List V} {ds:List PyData}:SqL K H p xs->Dts K H xs ds->Dt K H (.ref p) (.list ds)
 | tup {p:Addr} {xs:List V} {ds:List PyData}:SqT K H p xs->Dts K H xs ds->Dt K H (.ref p) (.tuple ds)
inductive Dts (K:W.Frag) (H:Hp):List V->List PyData->Prop
 | nil:Dts K H [] []
 | cons {x:V} {d:PyData} {xs:List V} {ds:List PyData}:Dt K H x d->Dts K H xs ds->Dts K H (x::xs) (d::ds)
end
section
variable {X : Cx} {pins : List (Addr × Obj)} {σ : St} {H H' : Hp} {s : Shared} {K : W.Frag} {Q : VK}
mutual
theorem Dt.same (g:zc H H') : ∀ {x:V} {d:PyData},Dt K H x d->Dt K H' x d
 | _,_,.non=>.non
 | _,_,.bl b=>.bl b
 | _,_,.int i=>.int i
 | _,_,.str z=>.str z
 | _,_,.lst h hs=>.lst (g.seq h) (Dts.same g hs)
 | _,_,.tup h hs=>.tup (SqT.same h g) (Dts.same g hs)
theorem Dts.same (g:zc H H') : ∀ {xs:List V} {ds:List PyData},Dts K H xs ds->Dts K H' xs ds
 | _,_,.nil=>.nil
 | _,_,.cons h hs=>.cons (Dt.same g h) (Dts.same g hs)
end
end
end L2
namespace L2
open PySem PySem.Spec PyProof.Rows
open List (cons_append getElem?_eq_getElem length_map length_singleton map_append mem_cons_of_mem mem_cons_self)
open Nat (le_trans lt_irrefl lt_of_lt_of_le lt_or_ge ne_of_lt)
section
variable {X : Cx} {H : Hp} {Q : VK} {K : W.Frag}
def zBq:V->List V->Hp->VK->Prop:=fun x vs H Q=>∃ (l:Addr) (zs:List Str) (z:Str) (j:Nat),x = .ref l/\vs=[.str z]/\H l=some (.lst (zs.map V.str))/\zs[j]? = some z/\(∀ m,m < j->zs[m]? ≠ some z)/\j < 1000/\Q (.int j) H
theorem zBo:MtM X "list.index" zBq:=by
 intro pins s σ H x vs v us Q I rx rv h
 obtain ⟨l,zs,z,j,rfl,rfl,hH,hj,hno,hj1,q⟩:=h
 cases rx
 obtain ⟨u,rfl,ru⟩:=rv.one
 obtain ⟨_,its,n,r,hl,e⟩:=I.lstM hH
 have fl:(zs.map V.str).all Xn=true:=by
  rw [List.all_eq_true];intro x hx
  obtain ⟨l,_,rfl⟩:=List.mem_map.mp hx
  rfl
 have it : ∀ (m:Nat) (hm:m < its.toArray.size),∃ (y:Str) (t:Tok),zs[m]? = some y/\its.toArray[m] = .str y t:=fun m hm=>by
  have hm':m < its.length:=by simpa using hm
  have hz:m < zs.length:=by have:=r.length;rw [length_map] at this;omega
  obtain ⟨w,hw,rw'⟩:=r.get (i:=m) (x:=.str zs[m]) (by rw [List.getElem?_map,getElem?_eq_getElem hz];rfl)
  obtain ⟨t,rfl⟩:=rw'
  refine ⟨zs[m],t,getElem?_eq_getElem hz,?_⟩
  rw [getElem?_eq_getElem hm'] at hw
  simpa using Option.some.inj hw
 have hjz:j < its.toArray.size:=by
  have:=r.length;rw [length_map] at this
  rcases lt_or_ge j zs.length with z1 | z1
  ·simp;omega
  ·rw [List.getElem?_eq_none z1] at hj;cases hj
 refine call_meets F.slot_list_index ⟨_,e,rfl⟩ F.entry_list_index (F.args_list_index_2 _ _) (SeqAt.list_indexAt l its.toArray n none #[] u (eqU (.str z)) j hjz (by omega) ?_ fun m hm hmj=>?_) ⟨e,fun y hy=>ZK ru rfl r fl y (by simpa using hy),⟨.int j,H,I.tok _,⟨_,rfl⟩,q⟩⟩
 ·obtain ⟨y,t,h1,h2⟩:=it j hjz
  rw [hj] at h1;cases h1
  rw [h2]
  show (z == z)=true
  simp
 ·obtain ⟨y,t,h1,h2⟩:=it m hm
  rw [h2]
  show (y == z)=false
  simpa using fun ee=>hno m hmj (by rw [h1,ee])
theorem zDZ {l:Addr} {zs:List Str} {z:Str} (j:Nat) (h:H l=some (.lst (zs.map V.str))) (hj:zs[j]? = some z) (hno : ∀ m,m < j->zs[m]? ≠ some z) (hj1:j < 1000) (q:Q (.int j) H):zBq (.ref l) [.str z] H Q:=⟨l,zs,z,j,rfl,rfl,h,hj,hno,hj1,q⟩
end
def RsA (H:Hp) (v:V) (d:PyData):Prop:=(∃ z:Str,v = .str z/\d = .str z) \/ ∃ (q:Addr) (z:Str),v = .ref q/\H q=some (.tup [.str z])/\d = .tuple [.str z]
section
variable {H H' : Hp} {v : V} {d : PyData} {K : W.Frag}
theorem RsA.tag {q:Addr} {z:Str} (h:H q=some (.tup [.str z])):RsA H (.ref q) (.tuple [.str z]):=.inr ⟨q,z,rfl,h,rfl⟩
theorem RsA.same (g:zc H H') (h:RsA H v d):RsA H' v d:=by
 rcases h with ⟨z,a,b⟩ | ⟨q,z,a,e,b⟩
 ·exact .inl ⟨z,a,b⟩
 ·exact .inr ⟨q,z,a,g _ _ e,b⟩
theorem RsA.dt (h:RsA H v d):Dt K H v d:=by
 rcases h with ⟨z,rfl,rfl⟩ | ⟨q,z,rfl,e,rfl⟩
 ·exact .str z
 ·exact .tup (SqT.of e) (.cons (.str z) .nil)
end
variable {a:List Nat}
theorem zAP {s st:Int} (h0:0<=s) (h1:s < a.length) (h2:1<=st):Xd (T a) (some s) none st≠[]/\(∀ c ∈ Xd (T a) (some s) none st,c ∈ a)/\((Xd (T a) (some s) none st).length:Int)<=a.length+st:=by
 have e:Builtin.Str.strSliceIndices (some s) none st (T a).length=(List.range (((a.length:Int) - s+st - 1) / st).toNat).map fun k:Nat=>(s+st*(k:Int)).toNat:=by
  have l:((T a).length:Int)=a.length:=rfl
  unfold Builtin.Str.strSliceIndices
  dsimp only
  rw [l,if_neg (show ¬ s < 0 by omega),if_pos (show st > 0 by omega),if_pos (show st > 0 by omega),Int.min_eq_left (by omega),Int.max_eq_right h0]
  unfold sliceRange
  rw [if_pos (show st > 0 by omega),if_pos h1]
 have hc:1<=((a.length:Int) - s+st - 1) / st:=Int.le_ediv_of_mul_le (by omega) (by omega)
 have hc2:((a.length:Int) - s+st - 1) / st<=(a.length:Int) - s+st - 1:=Int.ediv_le_self _ (by omega)
 unfold Xd
 rw [e,Xr]
 refine ⟨fun z=>?_,fun c hcm=>?_,?_⟩
 ·rw [List.filterMap_eq_nil_iff] at z
  have:=z (s+st*((0:Nat):Int)).toNat (List.mem_map.mpr ⟨0,List.mem_range.mpr (by omega),rfl⟩)
  rw [show (s+st*((0:Nat):Int)).toNat=s.toNat by simp,getElem?_eq_getElem (by omega)] at this
  cases this
 ·obtain ⟨i,_,hi⟩:=List.mem_filterMap.mp hcm
  exact List.mem_of_getElem? hi
 ·have:=List.length_filterMap_le (fun x=>a[x]?) ((List.range (((a.length:Int) - s+st - 1) / st).toNat).map fun k:Nat=>(s+st*(k:Int)).toNat)
  rw [length_map,List.length_range] at this
  omega
variable {X:Cx} {x:Str} {k n:Nat} {ps:List Str} {sp:Sp} {p pos:Pos}
theorem ye (F:Has X.prog X.w X.K X.mg X.base x k ps sp) (hr:j5 n X.A) (hg:Gl X x) (hk:k<=n:=by decide) (hdb:(x == ("__debug__" : Str))=false:=by decide) :
  PE X (.Call (.Name x p) [] [] pos) (Ye sp [] E0 zAr):=by
 obtain ⟨f,fd,G,hm,kp,hb⟩:=F
 exact zEB G (hr.mono hk) hg hm kp hb .nil xA hdb
def low (b:Nat):Nat->Nat->List Nat
 | 0,_=>[]
 | p+1,n=>low b p (n / b)++[fc (n % b)]
theorem zDc {b:Nat} (h2:2<=b):1<=(QS b n).length:=by
 rcases lt_or_ge n b with h | h
 ·rw [xM h,length_singleton];exact Nat.le_refl _
 ·rw [Jw h2 h,List.length_append,length_singleton];omega
variable {K:W.Frag} {fd:FuncData} {oc:Value} {od:Option Addr} {it:Array Value} {osl:Array (Option Value)}
theorem zAA {t:Addr} (hl:K.lookup t=some ⟨oc,od,.seq it n,osl⟩) (hd:fd.defaults = .ref t)
  (h : ∀ us:List Value,us.length=ps.length -> ∃ k,bindArgs fd ⟨us,[]⟩=seqItems? fd.defaults >>= k/\k (some it)=pure (ps.zip us)):jx K fd ps []:=fun s us hK hlen=>by
 rw [List.append_nil] at hlen ⊢
 obtain ⟨k,h1,h2⟩:=h us hlen
 exact .of_defaults hd (hK _ _ hl) rfl h1 h2
set_option maxHeartbeats 1000000
def C2 (h:Heap) (e:Addr):Prop:=∃ o vs,h.get? e=some o/\o.data = .fields vs/\vs[2]? = some .none
variable {h:Heap} {vs:Array Value}
theorem yy {e b:Addr} {oe o:Obj} (a:h.get? e=some oe) (d:oe.data = .fields vs) (q:h.get? b=some o) (n : ∀ us,o.data ≠ .fields us):b≠e:=by
 rintro rfl
 rw [a] at q
 cases q
 exact n vs d
variable {base:Heap} {l:List Env} {a0:Value}
theorem Wy {g:Heap} {e:Addr} {oe ob:Obj} {ts:Array Value} {fl:Value} (FF:h.FunFrames base l) (sg:Heap.SlotsOnly (l.filterMap (·.frame)) h g) (a1:h.get? e=some oe)
  (a2:base.StaysIn h) (a3:base.get? e=none) (a4:oe.data = .fields vs) (a5:1 < vs.size) (a6:vs[0]? = some a0) (a7:vs[2]? = some .none) (b1:ob.data = .fields ts) (b2:ts[3]? = some fl) :
  Heap.NotedW base l e oe.cls a0 fl h ((g.push ob).update e (Obj.mapFields (·.setIfInBounds 1 (Value.ref g.objs.size))))/\C2 ((g.push ob).update e (Obj.mapFields (·.setIfInBounds 1 (Value.ref g.objs.size)))) e:=by
 have nf:e ∉ l.filterMap (·.frame):=fun m=>by
  obtain ⟨_,o,q,n⟩:=FF.mem m
  exact yy a1 a4 q n rfl
 have g1:g.get? e=some oe:=(sg.2.1 e nf).trans a1
 have ne:g.objs.size≠e:=fun z=>lt_irrefl _ (z ▸ Heap.lt_size g1)
 have d1:(Obj.mapFields (·.setIfInBounds 1 (Value.ref g.objs.size)) oe).data=_:=Obj.data_mapFields a4 _
 have self:((g.push ob).update e (Obj.mapFields (·.setIfInBounds 1 (Value.ref g.objs.size)))).get? e=some (Obj.mapFields (·.setIfInBounds 1 (Value.ref g.objs.size)) oe):=
  Heap.get?_update_self _ (Heap.get?_push_of_some _ g1) (Obj.isFreed_of_fields d1)
 have kp : ∀ {b:Addr} {o:Obj},b≠e->g.get? b=some o->((g.push ob).update e (Obj.mapFields (·.setIfInBounds 1 (Value.ref g.objs.size)))).get? b=some o:=fun {b o} n q=>by
  rw [Heap.get?_update_other _ _ (Ne.symm n)];exact Heap.get?_push_of_some _ q
 have new:((g.push ob).update e (Obj.mapFields (·.setIfInBounds 1 (Value.ref g.objs.size)))).get? g.objs.size=some ob:=by
  rw [Heap.get?_update_other _ _ (Ne.symm ne)];exact Heap.get?_push_size g (Obj.isFreed_of_fields b1)
 have bg:base.StaysIn g:=fun b o q=>(sg.2.1 b fun m=>by rw [(FF.mem m).1] at q;cases q).trans (a2 b o q)
 have oth : ∀ b o,h.get? b=some o->(∀ us,o.data ≠ .fields us) -> ∃ sl,((g.push ob).update e (Obj.mapFields (·.setIfInBounds 1 (Value.ref g.objs.size)))).get? b=some { o with slots:=sl }:=fun b o q n=>by
  obtain ⟨sl,q1⟩:=sg.2.2 b o q
  exact ⟨sl,kp (yy a1 a4 q n) q1⟩
 refine ⟨⟨fun b o q=>kp (fun z=>by rw [z,a3] at q;cases q) (bg b o q),FF.of_keeps fun b o q n=>?_,⟨_,_,g.objs.size,ob,ts,self,⟨Obj.cls_mapFields _ _,?_⟩,d1,?_,?_,ne,new,b1,b2⟩,oth⟩,⟨_,_,self,d1,?_⟩⟩
 ·obtain ⟨sl,q1⟩:=oth b o q n
  exact ⟨_,q1,rfl⟩
 ·rw [Array.getElem?_setIfInBounds_ne (by decide)];exact a6
 ·rw [Array.getElem?_setIfInBounds_self_of_lt a5]
 ·cases z:base.get? g.objs.size with
  | none=>rfl
  | some o=>exact absurd (Heap.lt_size (bg _ o z)) (lt_irrefl _)
 ·rw [Array.getElem?_setIfInBounds_ne (by decide)];exact a7
variable {c:Nat}
theorem zE2 {d:Nat} (h:0<=fv c) (e:fv c=fv d):c=d:=by
 unfold fv at h e
 repeat' (split at h)
 all_goals repeat' (split at e)
 all_goals omega
theorem YN {P:List Nat->Prop} (h0:P []) (hs : ∀ l c,P l->P (l++[c])) (l:List Nat):P l:=by
 have : ∀ n (l:List Nat),l.length=n->P l:=fun n=>by
  induction n with
  | zero=>intro l h;rw [List.length_eq_zero_iff.mp h];exact h0
  | succ n ih =>
   intro l h
   have ne:l≠[]:=fun z=>by rw [z] at h;cases h
   rw [<- List.dropLast_concat_getLast ne]
   exact hs _ _ (ih _ (by rw [List.length_dropLast];omega))
 exact this _ l rfl
theorem xG.left {b:Int} {l m:List Nat} (h:xG b (l++m)):xG b l:=fun c hc=>h c (List.mem_append_left _ hc)
theorem xG.right {b:Int} {l m:List Nat} (h:xG b (l++m)):xG b m:=fun c hc=>h c (List.mem_append_right _ hc)
theorem zAx {b:Int} (hb:2<=b) (l:List Nat):xG b l->0<=val b l/\val b l < b ^ l.length:=by
 refine YN (P:=fun l=>xG b l->0<=val b l/\val b l < b ^ l.length) (fun _=>⟨Int.le_refl 0,by show (0:Int) < b ^ 0;rw [Int.pow_zero];decide⟩) (fun l c ih h=>?_) l
 obtain ⟨i1,i2⟩:=ih h.left
 obtain ⟨_,c1,c2⟩:=h.right c (List.mem_singleton.mpr rfl)
 rw [Qp,List.length_append,length_singleton,Int.pow_succ]
 have m1:=Int.mul_le_mul_of_nonneg_right (show val b l<=b ^ l.length - 1 by omega) (show 0<=b by omega)
 rw [Int.sub_mul,Int.one_mul] at m1
 have m2:=Int.mul_nonneg i1 (show 0<=b by omega)
 omega
theorem zGj {b:Int} (hb:2<=b) (l:List Nat) : ∀ k,xG b l->xG b k->l.length=k.length->val b l=val b k->l=k:=by
 refine YN (P:=fun l=>∀ k,xG b l->xG b k->l.length=k.length->val b l=val b k->l=k) (fun k _ _ h _=>(List.length_eq_zero_iff.mp h.symm).symm) (fun l c ih k hl hk he hv=>?_) l
 have ne:k≠[]:=fun z=>by rw [z,List.length_append] at he;cases he
 obtain ⟨k',d,rfl⟩ : ∃ k' d,k=k'++[d]:=⟨_,_,(List.dropLast_concat_getLast ne).symm⟩
 obtain ⟨_,c1,c2⟩:=hl.right c (List.mem_singleton.mpr rfl)
 obtain ⟨_,d1,d2⟩:=hk.right d (List.mem_singleton.mpr rfl)
 rw [Qp,Qp] at hv
 have q1:(val b l*b+fv c) / b=val b l:=by rw [Int.add_comm,Int.add_mul_ediv_right _ _ (by omega),Int.ediv_eq_zero_of_lt c1 c2,Int.zero_add]
 have q2:(val b k'*b+fv d) / b=val b k':=by rw [Int.add_comm,Int.add_mul_ediv_right _ _ (by omega),Int.ediv_eq_zero_of_lt d1 d2,Int.zero_add]
 have e1:val b l=val b k':=by rw [<- q1,hv,q2]
 have e2:fv c=fv d:=by rw [e1] at hv;omega
 rw [List.length_append,List.length_append,length_singleton,length_singleton] at he
 rw [ih k' hl.left hk.left (by omega) e1,zE2 c1 e2]
theorem zEt {b:Int} (hb:2<=b) (l:List Nat):xG b l->1<=l.length->l.getD 0 0≠48->b ^ (l.length - 1)<=val b l:=by
 refine YN (P:=fun l=>xG b l->1<=l.length->l.getD 0 0≠48->b ^ (l.length - 1)<=val b l) (fun _ h=>absurd h (by decide)) (fun l c ih h _ hn=>?_) l
 obtain ⟨_,c1,c2⟩:=h.right c (List.mem_singleton.mpr rfl)
 rw [Qp,List.length_append,length_singleton,Nat.add_sub_cancel]
 rcases Nat.eq_zero_or_pos l.length with z | z
 ·have z':=List.length_eq_zero_iff.mp z
  subst z'
  have nc:c≠48:=hn
  have:fv c≠fv 48:=fun e=>nc (zE2 c1 e)
  have e48:fv 48=0:=by decide
  show b ^ 0<=(0:Int)*b+fv c
  rw [Int.pow_zero]
  omega
 ·have i:=ih h.left z (by rw [ka z] at hn;exact hn)
  have e:b ^ l.length=b ^ (l.length - 1)*b:=by rw [<- Int.pow_succ];congr 1;omega
  have m1:=Int.mul_le_mul_of_nonneg_right i (show 0<=b by omega)
  rw [e];omega
def fj (c:Nat) (us:List (List Nat)):List Nat:=(us.map ([c] ++ ·)).flatten
theorem Qe {u:List Nat} {us:List (List Nat)}:fj c (u::us)=c::(u++fj c us):=by
 unfold fj;simp
theorem KN {c:Nat} : ∀ {x y:List Nat} {xs ys:List (List Nat)},c ∉ x->c ∉ y->x++fj c xs=y++fj c ys->x=y/\fj c xs=fj c ys
 | [],[],_,_,_,_,h=>⟨rfl,h⟩
 | [],b::y,[],ys,_,_,h=>by unfold fj at h;simp at h
 | [],b::y,u::us,ys,_,h2,h=>by
  rw [Qe,List.nil_append,cons_append,List.cons.injEq] at h
  exact absurd (h.1 ▸ mem_cons_self ..) h2
 | a::x,[],xs,[],_,_,h=>by unfold fj at h;simp at h
 | a::x,[],xs,u::us,h1,_,h=>by
  rw [Qe,List.nil_append,cons_append,List.cons.injEq] at h
  exact absurd (h.1 ▸ mem_cons_self ..) h1
 | a::x,b::y,xs,ys,h1,h2,h=>by
  rw [cons_append,cons_append,List.cons.injEq] at h
  obtain ⟨e1,e2⟩:=KN (fun z=>h1 (mem_cons_of_mem _ z)) (fun z=>h2 (mem_cons_of_mem _ z)) h.2
  exact ⟨by rw [h.1,e1],e2⟩
theorem zE6 {c:Nat} : ∀ {xs ys:List (List Nat)},(∀ t ∈ xs,c ∉ t)->(∀ t ∈ ys,c ∉ t)->fj c xs=fj c ys->xs=ys
 | [],[],_,_,_=>rfl
 | [],y::ys,_,_,h=>by rw [Qe] at h;unfold fj at h;simp at h
 | x::xs,[],_,_,h=>by rw [Qe] at h;unfold fj at h;simp at h
 | x::xs,y::ys,h1,h2,h=>by
  rw [Qe,Qe,List.cons.injEq] at h
  obtain ⟨e1,e2⟩:=KN (h1 x (mem_cons_self ..)) (h2 y (mem_cons_self ..)) h.2
  rw [e1,zE6 (fun t ht=>h1 t (mem_cons_of_mem _ ht)) (fun t ht=>h2 t (mem_cons_of_mem _ ht)) e2]
theorem zJI {xs ys:List (List Nat)} (n1:xs≠[]) (n2:ys≠[]) (h1 : ∀ t ∈ xs,c ∉ t) (h2 : ∀ t ∈ ys,c ∉ t) (h:jn [c] xs=jn [c] ys):xs=ys:=by
 cases xs with
 | nil=>exact absurd rfl n1
 | cons x xs =>
  cases ys with
  | nil=>exact absurd rfl n2
  | cons y ys =>
   obtain ⟨e1,e2⟩:=KN (h1 x (mem_cons_self ..)) (h2 y (mem_cons_self ..)) (show x++fj c xs=y++fj c ys from h)
   rw [e1,zE6 (fun t ht=>h1 t (mem_cons_of_mem _ ht)) (fun t ht=>h2 t (mem_cons_of_mem _ ht)) e2]
theorem zDs {ws:List (List Nat)} (n:ws≠[]) (h : ∀ t ∈ ws,c ∉ t):Txt.split (T (jn [c] ws)) (T [c])=ws.map T:=by
 have e:=StrLaws.join_split (T (jn [c] ws)) (T [c])
 have fr:=StrLaws.split_free (T (jn [c] ws)) c
 have np:=split_pos (T (jn [c] ws)) (T [c])
 generalize hq:Txt.split (T (jn [c] ws)) (T [c])=q at *
 have eq:q=(q.map Lt).map T:=by
  rw [List.map_map];conv=>lhs;rw [<- List.map_id q]
  exact List.map_congr_left fun z _=>(ZY z).symm
 have e':T (jn [c] (q.map Lt))=T (jn [c] ws):=by
  rw [<- e]
  have j:=zEq (T [c]) (q.map Lt)
  rw [<- eq,Xr] at j
  rw [<- j]
  exact StrLaws.glued_eq_join _ _
 have fr' : ∀ t ∈ q.map Lt,c ∉ t:=fun t ht=>by
  obtain ⟨z,hz,rfl⟩:=List.mem_map.mp ht
  exact fr z (by rw [show (⟨#[c]⟩:Str)=T [c] from rfl,hq];exact hz)
 rw [eq,zJI (by intro z;rw [List.map_eq_nil_iff] at z;rw [z] at np;simp at np) n fr' h (zKB.mp e')]
section
variable {X : Cx} {H : Hp} {Q : VK} {K : W.Frag}
open PySem.Builtin PySem.Builtin.Str in
theorem zEG {prog:Program} {w:World} {A:Around} {E:Value->Shared->Prop} {s:Shared} {y:Str} {t u:Tok} {R:Value->Shared->Prop} (ne:(y.length == 0)=false)
  (fin : ∀ (l:List (Str × Tok)) k,l.map (·.1)=Txt.split x y->R (.ref s.heap.objs.size) { s with toks:=k,heap:=s.heap.push { cls:=.type "list", data:=.seq (strValues l).toArray } })
  (z1:x.length<=sizeLine) (z2:(partsBetween x (occurrences x y 0 x.length (x.length+1)) y.length).length<=sizeLine):wpAny (model prog w) A (call (.builtin "str.split") [.str x t,.str y u]) R E s:=by
 have arg:=F.args_str_split_2 (.str x t) (.str y u)
 rcases Bool.eq_false_or_eq_true (decide (x.length < y.length) || decide (strKind x < strKind y)) with no | may
 ·have m:=meets_str_split_cannot_occur x y t u no
  refine call_meets F.slot_str_split (typeIs_str _ _ _) F.entry_str_split arg m (fin [(x,t)] _ ?_)
  unfold Txt.split
  rw [if_pos no];rfl
 rcases Bool.eq_false_or_eq_true (occurrences x y 0 x.length (x.length+1)).isEmpty with nix | got
 ·have m:=meets_str_split_not_found x y t u may ne nix
  refine call_meets F.slot_str_split (typeIs_str _ _ _) F.entry_str_split arg m (fin [(x,t)] _ ?_)
  unfold Txt.split
  rw [if_neg (by rw [may];decide),if_pos nix];rfl
 ·have m:=meets_str_split_sep x y t u may ne got z1 z2
  have q:=fin (numbered s.toks (partsBetween x (occurrences x y 0 x.length (x.length+1)) y.length)) (s.toks+(partsBetween x (occurrences x y 0 x.length (x.length+1)) y.length).length) (by
   rw [numbered_texts];unfold Txt.split
   rw [if_neg (by rw [may];decide),if_neg (by rw [got];decide)])
  rw [<- strsFrom_eq] at q
  exact call_meets F.slot_str_split (typeIs_str _ _ _) F.entry_str_split arg m q
theorem zDI {y:Str} (hx:x.length+2<=sizeLine):(Builtin.Str.partsBetween x (Builtin.Str.occurrences x y 0 x.length (x.length+1)) y.length).length<=sizeLine:=by
 rw [len_partsBetween]
 have:=StrLaws.occ_length_le x y 0 x.length (x.length+1)
 omega
def zBY:V->List V->Hp->VK->Prop:=fun x xs H Q=>∃ (c:Nat) (ws:List (List Nat)),x = .str (T (jn [c] ws))/\xs=[.str (T [c])]/\ws≠[]/\(∀ t ∈ ws,c ∉ t)/\(jn [c] ws).length<=16777000/\ws.length<=16777000 /\ ∀ l,H l=none->Q (.ref l) (upd H l (.lst (tsV ws)))
theorem zCq : ∀ {l:List (Str × Tok)} {ws:List (List Nat)},l.map (·.1)=ws.map T->qM (tsV ws) (strValues l)
 | [],[],_=>.nil
 | [],_::_,h=>by simp at h
 | _::_,[],h=>by simp at h
 | (z,t)::l,w::ws,h=>by
  rw [List.map_cons,List.map_cons,List.cons.injEq] at h
  have h1:z=T w:=h.1
  subst h1
  exact .cons ⟨t,rfl⟩ (zCq h.2)
theorem ko:MtR X "str.split" zBY:=by
 intro pins s σ H x xs v us Q I rx rv h
 obtain ⟨c,ws,rfl,rfl,n,fr,z1,z2,q⟩:=h
 obtain ⟨t,rfl⟩:=rx
 obtain ⟨u,rfl,ru⟩:=rv.one
 obtain ⟨t',rfl⟩:=ru
 have hx:(T (jn [c] ws)).length+2<=sizeLine:=le_trans (show (jn [c] ws).length+2<=16777216 by omega) (by decide)
 refine zEG rfl (fun l k hl=>?_) (by omega) (zDI hx)
 rw [zDs n fr] at hl
 refine ⟨.ref s.heap.objs.size,_,I.laid (a:=s.heap.objs.size) (o:=.lst (tsV ws)) (fun b u e=>Heap.get?_push_of_some _ e) (Nat.le_refl _) ?_,rfl,q _ (I.hok.fresh (Nat.le_refl _))⟩
 refine ⟨le_trans (show (tsV ws).length<=16777216 by rw [show (tsV ws).length=ws.length from length_map _];omega) (by decide),strValues l,0,zCq hl,?_⟩
 exact Heap.get?_push_size _ rfl
theorem j6 {ws:List (List Nat)} (n:ws≠[]) (fr : ∀ t ∈ ws,c ∉ t) (z1:(jn [c] ws).length<=16777000) (z2:ws.length<=16777000) (q : ∀ l H',zc H H'->H l=none->H' l=some (.lst (tsV ws))->Q (.ref l) H'):zBY (.str (T (jn [c] ws))) [.str (T [c])] H Q:=⟨c,ws,rfl,rfl,n,fr,z1,z2,fun l hl=>q l _ (qO (zc.refl _) hl) hl zK⟩
def zJz (w:World) (e:Str × Tok × Value):DictEntry:=⟨hashStr w e.1,.str e.1 e.2.1,e.2.2⟩
def KDs (w:World) (K:W.Frag) (d:Addr) (ks:List Str):Prop:=(d == sysModules)=false /\ ∃ (kvs:List (Str × Tok × Value)) (n:Nat),K.lookup d=some { cls:=.type "dict", data:=.dict (kvs.map (zJz w)).toArray n }/\ks=kvs.map (·.1)/\ks.Nodup/\ks.length<=1000
def zAo (w:World) (K:W.Frag):List V->Hp->VK->Prop:=fun xs H Q=>∃ d ks,xs=[.ref d]/\KDs w K d ks /\ ∀ l,H l=none->Q (.ref l) (upd H l (.lst (ks.map V.str)))
theorem isStrOf_shape {k:Str} {v:Value} (h:Value.isStrOf k v=true) : ∃ t,v = .str k t:=by
 rcases qk (k:=Sum.inr k) h with ⟨i,t,z,_⟩ | ⟨x,t,z,e⟩
 ·cases z
 ·cases z;exact ⟨t,e⟩
theorem Y5 : ∀ {ks:List Str} {vs:List Value},vs.length=ks.length->(∀ (j:Nat) (v:Value),vs[j]? = some v -> ∃ k,ks[j]? = some k/\Value.isStrOf k v=true)->qM (ks.map V.str) vs
 | [],[],_,_=>.nil
 | [],_::_,h,_=>by simp at h
 | _::_,[],h,_=>by simp at h
 | k::ks,v::vs,h,hv=>by
  obtain ⟨k',e,hk⟩:=hv 0 v rfl
  cases e
  exact .cons (isStrOf_shape hk) (Y5 (by simpa using h) fun j u hu=>hv (j+1) u hu)
theorem Y7 {P:Program} {w:World} : ∀ (kvs:List (Str × Tok × Value)),Pairs (PySem.strKind P w) (kvs.map (zJz w)) (kvs.map fun e=>(e.1,e.2.2))
 | []=>.nil
 | e::kvs=>.cons (by simp [PySem.strKind,Value.isStrOf,zJz]) rfl (Y7 kvs)
theorem Kl (hc:X.calm=true):jC X (.type "list") (zAo X.w X.K):=by
 intro pins s σ H xs us Q I r h
 obtain ⟨d,ks,rfl,⟨lo,kvs,n,lk,ek,nd,hz⟩,q⟩:=h
 obtain ⟨u,rfl,rx⟩:=Jm r
 cases rx
 have ho:=I.kIn d _ lk
 have hl:ks.length=kvs.length:=by rw [ek,length_map]
 have hl2:(kvs.map fun e=>(e.1,e.2.2)).length=ks.length:=by rw [length_map,hl]
 refine W.kdl_call (W.kdl_dict (knd:=PySem.strKind X.prog X.w) (kvs:=kvs.map fun e=>(e.1,e.2.2)) (ep:=n) lo) (I.ok.hd hc) ⟨_,_,ho,⟨rfl,rfl,rfl⟩,rfl,?_,?_,?_⟩ (by rw [hl2];exact qz hz) fun h' tk acc' c' kp e hacc=>?_
 ·intro e he
  obtain ⟨z,_,rfl⟩:=List.mem_map.mp (show e ∈ kvs.map (zJz X.w) from (List.mem_toArray).mp he)
  exact ⟨z.1,by simp [PySem.strKind,Value.isStrOf,zJz],rfl⟩
 ·exact Y7 kvs
 ·rw [List.map_map];rw [ek] at nd;exact nd
 ·refine ⟨.ref s.heap.objs.size,_,I.laid (t':=tk) kp (Nat.le_refl _) (show jo X.prog X.w _ h' _ (.lst (ks.map V.str)) from ⟨by rw [length_map];exact qz hz,acc'.toList,c',?_,by rw [Array.toArray_toList];exact e⟩),rfl,q _ (I.hok.fresh (Nat.le_refl _))⟩
  refine Y5 (by rw [Array.length_toList,hacc.1,hl2]) fun j v hv=>?_
  obtain ⟨k,x,e1,e2⟩:=hacc.2 j v (by rw [<- Array.getElem?_toList];exact hv)
  refine ⟨k,?_,e2⟩
  rw [List.getElem?_map] at e1
  rw [ek,List.getElem?_map]
  cases hj:kvs[j]? with
  | none=>rw [hj] at e1;cases e1
  | some z=>rw [hj] at e1;cases e1;rfl
theorem zDA {w:World} {d:Addr} {ks:List Str} (h:KDs w K d ks) (q : ∀ l H',zc H H'->H l=none->H' l=some (.lst (ks.map V.str))->Q (.ref l) H'):zAo w K [.ref d] H Q:=⟨d,ks,rfl,h,fun l hl=>q l _ (qO (zc.refl _) hl) hl zK⟩
end
variable {w:World}
theorem kds_sty {d:Addr} {n0:Nat} {t0 t1 t2 t3 t4:Tok} {v0 v1 v2 v3 v4:Value} (lo:(d == sysModules)=false)
  (hd:K.lookup d=some { cls:=.type "dict", data:=.dict #[⟨PyData.keyHash w.params "minus", .str "minus" t0,v0⟩,⟨PyData.keyHash w.params "plus", .str "plus" t1,v1⟩,⟨PyData.keyHash w.params "blank", .str "blank" t2,v2⟩,⟨PyData.keyHash w.params "brackets", .str "brackets" t3,v3⟩,⟨PyData.keyHash w.params "behind", .str "behind" t4,v4⟩] n0 }):KDs w K d ["minus", "plus", "blank", "brackets", "behind"]:=
 ⟨lo,[("minus", t0,v0),("plus", t1,v1),("blank", t2,v2),("brackets", t3,v3),("behind", t4,v4)],n0,hd,rfl,by decide +kernel,by decide⟩
def KDt (w:World) (K:W.Frag) (d:Addr) (z v:Str):Prop:=∃ (es:Array DictEntry) (n:Nat) (t:Tok),K.lookup d=some { cls:=.type "dict", data:=.dict es n }/\(∀ e,e ∈ es -> ∃ k,Value.isStrOf k e.key=true/\e.hash=hashStr w k)/\findBy Value.isStrOf es z=some (.str v t)
def zFn (w:World) (K:W.Frag):R2:=fun x y H Q=>∃ d z v,x = .ref d/\y = .str z/\KDt w K d z v/\Q (.str v) H
section
variable {X : Cx} {H : Hp} {Q : VK} {K : W.Frag} {w : World}
theorem zFR:IxR X (zFn X.w X.K):=by
 intro value slice pins s σ H x y v u Q I rx ry h hs
 obtain ⟨d,z,p,rfl,rfl,⟨es,n,tk,lk,ks,f⟩,q⟩:=h
 cases rx
 obtain ⟨t,rfl⟩:=ry
 have ho:=I.kIn d _ lk
 have fin : ∀ k,EP X pins σ Q (.str p tk) { s with toks:=k }:=fun k=>⟨.str p,H,I.tok _,⟨tk,rfl⟩,q⟩
 exact subscriptTail_builtinR (x:=.str p tk) ⟨_,ho,rfl⟩ slot_dict_getitem.lookup
  (wpAny_getItem_of (knd:=PySem.strKind X.prog X.w) (k:=z) (f:=fun k=>findBy Value.isStrOf es k) (Q:=fun r s'=>r = .str p tk/\EP X pins σ Q r s') (by simp [PySem.strKind,Value.isStrOf]) ⟨_,es,n,ho,⟨rfl,rfl,rfl⟩,rfl,ks,fun k=>rfl⟩ f ⟨rfl,fin _⟩) hs
theorem zHO (e1:X.w=w) (e2:X.K=K):IxR X (zFn w K):=e1 ▸ e2 ▸ zFR
theorem zE8 {d:Addr} {z v:Str} (h:KDt w K d z v) (q:Q (.str v) H):zFn w K (.ref d) (.str z) H Q:=⟨d,z,v,rfl,rfl,h,q⟩
end
variable {D:Z9} {σ:St} {H:Hp}
theorem z7 {s R:TS} (I:St->Hp->Prop) (h2 : ∀ σ' H',I σ' H'->R D σ' H') (h1 : ∀ R':TS,(∀ σ' H',I σ' H'->R' D σ' H')->zJJ s R' D σ H):zJJ s R D σ H:=h1 R h2
variable {v:V}
theorem zHG {f:Str} {x:V} {r:List (Str × V)}:Z0 f v ((f,x)::r)=(f,v)::r:=by
 rw [show Z0 f v ((f,x)::r)=(if f=f then (f,v)::r else (f,x)::Z0 f v r) from rfl,if_pos rfl]
def wfs (L:Addr) (n:Nat):List (Str × V):=[("words", .ref L),("at", .int n)]
def Wr (K:W.Frag) (C:Addr) (H:Hp) (a:Addr) (yp:List (List Nat)):Prop:=∃ (dx L:Addr) (ws:List (List Nat)) (n:Nat),H a=some (.ins C dx (wfs L n))/\SqL K H L (tsV ws)/\n<=ws.length/\ws.drop n=yp/\ws.length<=100
section
variable {K : W.Frag} {C : Addr} {H H' : Hp} {a L dx : Addr} {n : Nat} {yp : List (List Nat)}
theorem Wr.same (g:zc H H') (h:Wr K C H a yp):Wr K C H' a yp:=let ⟨d,L,ws,n,e1,e2,e3,e4,e5⟩:=h;⟨d,L,ws,n,g.at e1,g.seq e2,e3,e4,e5⟩
theorem YR:(wfs L n).lookup ("words" : Str)=some (.ref L):=yc
theorem zEJ:(wfs L n).lookup ("at" : Str)=some (.int n):=(qH (by decide +kernel)).trans yc
theorem zHC {m:Str} (h1:m ≠ "words") (h2:m ≠ "at"):(wfs L n).lookup m=none:=(qH h1).trans ((qH h2).trans rfl)
theorem zEY:Z0 "at" (.int k) (wfs L n)=wfs L k:=by
 unfold wfs
 rw [zh (by decide +kernel),zHG]
theorem SB.tup {xs:List V} {p:Addr} (s:SB a H H') (w:Wr K C H a yp) (h:H p=some (.tup xs)):H' p=some (.tup xs):=by
 obtain ⟨d,L,ws,n,e1,_⟩:=w
 exact s p _ (fun z=>by subst z;rw [e1] at h;cases h) h
theorem SB.lst {xs:List V} {p:Addr} (s:SB a H H') (w:Wr K C H a yp) (h:H p=some (.lst xs)):H' p=some (.lst xs):=by
 obtain ⟨d,L,ws,n,e1,_⟩:=w
 exact s p _ (fun z=>by subst z;rw [e1] at h;cases h) h
theorem SB.trans {F:Hp} (s:SB a H H') (t:SB a H' F):SB a H F:=fun b o n e=>t b o n (s b o n e)
theorem SB.of (g:zc H H'):SB a H H':=fun b o _ e=>g _ _ e
end
def zDv:R2:=fun x y H Q=>y = .non/\Q (.bl (!decide (x = .non))) H
theorem K4:OpR X (compareOp .IsNot) zDv:=zG8
variable {i:Int} {Q:VK}
theorem zGD (q:Q (.bl true) H):zDv (.int i) .non H Q:=⟨rfl,by rw [decide_eq_false (fun z=>nomatch z)];exact q⟩
section
variable {X : Cx} {tg : Expr}
end
section
variable {σ : St} {H : Hp} {Q : VK} {D : Z9} {K : W.Frag}
def zLl:R2:=fun x y H Q=>∃ i j,x = .str i/\y = .str j/\Q (.bl (decide (i.cps.toList < j.cps.toList))) H
def ltT (a b:List Nat):Bool:=decide ((T a).cps.toList < (T b).cps.toList)
theorem zKe {b:List Nat} (q:Q (.bl (ltT a b)) H):zLl (.str (T a)) (.str (T b)) H Q:=⟨_,_,rfl,rfl,q⟩
theorem zHk:OpR X (compareOp .Lt) zLl:=zAq
end
def X5 (z:Nat->Str) (i j:Nat):Bool:=decide (((z i).length:Int) < ((z j).length:Int))
def sh (z:Nat->Str) (j:Nat):Nat:=argBest (X5 z) j
theorem zCs (z:Nat->Str) (j:Nat):sh z (j+1)=if X5 z (j+1) (sh z j)=true then j+1 else sh z j:=rfl
section
variable {prog : Program} {w : World} {A : Around} {R : Result -> Shared -> Prop} {I : Addr} {fp wr : List Addr} {n : Nat} {z : Nat -> Str} {St : Nat -> Heap -> Prop}
theorem KU (hz : ∀ i,(z i).length<=sizeLine) (W:Walks prog w A.in1 I fp wr n (fun i v=>∃ t,v = .str (z i) t) St) (S:Addr) (out:S ∉ fp) :
  ∀ (left j:Nat) (s:Shared) (x y:Value) (c:Nat),n=j+1+left->St (j+1) s.heap->(∃ t,x = .str (z (sh z j)) t)->(∃ u,y = .int (z (sh z j)).length u) ->
   s.heap.get? S=some { cls:=.type "list", dict:=none,data:=.seq #[x,y] c,slots:=#[] } ->
   (∀ v h tk,(∃ t,v = .str (z (sh z (n - 1))) t)->(∀ b o,b ∉ wr->b≠S->s.heap.get? b=some o->h.get? b=some o)->R (.ok (.ret v)) { s with heap:=h,toks:=tk }) ->
   codeAny (model prog w) A (.builtin "min.loop" ⟨[.ref I,.builtin "len", .ref S],[]⟩) R s:=by
 have apart:S ∉ wr:=fun q=>out (W.sub _ q)
 have nm:(toString "min" ++ toString ".loop" : String) = "min.loop" := by decide
 intro left
 induction left with
 | zero =>
  intro j s x y c en st bx hy at_ fin
  have en':n=j+1:=en
  subst en'
  refine codeAny_builtin F.entry_min_loop ?_
  rw [Around.under_plainId F.plain_min_loop _]
  refine (show wpAny (model prog w) A.in1 (seqItems? (.ref S) >>= _) _ _ s from wpAny_bind (wpAny_seqItems at_ rfl ?_))
  refine (show wpAny (model prog w) A.in1 (tryCatch (pyNext (.ref I)) _ >>= _) _ _ s from wpAny_bind (wpAny_tryCatch (W.done s _ _ st fun h1 tk keep=>?_)))
  have at1:=keep S _ apart at_
  refine (show wpAny (model prog w) A.in1 (updateSeq S (fun _=>#[]) >>= _) _ _ _ from wpAny_bind (wpAny_updateSeq at1 rfl (wpAny_bind (wpAny_letGo (wpAny_pure ?_)))))
  exact fin x _ tk bx fun b o nb ns e=>(Heap.get?_update_other _ _ (fun q=>ns q.symm)).trans (keep b o nb e)
 | succ left ih =>
  intro j s x y c en st bx hy at_ fin
  refine codeAny_builtin F.entry_min_loop ?_
  rw [Around.under_plainId F.plain_min_loop _]
  refine (show wpAny (model prog w) A.in1 (seqItems? (.ref S) >>= _) _ _ s from wpAny_bind (wpAny_seqItems at_ rfl ?_))
  refine (show wpAny (model prog w) A.in1 (tryCatch (pyNext (.ref I)) _ >>= _) _ _ s from wpAny_bind (wpAny_tryCatch (W.item (j+1) s _ _ (by omega) st fun v h1 tk hv st1 keep=>?_)))
  obtain ⟨t,rfl⟩:=hv
  have at1:=keep S _ apart at_
  have l63:=Q3
  have lz:=hz (j+1)
  refine (show wpAny (model prog w) A.in1 (tryCatch (holding [Value.str (z (j+1)) t] (call (.builtin "len") [Value.str (z (j+1)) t])) _ >>= _) _ _ _ from wpAny_bind (wpAny_tryCatch (wpAny_holding (len_str (by omega) ?_))))
  refine (show wpAny (model prog w) A.in1 (tryCatch (holding _ (richCompare .Lt _ y >>= _)) _ >>= _) _ _ _ from wpAny_bind (wpAny_tryCatch (wpAny_holding (wpAny_bind
   (CmpOf.ints_lt (P:=fun i v=>∃ u,v = .int ((z i).length:Int) u) (fun i=>((z i).length:Int)) (fun _ _ q=>q) (j+1) (sh z j) _ y _ _ _ ⟨_,rfl⟩ hy ?_)))))
  refine wpAny_bind (wpAny_holding (wpAny_truthy_bool ?_))
  refine wpAny_bind (wpAny_letGo (wpAny_pure ?_))
  have stp:=zCs z j
  cases hb:decide (((z (j+1)).length:Int) < ((z (sh z j)).length:Int)) with
  | true =>
   rw [if_pos (show X5 z (j+1) (sh z j)=true from hb)] at stp
   rw [if_pos hb]
   refine wpAny_bind ?_
   refine wpAny_updateSeq at1 rfl (wpAny_bind (wpAny_letGo ?_))
   rw [nm]
   refine wpAny_pure ⟨plainId_quiet F.plain_min_loop _,ih (j+1) _ _ _ _ (by omega) (W.frame _ _ _ st1 fun b hb' o e=>?_) ⟨t,by rw [stp]⟩ ⟨_,by rw [stp]⟩ (Heap.get?_update_self _ at1 rfl) fun v' h2 tk' pv keep'=>?_⟩
   ·exact (Heap.get?_update_other _ _ (fun q:S=b=>out (q ▸ hb'))).trans e
   ·exact fin v' h2 tk' pv fun b o nb ns e=>keep' b o nb ns ((Heap.get?_update_other _ _ (fun q=>ns q.symm)).trans (keep b o nb e))
  | false =>
   rw [if_neg (show ¬ X5 z (j+1) (sh z j)=true from fun q=>by rw [show X5 z (j+1) (sh z j)=false from hb] at q;cases q)] at stp
   rw [if_neg (fun q=>Bool.noConfusion (hb.symm.trans q))]
   refine wpAny_bind (wpAny_letGo ?_)
   rw [nm]
   refine wpAny_pure ⟨plainId_quiet F.plain_min_loop _,ih (j+1) _ x y c (by omega) st1 (by rw [stp];exact bx) (by rw [stp];exact hy) at1 fun v' h2 tk' pv keep'=>?_⟩
   exact fin v' h2 tk' pv fun b o nb ns e=>keep' b o nb ns (keep b o nb e)
theorem Vo (hz : ∀ i,(z i).length<=sizeLine) (W:Walks prog w A.in1 I fp wr n (fun i v=>∃ t,v = .str (z i) t) St) (S:Addr) (out:S ∉ fp) (hn:0 < n) {s:Shared} (st:St 0 s.heap)
  (at_:s.heap.get? S=some { cls:=.type "list", dict:=none,data:=.seq #[] c,slots:=#[] })
  (fin : ∀ v h tk,(∃ t,v = .str (z (sh z (n - 1))) t)->(∀ b o,b ∉ wr->b≠S->s.heap.get? b=some o->h.get? b=some o)->R (.ok (.ret v)) { s with heap:=h,toks:=tk }) :
  codeAny (model prog w) A (.builtin "min.loop" ⟨[.ref I,.builtin "len", .ref S],[]⟩) R s:=by
 have apart:S ∉ wr:=fun q=>out (W.sub _ q)
 have nm:(toString "min" ++ toString ".loop" : String) = "min.loop" := by decide
 refine codeAny_builtin F.entry_min_loop ?_
 rw [Around.under_plainId F.plain_min_loop _]
 refine (show wpAny (model prog w) A.in1 (seqItems? (.ref S) >>= _) _ _ s from wpAny_bind (wpAny_seqItems at_ rfl ?_))
 refine (show wpAny (model prog w) A.in1 (tryCatch (pyNext (.ref I)) _ >>= _) _ _ s from wpAny_bind (wpAny_tryCatch (W.item 0 s _ _ hn st fun v h1 tk hv st1 keep=>?_)))
 obtain ⟨t,rfl⟩:=hv
 have at1:=keep S _ apart at_
 have l63:=Q3
 have lz:=hz 0
 refine (show wpAny (model prog w) A.in1 (tryCatch (holding [Value.str (z 0) t] (call (.builtin "len") [Value.str (z 0) t])) _ >>= _) _ _ _ from wpAny_bind (wpAny_tryCatch (wpAny_holding (len_str (by omega) ?_))))
 refine wpAny_bind ?_
 refine wpAny_updateSeq at1 rfl ?_
 rw [nm]
 refine wpAny_pure ⟨plainId_quiet F.plain_min_loop _,KU hz W S out (n - 1) 0 _ _ _ _ (by omega) (W.frame _ _ _ st1 fun b hb' o e=>?_) ⟨t,rfl⟩ ⟨_,rfl⟩ (Heap.get?_update_self _ at1 rfl) fun v' h2 tk' pv keep'=>?_⟩
 ·exact (Heap.get?_update_other _ _ (fun q:S=b=>out (q ▸ hb'))).trans e
 ·exact fin v' h2 tk' pv fun b o nb ns e=>keep' b o nb ns ((Heap.get?_update_other _ _ (fun q=>ns q.symm)).trans (keep b o nb e))
end
section
variable {prog : Program} {w : World} {A : Around} {E : Value -> Shared -> Prop} {s : Shared}
theorem KK {x:Value} {Q:Value->Shared->Prop}
  (h:wpAny (model prog w) A.in1 (pyIter x) (fun it s2=>∃ (I:Addr) (fp wr:List Addr) (n:Nat) (z:Nat->Str) (St:Nat->Heap->Prop),it = .ref I/\(∀ i,(z i).length<=sizeLine)/\Walks prog w A.in1 I fp wr n (fun i v=>∃ t,v = .str (z i) t) St/\St 0 s2.heap/\(∀ b ∈ fp,b < s2.heap.objs.size)/\0 < n /\
   ∀ v h' tk,(∃ t,v = .str (z (sh z (n - 1))) t)->(∀ b o,b ∉ wr->s2.heap.get? b=some o->h'.get? b=some o)->Q v { s2 with heap:=h',toks:=tk }) E s) :
  wpAny (model prog w) A (call (.builtin "min") [x] [("key", .builtin "len")]) Q E s:=by
 have nm:(toString "min" ++ toString ".loop" : String) = "min.loop" := by decide
 have fits:argsOk "min" ⟨[x],[("key", .builtin "len")]⟩:=by unfold argsOk;kernel_rfl
 have bound:Builtin.Builtins.bindParams "min" ["key", "default"] 0 ⟨[],[("key", Value.builtin "len")]⟩=pure [some (.builtin "len"),none]:=rfl
 have body:wpAny (model prog w) A.in1 (Builtin.«min» ⟨[x],[("key", .builtin "len")]⟩) (fun fin s'=>match fin with
   | .done f=>(match (Except.ok f:Result) with | .ok (.ret v)=>Q v s' | .ok _=>False | .error e=>E e s')
   | .again c'=>c'.quiet=true/\codeAny (model prog w) A c' (fun r s'=>match r with | .ok (.ret v)=>Q v s' | .ok _=>False | .error e=>E e s') s') E s:=by
  refine (show wpAny (model prog w) A.in1 (Builtin.Builtins.bindParams "min" ["key", "default"] 0 ⟨[],[("key", Value.builtin "len")]⟩ >>= _) _ _ s from wpAny_bind (wpAny_of_eq bound ?_))
  refine wpAny_bind (wpAny_pure (wpAny_bind (wpAny_mono h (fun it s2 g=>?_) fun _ _ e=>e)))
  obtain ⟨I,fp,wr,n,z,St,rfl,hz,W,st,low,hn,fin⟩:=g
  refine wpAny_bind (wpAny_newObj_type ?_)
  have out:s2.heap.objs.size ∉ fp:=fun q=>lt_irrefl _ (low _ q)
  rw [nm]
  refine wpAny_pure ⟨plainId_quiet F.plain_min_loop _,Vo hz W _ out hn (W.frame _ _ _ st fun b _ o e=>Heap.get?_push_of_some _ e) (Heap.get?_push_size _ rfl) fun v h' tk pv keep=>?_⟩
  exact fin v h' tk pv fun b o nb e=>keep b o nb (ne_of_lt (Heap.lt_size e)) (Heap.get?_push_of_some _ e)
 refine wpAny_call (codeAny_call_builtin F.plain_min F.entry_min ?_)
 simp only [checkBuiltinCall,F.kind_min]
 cases hs:Manifest.signature? "min" with
 | none=>exact wpAny_pure body
 | some sig =>
  have f2:Bind.checkArgs "min" sig ⟨[x],[("key", .builtin "len")]⟩=pure ():=by simpa only [argsOk,hs] using fits
  simp only [f2]
  exact wpAny_pure body
end
theorem zCG (z:Nat->Str) : ∀ k,sh z k<=k /\ ∀ i,i<=k->(z (sh z k)).length<=(z i).length
 | 0=>⟨Nat.le_refl _,fun i hi=>by rw [show i=0 by omega];exact Nat.le_refl _⟩
 | k+1=>by
  obtain ⟨h1,h2⟩:=zCG z k
  rw [zCs]
  unfold X5
  split
  ·rename_i hc
   have hc':=of_decide_eq_true hc
   refine ⟨Nat.le_refl _,fun i hi=>?_⟩
   rcases lt_or_ge i (k+1) with q | q
   ·have:=h2 i (by omega);omega
   ·rw [show i=k+1 by omega];exact Nat.le_refl _
  ·rename_i hc
   have hc' : ¬ (((z (k+1)).length:Int) < ((z (sh z k)).length:Int)):=fun q=>hc (decide_eq_true q)
   refine ⟨by omega,fun i hi=>?_⟩
   rcases lt_or_ge i (k+1) with q | q
   ·exact h2 i (by omega)
   ·rw [show i=k+1 by omega];omega
variable {A:Around}
theorem Yf {prog:Program} {I:Addr} {fp wr:List Addr} {P P':Nat->Value->Prop} {St:Nat->Heap->Prop} (W:Walks prog w A I fp wr n P St) (imp : ∀ i v,P i v->P' i v):Walks prog w A I fp wr n P' St where
 sub:=W.sub
 frame:=W.frame
 item:=fun i s Q E hi st hQ=>W.item i s Q E hi st fun v h tk hv=>hQ v h tk (imp i v hv)
 done:=W.done
 self:=W.self
theorem X8 : ∀ {ts:List (List Nat)} {its:List Value},qM (tsV ts) its -> ∀ i v,its[i]? = some v -> ∃ t,v=Value.str (T (ts.getD i [])) t
 | [],_,.nil,i,v,e=>by simp at e
 | _::_,_,.cons r rr,0,v,e=>by
  obtain ⟨t,rfl⟩:=r
  simp at e
  exact ⟨t,e.symm⟩
 | _::ts,_,.cons r rr,i+1,v,e=>by
  have e':_=some v:=e
  rw [List.getElem?_cons_succ] at e'
  obtain ⟨t,h⟩:=X8 rr i v e'
  exact ⟨t,by rw [List.getD_cons_succ];exact h⟩
def zF5 (K:W.Frag):V->Hp->VK->Prop:=fun x H Q=>∃ p ts,x = .ref p/\SqL K H p (tsV ts)/\ts≠[]/\(∀ t ∈ ts,t.length<=1000) /\ ∀ t,t ∈ ts->(∀ u ∈ ts,t.length<=u.length)->Q (.str (T t)) H
section
variable {X : Cx}
theorem zCa {a:Expr} {ta:TA} {p2 kp:Pos} (hc:X.calm=true) (hg:Gl X "min") (hm:X.mg "min" = none) (hg2:Gl X "len") (hm2:X.mg "len" = none) (ha:PA X [a] ta)
  (he:backTo pos (starEach [a] X.env)=(false,eval a X.env)::backTo pos (starEach [] X.env):=by rfl) (hpl:(backTo pos (starEach [a] X.env)).any (·.1)=false:=by rfl):PE X (.Call (.Name "min" p) [a] [⟨some "key", .Name "len" p2,kp⟩] pos) (fun σ H Q=>ta σ H fun vs H1=>∃ x,vs=[x]/\zF5 X.K x H1 Q):=by
 intro pins s σ H Q I h
 refine wpAny_Call_Name_kw (YC I hg hm (u:=.builtin "min") rfl ?_)
 refine PyProof.Rows.callWith_kw (thn (ha pos pins s σ H _ I h) fun us s1 zq=>?_) he hpl
 obtain ⟨vs,H1,I1,r1,x,ev,q1⟩:=zq
 refine PyProof.Rows.kws_cons (YC I1 hg2 hm2 (u:=.builtin "len") rfl (PyProof.Rows.kws_nil ?_))
 subst ev
 obtain ⟨u,rfl,rx⟩:=Jm r1
 obtain ⟨pp,ts,rfl,hq,hne,hl,q⟩:=q1
 cases rx
 obtain ⟨its,rv,pl,hz⟩:=I1.list hq
 have ln:its.length=ts.length:=by have:=rv.length;rw [show (tsV ts).length=ts.length from length_map _] at this;omega
 have pos0:0 < ts.length:=List.length_pos_iff.mpr hne
 refine KK (wpAny_pyIter_list pl.isList ?_)
 have nI:pp≠s1.heap.objs.size:=fun e=>by
  obtain ⟨o,n,g,_⟩:=pl
  have:=Heap.lt_size g
  rw [e] at this;exact lt_irrefl _ this
 have val : ∀ i v,its.toArray[i]? = some v -> ∃ t,v=Value.str (T (ts.getD i [])) t:=fun i v e=>X8 rv i v (by rw [<- List.getElem?_toArray];exact e)
 have W:=Yf (P':=fun i v=>∃ t,v=Value.str (T (ts.getD i [])) t) (Walks.list (prog:=X.prog) (w:=X.w) (A:=X.A.in1) (I1.ok.hd hc) s1.heap.objs.size pp nI its.toArray) val
 have szs:its.toArray.size=ts.length:=by simp [ln]
 have long : ∀ i,(T (ts.getD i [])).length<=sizeLine:=fun i=>by
  refine le_trans (show (ts.getD i []).length<=1000 from ?_) (by decide)
  rcases lt_or_ge i ts.length with k | k
  ·rw [List.getD_eq_getElem?_getD,getElem?_eq_getElem k];exact hl _ (List.getElem_mem k)
  ·rw [List.getD_eq_getElem?_getD,List.getElem?_eq_none k];exact Nat.zero_le _
 refine ⟨_,_,_,_,fun i=>T (ts.getD i []),_,rfl,long,W,⟨⟨_,Heap.get?_push_size _ rfl,rfl,rfl⟩,?_⟩,fun b hb=>?_,by rw [szs];exact pos0,fun v h' tk pv keep=>?_⟩
 ·obtain ⟨o,n,g,r⟩:=pl.isList
  exact ⟨o,Heap.get?_push_of_some _ n,g,r⟩
 ·have lt:b < s1.heap.objs.size+1:=by
   rcases List.mem_cons.mp hb with e | e
   ·rw [e];exact Nat.lt_succ_self _
   ·rw [List.mem_singleton.mp e]
    obtain ⟨o,g,_⟩:=pl.isList
    exact Nat.lt_succ_of_lt (Heap.lt_size g)
  exact lt_of_lt_of_le lt (Nat.le_of_eq (Array.size_push _).symm)
 ·obtain ⟨t,rfl⟩:=pv
  obtain ⟨c1,c2⟩:=zCG (fun i=>T (ts.getD i [])) (its.toArray.size - 1)
  generalize hi:sh (fun i=>T (ts.getD i [])) (its.toArray.size - 1)=i at c1 c2 ⊢
  have il:i < ts.length:=by omega
  have mem:ts.getD i [] ∈ ts:=by rw [List.getD_eq_getElem?_getD,getElem?_eq_getElem il];exact List.getElem_mem il
  refine ⟨.str (T (ts.getD i [])),H1,I1.kept (t':=tk) (fun b o e=>keep b o (fun m=>?_) (Heap.get?_push_of_some _ e)),⟨t,rfl⟩,q _ mem fun u hu=>?_⟩
  ·rw [List.mem_singleton.mp m] at e
   exact lt_irrefl _ (Heap.lt_size e)
  ·obtain ⟨k,hk,rfl⟩:=List.mem_iff_getElem.mp hu
   have:=c2 k (by omega)
   rw [show ts.getD k []=ts[k] by rw [List.getD_eq_getElem?_getD,getElem?_eq_getElem hk];rfl] at this
   exact this
end
def zJt (t1 t2:TE):TE:=fun σ H Q=>t1 σ H Q\/t2 σ H Q
section
variable {X : Cx} {σ : St} {H : Hp} {Q : VK} {K : W.Frag} {w : World}
variable {t2:TE}
theorem K8 {e:Expr} {t1:TE} (h1:PE X e t1) (h2:PE X e t2):PE X e (zJt t1 t2):=fun pins s σ H Q I h=>h.elim (h1 pins s σ H Q I) (h2 pins s σ H Q I)
theorem zDE {t1:TE} (h:t1 σ H Q):zJt t1 t2 σ H Q:=.inl h
theorem zAb {t1:TE} (h:t2 σ H Q):zJt t1 t2 σ H Q:=.inr h
def KDi (w:World) (K:W.Frag) (d:Addr) (z:Str) (b:Bool):Prop:=(d == sysModules)=false /\ ∃ (es:Array DictEntry) (n:Nat),K.lookup d=some { cls:=.type "dict", data:=.dict es n }/\(∀ e,e ∈ es -> ∃ k,Value.isStrOf k e.key=true/\e.hash=hashStr w k)/\(findBy Value.isStrOf es z).isSome=b
def zLZ (w:World) (K:W.Frag):R2:=fun x y H Q=>∃ d z b,x = .str z/\y = .ref d/\KDi w K d z b/\Q (.bl b) H
theorem zHp:OpR X (compareOp .In) (zLZ X.w X.K):=by
 intro pins s σ H x y v u Q I rx ry h
 obtain ⟨d,z,b,rfl,rfl,⟨lo,es,n,lk,ks,f⟩,q⟩:=h
 cases ry
 obtain ⟨t,rfl⟩:=rx
 have ho:=I.kIn d _ lk
 exact wpAny_in_of (knd:=PySem.strKind X.prog X.w) (k:=z) (f:=fun k=>findBy Value.isStrOf es k) (by simp [PySem.strKind,Value.isStrOf]) lo ⟨_,es,n,ho,⟨rfl,rfl,rfl⟩,rfl,ks,fun k=>rfl⟩ ⟨.bl _,H,I.tok _,rfl,by rw [f];exact q⟩
theorem zIA {d:Addr} {z:Str} {b:Bool} (h:KDi w K d z b) (q:Q (.bl b) H):zLZ w K (.str z) (.ref d) H Q:=⟨d,z,b,rfl,rfl,h,q⟩
end
variable {M:Model}
theorem J9 {Γ:PySem.Ctx} {t:Sem Fin} {fs:List Frame} {s s':Shared} {e:End} (h:Runs M Γ p t fs s e s'):s.toks<=s'.toks:=by
 induction h with
 | done=>exact Nat.le_refl _
 | raise=>exact Nat.le_refl _
 | yield=>exact Nat.le_refl _
 | fresh _ ih=>exact le_trans (Nat.le_succ _) ih
 | call _ _ i1 i2=>exact le_trans i1 i2
 | resumeFresh _ _ _ _ i1 i2=>exact le_trans i1 i2
 | resumeSuspended _ _ _ _ i1 i2=>exact le_trans i1 i2
 | segRet _ _ i1 i2=>exact le_trans i1 i2
 | segGen _ _ i1 i2=>exact le_trans i1 i2
 | segSuspGen _ _ _ _ i1 i2=>exact le_trans i1 i2
 | _=>assumption
theorem zHH {α:Type} {Γ:PySem.Ctx} (n:Nat) : ∀ (t:Sem α) (Q:α->Pos->Shared->Prop) (E:Value->Pos->Shared->Prop) (p:Pos) (s:Shared),n<=s.toks->Sem.wp M Γ t Q E p s->Sem.wp M Γ t (fun a p' s'=>Q a p' s'/\n<=s'.toks) (fun e p' s'=>E e p' s'/\n<=s'.toks) p s:=by
 intro t
 induction t with
 | pure a=>intro Q E p s l h;rw [Sem.wp] at h ⊢;exact ⟨h,l⟩
 | raise e=>intro Q E p s l h;rw [Sem.wp] at h ⊢;exact ⟨h,l⟩
 | unsupported w=>intro Q E p s l h;rw [Sem.wp] at h;exact h.elim
 | finish e=>intro Q E p s l h;rw [Sem.wp] at h;exact h.elim
 | rule tag k ih=>intro Q E p s l h;rw [Sem.wp] at h ⊢;exact ih _ _ _ _ _ l h
 | «at» pos k ih=>intro Q E p s l h;rw [Sem.wp] at h ⊢;exact ih _ _ _ _ _ l h
 | load a part k ih=>intro Q E p s l h;rw [Sem.wp] at h ⊢;obtain ⟨o,e,h⟩:=h;exact ⟨o,e,ih _ _ _ _ _ l h⟩
 | update a part f k ih=>intro Q E p s l h;rw [Sem.wp] at h ⊢;exact ⟨h.1,ih _ _ _ _ _ l h.2⟩
 | alloc o k ih=>intro Q E p s l h;rw [Sem.wp] at h ⊢;exact ih _ _ _ _ _ l h
 | loadIfAlive a k ih=>intro Q E p s l h;rw [Sem.wp] at h ⊢;exact ih _ _ _ _ _ l h
 | point live k ih=>intro Q E p s l h;rw [Sem.wp] at h ⊢;exact ih _ _ _ _ _ l h
 | register a k ih=>intro Q E p s l h;rw [Sem.wp] at h;exact h.elim
 | fresh k ih=>intro Q E p s l h;rw [Sem.wp] at h ⊢;exact ih _ _ _ _ _ (Nat.le_succ_of_le l) h
 | ask k ih=>intro Q E p s l h;rw [Sem.wp] at h ⊢;exact ih _ _ _ _ _ l h
 | choose src m k ih=>intro Q E p s l h;rw [Sem.wp] at h ⊢;exact ⟨h.1,ih _ _ _ _ _ l h.2⟩
 | os req live k ih=>intro Q E p s l h;rw [Sem.wp] at h ⊢;exact ih _ _ _ _ _ l h
 | call c hd g live k ih=>intro Q E p s l h;rw [Sem.wp] at h ⊢;obtain ⟨r,s1,hr,h⟩:=h;exact ⟨r,s1,hr,ih _ _ _ _ _ (le_trans l (J9 hr)) h⟩
 | handled own k ih=>intro Q E p s l h;rw [Sem.wp] at h ⊢;exact ih _ _ _ _ _ l h
 | newGen c k ih=>intro Q E p s l h;rw [Sem.wp] at h ⊢;exact ih _ _ _ _ _ l h
 | genState g k ih=>intro Q E p s l h;rw [Sem.wp] at h ⊢;obtain ⟨st,e,h⟩:=h;exact ⟨st,e,ih _ _ _ _ _ l h⟩
 | resume g r live k ih =>
  intro Q E p s l h;rw [Sem.wp] at h ⊢
  obtain ⟨res,s1,hw,h⟩:=h
  refine ⟨res,s1,hw,ih _ _ _ _ _ (le_trans l ?_) h⟩
  unfold Wakes at hw
  split at hw
  ·exact hw.elim
  ·split at hw
   ·obtain ⟨e1,s2,hr,_,_,rfl⟩:=hw;exact (show s.toks<=s2.toks from J9 (s:=s.setGen g .running) hr)
   ·rw [hw.2];exact Nat.le_refl _
   ·rw [hw.2];exact Nat.le_refl _
  ·obtain ⟨e1,s2,hr,_,_,rfl⟩:=hw;exact (show s.toks<=s2.toks from J9 (s:=s.setGen g .running) hr)
  ·rw [hw.2];exact Nat.le_refl _
  ·rw [hw.2];exact Nat.le_refl _
 | yield v g live k ih=>intro Q E p s l h;rw [Sem.wp] at h;exact h.elim
 | stack k ih=>intro Q E p s l h;rw [Sem.wp] at h ⊢;exact ih _ _ _ _ _ l h
 | fork c k ih=>intro Q E p s l h;rw [Sem.wp] at h;exact h.elim
 | thread k ih=>intro Q E p s l h;rw [Sem.wp] at h ⊢;exact ih _ _ _ _ _ l h
 | await a take timed live k ih=>intro Q E p s l h;rw [Sem.wp] at h;exact h.elim
theorem WJ {α:Type} {t:Sem α} {Q:α->Shared->Prop} {E:Value->Shared->Prop} {s:Shared} (h:wpAny M A t Q E s):wpAny M A t (fun a s'=>Q a s'/\s.toks<=s'.toks) (fun e s'=>E e s'/\s.toks<=s'.toks) s:=
 fun Γ p hΓ=>zHH s.toks t _ _ p s (Nat.le_refl _) (h Γ p hΓ)
section
variable {X : Cx} {CX : CXT} {k : Nat} {f : Addr} {fd : FuncData} {ps : List Str} {sp : Sp} {dvs : List V} {ds : List Value} {E : XK} {x : Str} {p pos : Pos} {e a : Expr} {es : List Expr} {te ta : TE} {t : TA}
def PEp (X:Cx) (e:Expr) (t:TE):Prop:=
 ∀ (pins:List (Addr × Obj)) (s:Shared) (σ:St) (H:Hp) (Q:VK),Inv X pins σ H s->t σ H Q->wpAny (model X.prog X.w) X.A (eval e X.env) (fun v s'=>EP X pins σ Q v s'/\0 < s'.toks) X.xe s
def PAp (X:Cx) (es:List Expr) (t:TA):Prop:=
 ∀ (pos:Pos) (pins:List (Addr × Obj)) (s:Shared) (σ:St) (H:Hp) (Q:List V->Hp->Prop),Inv X pins σ H s->t σ H Q->wpAny (model X.prog X.w) X.A (spliced (backTo pos (starEach es X.env))) (fun us s'=>AP X pins σ Q us s'/\0 < s'.toks) X.xe s
theorem zIn {op:Operator} {r:R2} {n:Int} {j:Nat} {p2:Pos} (ho:OpR X (binaryOp op) r) (ha:PE X a ta):PEp X (.BinOp a op (.Constant (.int n) j p2) pos) (tOp r ta (tC (.int n))):=by
 intro pins s σ H Q I h
 refine wpAny_BinOp (thn (ha pins s σ H _ I h) fun v s1 zq=>?_)
 obtain ⟨y,H1,I1,r1,q1⟩:=zq
 refine wpAny_Constant_int ?_
 have w:=WJ (ho pins { s1 with toks:=s1.toks+1 } σ H1 y (.int n) v (.int n s1.toks) Q (I1.tok _) r1 ⟨_,rfl⟩ q1)
 exact wpAny_mono w (fun u s2 ⟨g,l⟩=>⟨g,lt_of_lt_of_le (Nat.succ_pos _) (show s1.toks+1<=s2.toks from l)⟩) fun _ s2 g=>g.1
theorem zHQ (ha:PEp X e te) (hs:starEach [e] X.env=[(false,eval e X.env)]:=by rfl):PAp X [e] (zBS te zAr):=by
 intro pos pins s σ H Q I h
 rw [hs]
 show wpAny _ _ (spliced ((false,eval e X.env)::backTo pos [])) _ _ s
 refine Calls.spliced_cons (thn (ha pins s σ H _ I h) fun u s1 ⟨⟨y,H1,I1,r1,q1⟩,l⟩=>?_)
 exact Calls.spliced_nil ⟨⟨[y],H1,I1,.cons r1 .nil,q1⟩,l⟩
theorem zDD (ha:PE X e te) (hr:PAp X es t) (hs:starEach (e::es) X.env=(false,eval e X.env)::starEach es X.env:=by rfl):PAp X (e::es) (zBS te t):=by
 intro pos pins s σ H Q I h
 rw [hs]
 show wpAny _ _ (spliced ((false,eval e X.env)::backTo pos (starEach es X.env))) _ _ s
 refine Calls.spliced_cons (thn (ha pins s σ H _ I h) fun u s1 zq=>?_)
 obtain ⟨y,H1,I1,r1,q1⟩:=zq
 exact thn (hr pos pins s1 σ H1 _ I1 q1) fun us s2 ⟨⟨ys,H2,I2,r2,q2⟩,l⟩=>⟨⟨y::ys,H2,I2,.cons r1 r2,q2⟩,l⟩
structure Yz (P:Program) (w:World) (K:W.Frag) (mg:Str->Option Value) (base:Heap) (CX:CXT) (k:Nat) (f:Addr) (fd:FuncData) (ps:List Str) (sp:Sp):Prop where
 len : ∀ vs H Q E,sp vs H Q E->vs.length=ps.length
 run : ∀ (A:Around) (outer:List Env) (s:Shared) (H:Hp) (args:Args) (us:List Value) (vs:List V) (Q:VK) (E:XK),0 < s.toks->j5 k A->V0 P w K mg base A outer s H->BindsTo s fd args (ps.zip us)->qM vs us->sp vs H Q E ->
  codeAny (model P w) A (.call (.ref f) args) (CR CX outer P w H s Q E) s
theorem zHS {pins:List (Addr × Obj)} {s:Shared} {us:List Value} {vs:List V} (F:Yz X.prog X.w X.K X.mg X.base CX k f fd ps sp) (hr:j5 k X.A) (hb:jx X.K fd ps ds) (hd:qM dvs ds) (hx:jW CX X E)
  (I:Inv X pins σ H s) (ht:0 < s.toks) (r:qM vs us) (h:sp (vs++dvs) H Q E):wpAny (model X.prog X.w) X.A (call (.ref f) us) (EP X pins σ Q) X.xe s:=by
 have r2:qM (vs++dvs) (us++ds):=r.append hd
 have hl:(us++ds).length=ps.length:=by rw [<- r2.length];exact F.len _ _ _ _ h
 refine wpAny_call (codeAny_mono (F.run X.A X.stack s H ⟨us,[]⟩ (us++ds) (vs++dvs) Q E ht hr I.env0 (hb s us I.kIn hl) r2 h) fun r s' hq=>?_)
 cases r with
 | error e=>exact hx pins σ H s e s' I hq
 | ok fl =>
  cases fl with
  | ret u=>exact I.after hq
  | next=>exact False.elim hq
  | brk=>exact False.elim hq
  | cont=>exact False.elim hq
theorem zDS (F:Yz X.prog X.w X.K X.mg X.base CX k f fd ps sp) (hr:j5 k X.A) (hg:Gl X x) (hm:X.mg x=some (.ref f)) (hk:W.keepIn X.K (.ref f)=true) (hb:jx X.K fd ps ds) (hd:qM dvs ds) (hx:jW CX X E)
  (ha:PAp X (e::es) t) (hdb:(x == ("__debug__" : Str))=false:=by decide) (he:starEach (e::es) X.env=(false,eval e X.env)::starEach es X.env:=by rfl) (hpl:(backTo pos (starEach es X.env)).any (·.1)=false:=by rfl) :
  PE X (.Call (.Name x p) (e::es) [] pos) (Ye sp dvs E t):=by
 intro pins s σ H Q I h
 refine wpAny_Call_Name_kw (jr I hg hm ?_ hdb)
 refine W.callWith_K (h₀:=X.base) I.ok.mod.kin hk (thn (ha pos pins s σ H _ I h) fun us s1 ⟨⟨vs,H1,I1,r,q⟩,l⟩=>⟨I1.kIn,?_⟩) he hpl
 exact zHS F hr hb hd hx I1 l r q
end
theorem Kt {α:Type} {t:Sem α} {Q:α->Shared->Prop} {E:Value->Shared->Prop} {s:Shared} (h:wpAny M A t (fun a s'=>s.toks<=s'.toks->Q a s') E s):wpAny M A t Q E s:=wpAny_mono (WJ h) (fun _ _ z=>z.1 z.2) fun _ _ z=>z.1
def zHU (X:Cx) (st:List Stmt) (t:TS):Prop:=
 ∀ (pins:List (Addr × Obj)) (s:Shared) (σ:St) (H:Hp) (D:Z9),0 < s.toks->Inv X pins σ H s->t D σ H->wpAny (model X.prog X.w) X.A (execs st X.env) (SP X pins D) X.xe s
variable {P:Program} {mg:Str->Option Value} {f:Addr} {name qual:Str} {scope:Scope} {N:List Str}
theorem zHv {CX:CXT} {params:Arguments} {body:List Stmt} {dV kV doc pm cdv ct:Value} {an:Option Addr}
  (lk:K.lookup f=some ⟨oc,od,.func (W.fnOf name qual params body scope dV kV doc pm an cdv ct),osl⟩) (hcd:W.codeIn K cdv qual=true) (S:zN N ps scope)
  (len : ∀ vs H Q E,sp vs H Q E->vs.length=ps.length)
  (hbody : ∀ (A:Around) (outer:List Env) (s:Shared) (H:Hp) (vs:List V) (Q:VK) (E:XK),j5 k (A.deeper (envOfC qual scope s.heap.objs.size f cdv))->sp vs H Q E ->
   ∃ t,zHU (QX CX P w K mg base N qual scope f cdv A outer s H E) body t/\t { nx:=fun _ H'=>Q .non H',rt:=Q } (start N vs) H) :
  Yz P w K mg base CX (k+1) f (W.fnOf name qual params body scope dV kV doc pm an cdv ct) ps sp:=by
 refine ⟨len,fun A outer s H args us vs Q E tk0 hr e0 hb r hsp=>?_⟩
 have hl:=len _ _ _ _ hsp
 have KX:K.In s.heap:=e0.mod.kin.keeps fun b o e=>(e0.bs b o e).1
 have lim:s.heap.NoLimit:=e0.mod.nolimit.keeps fun b o e=>(e0.bs b o e).1
 have hkind : ∀ y ∈ ps.zip us,scope.names.lookup y.1=some .local\/(scope.names.lookup y.1=some .cell/\((cellsFrom (s.heap.objs.size+1) scope.names []).lookup y.1).isSome=true):=fun ⟨n,v⟩ hy=>by
  rcases S.par n (List.of_mem_zip hy).1 with q | q
  ·exact .inl q
  ·exact .inr ⟨q,W.cellsFrom_some _ _ _ (.inl q)⟩
 refine codeAny_call_function hr.depth (KX _ _ lk) rfl S.co S.gen rfl (W.codeRec_of KX hcd) (hb _ _ _ _ ?_)
 refine Kt (wpAny_newFunctionEnv_cells S.kind hkind fun env he s1 x le=>?_)
 subst he
 refine ⟨lim.keeps x.toInCall.keep,codeAny_func ?_⟩
 obtain ⟨t,ht,hq⟩:=hbody A outer s H vs Q E (hr.deeper _) hsp
 have I:Inv (QX CX P w K mg base N qual scope f cdv A outer s H E) [] (start N vs) H s1:=J5 S hr.hd e0 hl r x
 refine wpAny_mono (ht [] s1 (start N vs) H _ (lt_of_lt_of_le tk0 le) I hq) (fun fl s' hs=>?_) fun e s' hs=>hs
 have fin : ∀ {σ':St} {H':Hp} {v:V} {u:Value},Inv (QX CX P w K mg base N qual scope f cdv A outer s H E) [] σ' H' s'->jz v u->Q v H'->CE outer P w H s Q u s':=
  fun {σ' H' v u} J rv q=>⟨v,H',J.os,J.bare,J.base,J.hok,rv,q⟩
 cases fl with
 | ret u =>
  obtain ⟨v,σ',H',J,rv,q⟩:=hs
  exact fin J rv q
 | next =>
  obtain ⟨σ',H',J,q⟩:=hs
  exact fin (v:=V.non) (u:=Value.none) J rfl q
 | brk =>
  obtain ⟨_,_,_,q⟩:=hs
  exact False.elim q
 | cont =>
  obtain ⟨_,_,_,q⟩:=hs
  exact False.elim q
section
variable {X : Cx} {e o : Expr} {te to : TE} {pos p1 p2 apos cpos : Pos} {st : Stmt} {yp : List Stmt} {t u : TS}
def PEq (X:Cx) (e:Expr) (t:TE):Prop:=
 ∀ (pins:List (Addr × Obj)) (s:Shared) (σ:St) (H:Hp) (Q:VK),0 < s.toks->Inv X pins σ H s->t σ H Q->wpAny (model X.prog X.w) X.A (eval e X.env) (EP X pins σ Q) X.xe s
def PSq (X:Cx) (st:Stmt) (t:TS):Prop:=
 ∀ (pins:List (Addr × Obj)) (s:Shared) (σ:St) (H:Hp) (D:Z9),0 < s.toks->Inv X pins σ H s->t D σ H->wpAny (model X.prog X.w) X.A (exec st X.env) (SP X pins D) X.xe s
theorem zCE (h1:PSq X st t) (h2:PSs X yp u):zHU X (st::yp) (zJJ t u):=by
 intro pins s σ H D l I h
 refine wpAny_execs_cons (thn (h1 pins s σ H { D with nx:=u D } l I h) fun f s1 q=>?_)
 cases f with
 | next =>
  obtain ⟨σ',H',I',q⟩:=q
  exact h2 pins s1 σ' H' D I' q
 | ret v=>exact q
 | brk=>exact q
 | cont=>exact q
theorem zFl {i:Nat} {pos':Pos} (hN:X.N.Nodup) (hi:X.N[i]? = some x) (hx:Loc X.env.scope x) (he:PEq X e te) (hs:swapsWith e (some (.Name x pos')) pos.line X.env=pure false:=by rfl) (hf:X.fn x=true\/X.env.scope.names.lookup x=some .local:=by first | exact Or.inl rfl | exact Or.inr rfl) :
  PSq X (.Assign [.Name x pos'] e pos) (zIw te (zBZ i)):=by
 intro pins s σ H D l I h
 refine wpAny_Assign_Name (thn (he pins s σ H _ l I h) fun v s1 zq=>?_) hs
 obtain ⟨y,H1,I1,r1,q1⟩:=zq
 exact YY I1 hN hi hx r1 (fun s2 I2=>⟨_,H1,I2,q1⟩) hf
def wo (c:Nat) (a:List Nat):List Nat:=a.filter (· != c)
def zMO (c:Nat) (to:TE):TE:=fun σ H Q=>to σ H fun x H1=>∃ a,x = .str (T a)/\a.length<=1000/\Q (.str (T (wo c a))) H1
theorem zKp {y z:Str} (hy:y=⟨#[c]⟩) (hz:z=⟨#[]⟩):Txt.replace (T a) y z=T (wo c a):=by
 subst hy hz
 have h:=replace_strikes (T a) c
 generalize Txt.replace (T a) ⟨#[c]⟩ ⟨#[]⟩=r at h
 obtain ⟨⟨l⟩⟩:=r
 exact congrArg (fun l=>(⟨⟨l⟩⟩:Str)) h
theorem zF8 {y z:Str} {j1 j2:Nat} (hy:y=⟨#[c]⟩) (hz:z=⟨#[]⟩) (ho:PE X o to)
  (hbase:attributeBase o "replace" X.env (eval o X.env)=eval o X.env:=by rfl)
  (hfew:((backTo cpos (starEach [.Constant (.str y) j1 p1,.Constant (.str z) j2 p2] X.env)).all (fun x=>!x.1) && (backToKw cpos (keywordEach [] X.env)).all (fun x=>x.1.isSome)
   && decide ([Expr.Constant (.str y) j1 p1,.Constant (.str z) j2 p2].length+([]:List Keyword).length+(if ([]:List Keyword).isEmpty then 0 else 1) < 30))=true:=by rfl)
  (hline:(apos.endLine == cpos.line)=true:=by rfl) :
  PEq X (.Call (.Attribute o "replace" apos) [.Constant (.str y) j1 p1,.Constant (.str z) j2 p2] [] cpos) (zMO c to):=by
 intro pins s σ H Q l I h
 refine wpAny_Call_method_late hbase hfew hline rfl (Kt (thn (ho pins s σ H _ I h) fun v s1 ⟨x,H1,I1,r1,a,ex,la,q1⟩ le=>?_))
 subst ex
 obtain ⟨tk,rfl⟩:=r1
 refine ⟨"str", "str.replace", PySem.F.plainAttrs_str,PySem.F.slot_str_replace,PySem.F.type_str_replace,typeIs_str _ _ _,(fun _ z=>nomatch z),?_⟩
 refine Calls.callWith_builtin rfl (Calls.evalArgs_plain ?_)
 refine (show wpAny _ _ (spliced ((false,eval (.Constant (.str y) j1 p1) X.env)::(false,eval (.Constant (.str z) j2 p2) X.env)::[])) _ _ s1 from Calls.spliced_cons (Calls.Constant_str (Calls.spliced_cons (Calls.Constant_str (Calls.spliced_nil ?_)))))
 have lt:0 < s1.toks:=lt_of_lt_of_le l le
 refine SC.replace (Nat.ne_of_gt lt) (Nat.succ_ne_zero _) (ne_of_lt (Nat.lt_succ_self _)) (by subst hy hz;exact beq_eq_false_iff_ne.mpr fun e=>absurd (congrArg (fun s:Str=>s.cps.size) e) (fun z=>Nat.noConfusion (show (1:Nat)=0 from z))) (by subst hz;show a.length+(a.length+1)*0<=16777216;omega) fun t' k=>?_
 rw [zKp hy hz]
 exact ⟨.str (T (wo c a)),H1,I1.tok _,⟨_,rfl⟩,q1⟩
end
theorem zHU.nox {st:List Stmt} {t:TS} (h:zHU X.nox st t):zHU X st t:=fun pins s σ H D l I hw =>
 wpAny_mono (h pins s σ H D l (I.wish _) hw) (fun _ _ q=>q.unwish) fun _ _ z=>False.elim z
variable {st:Stmt}
theorem Fun.okp (F:Fun K x qual st f fd) (S:zN N ps (zG st)) (len : ∀ vs H Q E,sp vs H Q E->vs.length=ps.length)
  (hbody : ∀ (cdv:Value) (A:Around) (outer:List Env) (s:Shared) (H:Hp) (vs:List V) (Q:VK) (E:XK),j5 k (A.deeper (envOfC qual (zG st) s.heap.objs.size f cdv))->sp vs H Q E ->
   ∃ t,zHU (QX CX0 P w K mg base N qual (zG st) f cdv A outer s H E).nox (z6 st) t/\t { nx:=fun _ H'=>Q .non H',rt:=Q } (start N vs) H):Yz P w K mg base CX0 (k+1) f fd ps sp:=by
 obtain ⟨oc,od,kV,doc,pm,an,cdv,ct,osl,rfl,lk,hcd⟩:=F.ex
 refine zHv lk hcd S len fun A outer s H vs Q E hr hsp=>?_
 obtain ⟨t,h,q⟩:=hbody cdv A outer s H vs Q E hr hsp
 exact ⟨t,h.nox,q⟩
def zKd (P:Program) (w:World) (K:W.Frag) (mg:Str->Option Value) (base:Heap) (x:Str) (k:Nat) (ps:List Str) (sp:Sp):Prop:=
 ∃ (f:Addr) (fd:FuncData),Yz P w K mg base CX0 k f fd ps sp/\mg x=some (.ref f)/\W.keepIn K (.ref f)=true/\jx K fd ps []
theorem Yz.mono {CX:CXT} {j:Nat} (F:Yz P w K mg base CX j f fd ps sp) (h:j<=k) :
  Yz P w K mg base CX k f fd ps sp:=⟨F.len,fun A outer s H args us vs Q E l hr=>F.run A outer s H args us vs Q E l (hr.mono h)⟩
variable {t:TA}
theorem zBf {e:Expr} {es:List Expr} (F:zKd X.prog X.w X.K X.mg X.base x k ps sp) (hr:j5 n X.A) (hg:Gl X x) (ha:PAp X (e::es) t) (hk:k<=n:=by decide)
  (hdb:(x == ("__debug__" : Str))=false:=by decide) (he:starEach (e::es) X.env=(false,eval e X.env)::starEach es X.env:=by rfl) (hpl:(backTo pos (starEach es X.env)).any (·.1)=false:=by rfl) :
  PE X (.Call (.Name x p) (e::es) [] pos) (Ye sp [] E0 t):=by
 obtain ⟨f,fd,G,hm,kp,hb⟩:=F
 exact zDS G (hr.mono hk) hg hm kp hb .nil xA ha hdb he hpl
def Df (K:W.Frag) (x:Str) (st:Stmt) (f:Addr):Prop:=∃ (oc:Value) (od:Option Addr) (kV dc pm:Value) (an:Option Addr) (cd ct:Value) (sl:Array (Option Value)),W.nsIn K mainGlobals x=some (some (.ref f)) /\
 K.lookup f=some ⟨oc,od,.func (W.fnOf x x (qP st) (z6 st) (zG st) .none kV dc pm an cd ct),sl⟩/\W.codeIn K cd x=true/\W.keepIn K (.ref f)=true
def Dm (K:W.Frag) (q m:Str) (st:Stmt) (dV:Value) (C f:Addr):Prop:=∃ (oc:Value) (od:Option Addr) (kV dc pm:Value) (an:Option Addr) (cd ct:Value) (sl:Array (Option Value)),W.findIn K (.ref C) m=some (some (.ref f)) /\
 K.lookup f=some ⟨oc,od,.func (W.fnOf m q (qP st) (z6 st) (zG st) dV kV dc pm an cd ct),sl⟩/\W.codeIn K cd q=true/\W.keepIn K (.ref f)=true/\W.isFn K (.ref f)=true
section
variable {K : W.Frag} {x q m : Str} {st : Stmt} {f C t : Addr} {oc dV : Value} {od : Option Addr} {kV dc pm : Value} {an : Option Addr} {cd ct : Value} {sl : Array (Option Value)}
theorem zKL (a:W.nsIn K mainGlobals x=some (some (.ref f))) (l:K.lookup f=some ⟨oc,od,.func (W.fnOf x x (qP st) (z6 st) (zG st) .none kV dc pm an cd ct),sl⟩) (c:W.codeIn K cd x=true) (k:W.keepIn K (.ref f)=true):Df K x st f:=⟨oc,od,kV,dc,pm,an,cd,ct,sl,a,l,c,k⟩
theorem zG9 (a:W.findIn K (.ref C) m=some (some (.ref f))) (l:K.lookup f=some ⟨oc,od,.func (W.fnOf m q (qP st) (z6 st) (zG st) dV kV dc pm an cd ct),sl⟩) (c:W.codeIn K cd q=true) (k:W.keepIn K (.ref f)=true) (n:W.isFn K (.ref f)=true):Dm K q m st dV C f:=⟨oc,od,kV,dc,pm,an,cd,ct,sl,a,l,c,k,n⟩
variable {h : Heap} {mg : Str -> Option Value} {P : Program} {w : World} {base : Heap} {k : Nat} {ps : List Str} {sp : Sp} {CX : CXT}
def Gd (P:Program) (w:World) (K:W.Frag) (mg:Str->Option Value) (base:Heap) (CX:CXT) (f:Addr) (k:Nat) (ps:List Str) (sp:Sp):Prop:=∃ fd,xx P w K mg base CX k f fd ps sp/\W.keepIn K (.ref f)=true/\W.isFn K (.ref f)=true/\jx K fd ps []
theorem zH5 (d:Dm K q m st .none C f) (ok : ∀ fd,KJ K m q st f fd->xx P w K mg base CX k f fd ps sp)
  (hb : ∀ (kV dc pm:Value) (an:Option Addr) (cd ct:Value) (us:List Value),us.length=ps.length->bindArgs (W.fnOf m q (qP st) (z6 st) (zG st) .none kV dc pm an cd ct) ⟨us,[]⟩=pure (ps.zip us)):Gd P w K mg base CX f k ps sp:=by
 obtain ⟨_,_,_,_,_,_,_,_,_,a,l,c,k',n⟩:=d
 exact ⟨_,ok _ (zBT l c k'),k',n,.all (hb _ _ _ _ _ _)⟩
theorem zIo {oc':Value} {od':Option Addr} {n':Nat} (d:Dm K q m st (.ref t) C f) (hl:K.lookup t=some ⟨oc',od',.seq it n',osl⟩) (ok : ∀ fd,KJ K m q st f fd->xx P w K mg base CX k f fd ps sp)
  (hb : ∀ (kV dc pm:Value) (an:Option Addr) (cd ct:Value) (us:List Value),us.length=ps.length -> ∃ k,bindArgs (W.fnOf m q (qP st) (z6 st) (zG st) (.ref t) kV dc pm an cd ct) ⟨us,[]⟩=seqItems? (.ref t) >>= k/\k (some it)=pure (ps.zip us)):Gd P w K mg base CX f k ps sp:=by
 obtain ⟨_,_,_,_,_,_,_,_,_,a,l,c,k',n⟩:=d
 exact ⟨_,ok _ (zBT l c k'),k',n,zAA hl rfl (hb _ _ _ _ _ _)⟩
theorem zL1 (g:Gd P w K mg base CX f k ps sp) (a:W.findIn K (.ref C) m=some (some (.ref f))):zKF P w K mg base CX C m k ps sp:=let ⟨fd,o,kp,fn,b⟩:=g;⟨f,fd,o,⟨a,fn,kp⟩,b⟩
theorem zL0 (g:Gd P w K mg base CX f k ps sp) (i1:W.makesIn K C=true) (i2:W.findIn K (.ref C) "__init__" = some (some (.ref f))) (i4:W.keepIn K (.ref C)=true):zKV P w K mg base CX C k ps sp:=let ⟨fd,o,kp,fn,b⟩:=g;⟨f,fd,o,⟨i1,i2,fn,i4⟩,b⟩
theorem zMR (g:Gd P w K mg base CX f k ps sp) (c1:W.specialIn K (.ref C) "__getattribute__" = some (some (.builtin "type.__getattribute__"))) (c2:W.readsIn K C (.type "type")=true) (c3:W.findCls K (.ref C) (.type "type") m=some (.val (.ref f))):zKC P w K mg base CX C m k ps sp:=let ⟨fd,o,kp,fn,b⟩:=g;⟨f,fd,o,⟨c1,c2,c3,kp⟩,b⟩
end
section
variable {K : W.Frag} {σ : St} {H : Hp} {Q : VK} {is : List Nat} {tt : TT} {te : TE}
theorem zAg {a:Addr} {xs:List V} (hx:SqL K H a xs) (hz:xs.length<=sizeLine) (Pv:Nat->List V->Hp->Prop) (h0:Pv 0 [] H) (hl : ∀ i ys H,i<=xs.length->Pv i ys H->SqL K H a xs/\ys.length<=i)
  (hs : ∀ i x ys H,xs[i]? = some x->i < xs.length->Pv i ys H->tt (some x::is.map fun j=>(σ[j]?).getD none) H fun ok H2=>if ok=true then te (some x::is.map fun j=>(σ[j]?).getD none) H2 fun y H3=>NxC xs.length Pv i (ys++[y]) H3 else NxC xs.length Pv i ys H2)
  (hd : ∀ ys H,Pv xs.length ys H -> ∀ p H',zc H H'->H p=none->H' p=some (.lst ys)->Q (.ref p) H'):zB7 K is tt te σ Q (.ref a) H:=by
 refine ⟨a,rfl,⟨xs,hx⟩,fun i m ys H=>m=xs.length - i/\i<=xs.length/\Pv i ys H,⟨xs.length,by simp,Nat.zero_le _,h0⟩,?_⟩
 rintro i m ys H ⟨rfl,hi,p⟩
 obtain ⟨q,ly⟩:=hl i ys H hi p
 refine ⟨by omega,?_⟩
 by_cases hlt:i < xs.length
 ·refine .inr ⟨⟨xs,xs[i],q,by simp [hlt]⟩,by omega,fun x H' y=>?_⟩
  obtain ⟨e,y⟩:=y
  subst e
  exact hs i x ys _ (y xs q) hlt p
 ·have e:i=xs.length:=by omega
  subst e
  exact .inl ⟨⟨xs,q,Nat.le_refl _⟩,fun p' hp=>hd ys H p p' _ (jB hp _) hp zK⟩
end
set_option maxHeartbeats 400000
set_option maxHeartbeats 4000000
set_option maxHeartbeats 1000000
theorem C2.keep {h':Heap} {x:Addr} (c:C2 h x) (k : ∀ o,h.get? x=some o->h'.get? x=some o):C2 h' x:=let ⟨o,vs,a,r⟩:=c;⟨o,vs,k o a,r⟩
structure JJ (k:Nat) (y:Addr) (A:Around):Prop where
 hd:A.handled=some (.ref y)
 dp:A.depth+3*k+5 < recursionLimit
 un:A.units+16*k+200 < cLine
variable {y:Addr}
theorem JJ.mono {j:Nat} (r:JJ k y A) (h:j<=k):JJ j y A:=⟨r.hd,by have:=r.dp;omega,by have:=r.un;omega⟩
theorem JJ.deeper (r:JJ (k+1) y A) (env:Env):JJ k y (A.deeper env):=
 ⟨r.hd,by have:=r.dp;show A.depth+1+3*k+5 < _;omega,by have:=r.un;show A.units+3+16*k+200 < _;omega⟩
theorem JJ.depth (r:JJ k y A):A.depth < recursionLimit:=by have:=r.dp;omega
theorem j5.marked (r:j5 k A) (y:Addr):JJ k y (A.mark (some (.ref y))):=⟨rfl,r.dp,r.un⟩
abbrev SpY:=Addr->List V->Hp->VK->Prop
structure zDg (P:Program) (w:World) (K:W.Frag) (mg:Str->Option Value) (base:Heap) (k:Nat) (f:Addr) (fd:FuncData) (ps:List Str) (sp:SpY):Prop where
 len : ∀ y vs H Q,sp y vs H Q->vs.length=ps.length
 run : ∀ (A:Around) (outer:List Env) (s:Shared) (H:Hp) (args:Args) (us:List Value) (vs:List V) (Q:VK) (y:Addr),JJ k y A->V0 P w K mg base A outer s H->BindsTo s fd args (ps.zip us)->qM vs us->sp y vs H Q ->
  codeAny (model P w) A (.call (.ref f) args) (CR CX0 outer P w H s Q E0) s
section
variable {P : Program} {w : World} {K : W.Frag} {mg : Str -> Option Value} {base : Heap}
def cxY (P:Program) (w:World) (K:W.Frag) (mg:Str->Option Value) (base:Heap) (N:List Str) (qual:Str) (scope:Scope) (f:Addr) (cd:Value) (A:Around) (outer:List Env) (s:Shared) (H:Hp):Cx:=
 { QX CX0 P w K mg base N qual scope f cd A outer s H E0 with calm:=false }
theorem zAN {cd:Value} {outer:List Env} {s s1:Shared} {us:List Value} {vs:List V}
  (S:zN N ps scope) (e0:V0 P w K mg base A outer s H) (hl:vs.length=ps.length) (r:qM vs us)
  (x:InCallC s s.heap.objs.size (bindL (envOfC qual scope s.heap.objs.size f cd).kindOf (ps.zip us) fun _=>none) (cellsFrom (s.heap.objs.size+1) scope.names []) (bindC (envOfC qual scope s.heap.objs.size f cd).kindOf (ps.zip us) fun _=>none) s1) :
  Inv (cxY P w K mg base N qual scope f cd A outer s H) [] (start N vs) H s1:=by
 have A':({ A with handled:=none }:Around).frames=some outer:=e0.frames
 have I:=J5 (CX:=CX0) (qual:=qual) (f:=f) (cd:=cd) (A:={ A with handled:=none }) (E:=E0) S rfl (⟨A',e0.mod,e0.bs,e0.bsz,e0.funs,e0.frf,e0.hok,e0.bare⟩:V0 P w K mg base { A with handled:=none } outer s H) hl r x
 exact ⟨⟨I.ok.mod,I.ok.kind,I.ok.glob,I.ok.blt,I.ok.above,I.ok.inj,I.ok.has,I.ok.cab,(fun z=>nomatch z),Around.frames_deeper e0.frames,I.ok.stk,I.ok.exf,I.ok.bs,I.ok.bsz,I.ok.noex,I.ok.exfs,I.ok.funs,I.ok.frf⟩,I.os,I.bare,I.base,I.loc,I.cell,I.free,I.freeC,I.pin,I.hok,I.len⟩
theorem zJH {params:Arguments} {body:List Stmt} {dV kV doc pm cdv ct:Value} {an:Option Addr}
  {sp:SpY} (lk:K.lookup f=some ⟨oc,od,.func (W.fnOf name qual params body scope dV kV doc pm an cdv ct),osl⟩) (hcd:W.codeIn K cdv qual=true) (S:zN N ps scope)
  (len : ∀ y vs H Q,sp y vs H Q->vs.length=ps.length)
  (hbody : ∀ (A:Around) (outer:List Env) (s:Shared) (H:Hp) (vs:List V) (Q:VK) (y:Addr),JJ k y (A.deeper (envOfC qual scope s.heap.objs.size f cdv))->sp y vs H Q ->
   ∃ t,PSs (cxY P w K mg base N qual scope f cdv A outer s H) body t/\t { nx:=fun _ H'=>Q .non H',rt:=Q } (start N vs) H) :
  zDg P w K mg base (k+1) f (W.fnOf name qual params body scope dV kV doc pm an cdv ct) ps sp:=by
 refine ⟨len,fun A outer s H args us vs Q y hr e0 hb r hsp=>?_⟩
 have hl:=len _ _ _ _ hsp
 have KX:K.In s.heap:=e0.mod.kin.keeps fun b o e=>(e0.bs b o e).1
 have lim:s.heap.NoLimit:=e0.mod.nolimit.keeps fun b o e=>(e0.bs b o e).1
 have hkind : ∀ z ∈ ps.zip us,scope.names.lookup z.1=some .local\/(scope.names.lookup z.1=some .cell/\((cellsFrom (s.heap.objs.size+1) scope.names []).lookup z.1).isSome=true):=fun ⟨n,v⟩ hy=>by
  rcases S.par n (List.of_mem_zip hy).1 with q | q
  ·exact .inl q
  ·exact .inr ⟨q,W.cellsFrom_some _ _ _ (.inl q)⟩
 refine codeAny_call_function hr.depth (KX _ _ lk) rfl S.co S.gen rfl (W.codeRec_of KX hcd) (hb _ _ _ _ ?_)
 refine wpAny_newFunctionEnv_cells S.kind hkind fun env he s1 x=>?_
 subst he
 refine ⟨lim.keeps x.toInCall.keep,codeAny_func ?_⟩
 obtain ⟨t,ht,hq⟩:=hbody A outer s H vs Q y (hr.deeper _) hsp
 have I:Inv (cxY P w K mg base N qual scope f cdv A outer s H) [] (start N vs) H s1:=zAN S e0 hl r x
 refine wpAny_mono (ht [] s1 (start N vs) H _ I hq) (fun fl s' hs=>?_) fun e s' hs=>hs
 have fin : ∀ {σ':St} {H':Hp} {v:V} {u:Value},Inv (cxY P w K mg base N qual scope f cdv A outer s H) [] σ' H' s'->jz v u->Q v H'->CE outer P w H s Q u s':=
  fun {σ' H' v u} J rv q=>⟨v,H',J.os,J.bare,J.base,J.hok,rv,q⟩
 cases fl with
 | ret u =>
  obtain ⟨v,σ',H',J,rv,q⟩:=hs
  exact fin J rv q
 | next =>
  obtain ⟨σ',H',J,q⟩:=hs
  exact fin (v:=V.non) (u:=Value.none) J rfl q
 | brk =>
  obtain ⟨_,_,_,q⟩:=hs
  exact False.elim q
 | cont =>
  obtain ⟨_,_,_,q⟩:=hs
  exact False.elim q
theorem Fun.okY {sp:SpY} (F:Fun K x qual st f fd) (S:zN N ps (zG st)) (len : ∀ y vs H Q,sp y vs H Q->vs.length=ps.length)
  (hbody : ∀ (cdv:Value) (A:Around) (outer:List Env) (s:Shared) (H:Hp) (vs:List V) (Q:VK) (y:Addr),JJ k y (A.deeper (envOfC qual (zG st) s.heap.objs.size f cdv))->sp y vs H Q ->
   ∃ t,PSs (cxY P w K mg base N qual (zG st) f cdv A outer s H) (z6 st) t/\t { nx:=fun _ H'=>Q .non H',rt:=Q } (start N vs) H):zDg P w K mg base (k+1) f fd ps sp:=by
 obtain ⟨oc,od,kV,doc,pm,an,cdv,ct,osl,rfl,lk,hcd⟩:=F.ex
 exact zJH lk hcd S len fun A outer s H vs Q y hr hsp=>hbody cdv A outer s H vs Q y hr hsp
def zKz (P:Program) (w:World) (K:W.Frag) (mg:Str->Option Value) (base:Heap) (x:Str) (k:Nat) (ps:List Str) (sp:SpY):Prop:=
 ∃ (f:Addr) (fd:FuncData),zDg P w K mg base k f fd ps sp/\mg x=some (.ref f)/\W.keepIn K (.ref f)=true/\jx K fd ps []
end
def zEr (sp:SpY) (y:Addr) (t:TA):TE:=fun σ H Q=>t σ H fun vs H1=>sp y vs H1 Q
theorem zDO {sp:SpY} {e:Expr} {es:List Expr} (F:zKz X.prog X.w X.K X.mg X.base x k ps sp) (hr:j5 n X.A) (hg:Gl (X.inExc y) x) (ha:PA (X.inExc y) (e::es) t) (hk:k<=n:=by decide)
  (hdb:(x == ("__debug__" : Str))=false:=by decide) (he:starEach (e::es) X.env=(false,eval e X.env)::starEach es X.env:=by rfl) (hpl:(backTo pos (starEach es X.env)).any (·.1)=false:=by rfl) :
  PE (X.inExc y) (.Call (.Name x p) (e::es) [] pos) (zEr sp y t):=by
 intro pins s σ H Q I h
 obtain ⟨f,fd,G,hm,kp,hb⟩:=F
 refine wpAny_Call_Name_kw (jr I hg hm ?_ hdb)
 refine W.callWith_K (h₀:=X.base) I.ok.mod.kin kp (thn (ha pos pins s σ H _ I h) fun us s1 ⟨vs,H1,I1,r,q⟩=>⟨I1.kIn,?_⟩) he hpl
 have hl:(us++[]).length=ps.length:=by rw [List.append_nil,<- r.length];exact G.len _ _ _ _ q
 have b:=hb s1 us I1.kIn hl
 rw [List.append_nil] at b
 refine wpAny_call (codeAny_mono (G.run (X.inExc y).A (X.inExc y).stack s1 H1 ⟨us,[]⟩ us vs Q y ((hr.mono hk).marked y) I1.env0 b r q) fun r s' hq=>?_)
 cases r with
 | error e=>exact hq.elim
 | ok fl =>
  cases fl with
  | ret u=>exact I1.after hq
  | next=>exact hq.elim
  | brk=>exact hq.elim
  | cont=>exact hq.elim
theorem zF3 {sp:SpY} (h:t σ H fun vs H1=>sp y vs H1 Q):zEr sp y t σ H Q:=h
set_option maxHeartbeats 4000000
set_option maxHeartbeats 1000000
theorem n0N {α:Type} {P:List α->Prop} (h:P []) : ∀ us:List α,us.length=0->P us
 | [],_=>h
theorem nSN {α:Type} {P:List α->Prop} (h : ∀ (a:α) (us:List α),us.length=n->P (a::us)) : ∀ us:List α,us.length=n+1->P us
 | a::us,e=>h a us (Nat.succ.inj e)
section
variable {α : Type} {P : List α -> Prop}
theorem l0N (h:P []) : ∀ us:List α,us.length=0->P us:=n0N h
theorem l1N (h : ∀ a,P [a]) : ∀ us:List α,us.length=1->P us:=nSN fun a=>n0N (h a)
theorem l2N (h : ∀ a b,P [a,b]) : ∀ us:List α,us.length=2->P us:=nSN fun a=>nSN fun b=>n0N (h a b)
theorem l3N (h : ∀ a b c,P [a,b,c]) : ∀ us:List α,us.length=3->P us:=nSN fun a=>nSN fun b=>nSN fun c=>n0N (h a b c)
theorem l4N (h : ∀ a b c d,P [a,b,c,d]) : ∀ us:List α,us.length=4->P us:=nSN fun a=>nSN fun b=>nSN fun c=>nSN fun d=>n0N (h a b c d)
theorem l5N (h : ∀ a b c d e,P [a,b,c,d,e]) : ∀ us:List α,us.length=5->P us:=nSN fun a=>l4N fun b c d e=>h a b c d e
theorem l6N (h : ∀ a b c d e f,P [a,b,c,d,e,f]) : ∀ us:List α,us.length=6->P us:=nSN fun a=>l5N fun b c d e f=>h a b c d e f
theorem l8N (h : ∀ a b c d e f g i,P [a,b,c,d,e,f,g,i]) : ∀ us:List α,us.length=8->P us:=nSN fun a=>nSN fun b=>l6N fun c d e f g i=>h a b c d e f g i
theorem zLs (h : ∀ a b c d e f g i j k,P [a,b,c,d,e,f,g,i,j,k]) : ∀ us:List α,us.length=10->P us:=nSN fun a=>nSN fun b=>l8N fun c d e f g i j k=>h a b c d e f g i j k
theorem zMK (h : ∀ a b c d e f g i j k l m n,P [a,b,c,d,e,f,g,i,j,k,l,m,n]) : ∀ us:List α,us.length=13->P us:=nSN fun a=>nSN fun b=>nSN fun c=>zLs fun d e f g i j k l m n=>h a b c d e f g i j k l m n
end
def Kn (K:W.Frag) (mg:Str->Option Value):Prop:=∃ h:Heap,K.In h/\h.Ns mainGlobals mg
def Dfx (K:W.Frag) (x:Str) (st:Stmt):Prop:=∃ f,Df K x st f
def zEI (K:W.Frag) (m:Str) (f:Addr):List Addr->Prop
 | []=>True
 | C::r=>W.findIn K (.ref C) m=some (some (.ref f))/\zEI K m f r
theorem zEI.at {K:W.Frag} {m:Str} {f C:Addr} : ∀ {l:List Addr},zEI K m f l->C ∈ l->W.findIn K (.ref C) m=some (some (.ref f))
 | _::_,h,.head _=>h.1
 | _::_,h,.tail _ k=>zEI.at h.2 k
theorem in0 {α:Type} {a:α} {l:List α}:a ∈ a::l:=.head _
theorem in1 {α:Type} {a b:α} {l:List α}:b ∈ a::b::l:=.tail _ (.head _)
theorem in2 {α:Type} {a b c:α} {l:List α}:c ∈ a::b::c::l:=.tail _ (.tail _ (.head _))
def Dmx (K:W.Frag) (q m:Str) (st:Stmt) (C:Addr) (Cs:List Addr):Prop:=∃ f,Dm K q m st .none C f/\zEI K m f Cs
def Ddx (K:W.Frag) (q m:Str) (st:Stmt) (C:Addr) (Cs:List Addr) (n:Nat):Prop:=∃ (f t:Addr) (oc:Value) (od:Option Addr) (vs:List Value) (nn:Nat) (sl:Array (Option Value)),vs.length=n/\Dm K q m st (.ref t) C f/\K.lookup t=some ⟨oc,od,.seq vs.toArray nn,sl⟩/\zEI K m f Cs
def Dcx (K:W.Frag) (q m:Str) (st:Stmt) (C:Addr):Prop:=∃ f,Dm K q m st .none C f/\W.specialIn K (.ref C) "__getattribute__" = some (some (.builtin "type.__getattribute__"))/\W.readsIn K C (.type "type")=true/\W.findCls K (.ref C) (.type "type") m=some (.val (.ref f))
def MkI (K:W.Frag) (C:Addr):Prop:=W.makesIn K C=true/\W.keepIn K (.ref C)=true
section
variable {K : W.Frag} {x q m : Str} {st : Stmt} {f C t : Addr} {oc dV : Value} {od : Option Addr} {kV dc pm : Value} {an : Option Addr} {cd ct : Value} {sl : Array (Option Value)} {Cs : List Addr}
theorem dfx_mk (a:W.nsIn K mainGlobals x=some (some (.ref f))) (l:K.lookup f=some ⟨oc,od,.func (W.fnOf x x (qP st) (z6 st) (zG st) .none kV dc pm an cd ct),sl⟩) (c:W.codeIn K cd x=true) (k:W.keepIn K (.ref f)=true):Dfx K x st:=⟨f,zKL a l c k⟩
theorem dmx_mk (a:W.findIn K (.ref C) m=some (some (.ref f))) (l:K.lookup f=some ⟨oc,od,.func (W.fnOf m q (qP st) (z6 st) (zG st) .none kV dc pm an cd ct),sl⟩) (c:W.codeIn K cd q=true) (k:W.keepIn K (.ref f)=true) (n:W.isFn K (.ref f)=true) (i:zEI K m f Cs):Dmx K q m st C Cs:=⟨f,zG9 a l c k n,i⟩
theorem ddx_mk {oc':Value} {od':Option Addr} {nn n':Nat} {sl':Array (Option Value)} (a:W.findIn K (.ref C) m=some (some (.ref f))) (l:K.lookup f=some ⟨oc,od,.func (W.fnOf m q (qP st) (z6 st) (zG st) (.ref t) kV dc pm an cd ct),sl⟩) (c:W.codeIn K cd q=true) (k:W.keepIn K (.ref f)=true) (n:W.isFn K (.ref f)=true)
  (d:K.lookup t=some ⟨oc',od',.seq it nn,sl'⟩) (s:it.size=n') (i:zEI K m f Cs):Ddx K q m st C Cs n':=⟨f,t,oc',od',it.toList,nn,sl',by simpa using s,zG9 a l c k n,by simpa using d,i⟩
theorem dcx_mk (a:W.findIn K (.ref C) m=some (some (.ref f))) (l:K.lookup f=some ⟨oc,od,.func (W.fnOf m q (qP st) (z6 st) (zG st) .none kV dc pm an cd ct),sl⟩) (c:W.codeIn K cd q=true) (k:W.keepIn K (.ref f)=true) (n:W.isFn K (.ref f)=true) (c1:W.specialIn K (.ref C) "__getattribute__" = some (some (.builtin "type.__getattribute__"))) (c2:W.readsIn K C (.type "type")=true) (c3:W.findCls K (.ref C) (.type "type") m=some (.val (.ref f))):Dcx K q m st C:=⟨f,zG9 a l c k n,c1,c2,c3⟩
variable {mg : Str -> Option Value} {P : Program} {w : World} {base : Heap} {k : Nat} {ps : List Str} {sp : Sp} {CX : CXT}
theorem xz (z:Kn K mg) (d:Dfx K x st) (hb : ∀ us:List Value,us.length=ps.length -> ∀ (kV doc pm:Value) (an:Option Addr) (cdv ct:Value),bindArgs (W.fnOf x x (qP st) (z6 st) (zG st) .none kV doc pm an cdv ct) ⟨us,[]⟩=pure (ps.zip us))
  (ok : ∀ fq fd,Fun K x x st fq fd->xx P w K mg base CX k fq fd ps sp) : ∃ (f:Addr) (fd:FuncData),xx P w K mg base CX k f fd ps sp/\mg x=some (.ref f)/\W.keepIn K (.ref f)=true/\jx K fd ps []:=by
 obtain ⟨h,X,G⟩:=z
 obtain ⟨f,_,_,_,_,_,_,_,_,_,a,l,c,k'⟩:=d
 have F:=WD l c k'
 exact ⟨f,_,ok _ _ F,W.mg_of X G a,k',F.binds fun _ _ _ _ _ _ us hl=>hb us hl _ _ _ _ _ _⟩
theorem zKu {sp:SpY} (z:Kn K mg) (d:Dfx K x st) (hb : ∀ us:List Value,us.length=ps.length -> ∀ (kV doc pm:Value) (an:Option Addr) (cdv ct:Value),bindArgs (W.fnOf x x (qP st) (z6 st) (zG st) .none kV doc pm an cdv ct) ⟨us,[]⟩=pure (ps.zip us))
  (ok : ∀ fq fd,Fun K x x st fq fd->zDg P w K mg base k fq fd ps sp):zKz P w K mg base x k ps sp:=by
 obtain ⟨h,X,G⟩:=z
 obtain ⟨f,_,_,_,_,_,_,_,_,_,a,l,c,k'⟩:=d
 have F:=WD l c k'
 exact ⟨f,_,ok _ _ F,W.mg_of X G a,k',F.binds fun _ _ _ _ _ _ us hl=>hb us hl _ _ _ _ _ _⟩
def Gx (P:Program) (w:World) (K:W.Frag) (mg:Str->Option Value) (base:Heap) (CX:CXT) (m:Str) (Cs:List Addr) (k:Nat) (ps:List Str) (sp:Sp):Prop:=∃ f,Gd P w K mg base CX f k ps sp/\zEI K m f Cs
theorem VP (d:Dmx K q m st C Cs) (hb : ∀ us:List Value,us.length=ps.length -> ∀ (kV dc pm:Value) (an:Option Addr) (cd ct:Value),bindArgs (W.fnOf m q (qP st) (z6 st) (zG st) .none kV dc pm an cd ct) ⟨us,[]⟩=pure (ps.zip us))
  (ok : ∀ fq fd,KJ K m q st fq fd->xx P w K mg base CX k fq fd ps sp):Gx P w K mg base CX m Cs k ps sp:=by
 obtain ⟨f,d,i⟩:=d
 exact ⟨f,zH5 d (ok f) fun _ _ _ _ _ _ us hl=>hb us hl _ _ _ _ _ _,i⟩
theorem zFi (d:Ddx K q m st C Cs n) (hb : ∀ vs:List Value,vs.length=n -> ∀ us:List Value,us.length=ps.length -> ∀ (t:Addr) (kV dc pm:Value) (an:Option Addr) (cd ct:Value),∃ k,bindArgs (W.fnOf m q (qP st) (z6 st) (zG st) (.ref t) kV dc pm an cd ct) ⟨us,[]⟩=seqItems? (.ref t) >>= k/\k (some vs.toArray)=pure (ps.zip us))
  (ok : ∀ fq fd,KJ K m q st fq fd->xx P w K mg base CX k fq fd ps sp):Gx P w K mg base CX m Cs k ps sp:=by
 obtain ⟨f,t,oc,od,vs,nn,sl,hn,d,hl,i⟩:=d
 exact ⟨f,zIo d hl (ok f) fun _ _ _ _ _ _ us hu=>hb vs hn us hu _ _ _ _ _ _ _,i⟩
theorem zLy (d:Dcx K q m st C) (hb : ∀ us:List Value,us.length=ps.length -> ∀ (kV dc pm:Value) (an:Option Addr) (cd ct:Value),bindArgs (W.fnOf m q (qP st) (z6 st) (zG st) .none kV dc pm an cd ct) ⟨us,[]⟩=pure (ps.zip us))
  (ok : ∀ fq fd,KJ K m q st fq fd->xx P w K mg base CX k fq fd ps sp):zKC P w K mg base CX C m k ps sp:=by
 obtain ⟨f,d,c1,c2,c3⟩:=d
 exact zMR (zH5 d (ok f) fun _ _ _ _ _ _ us hl=>hb us hl _ _ _ _ _ _) c1 c2 c3
theorem xT (g:Gx P w K mg base CX m Cs k ps sp) (h:C ∈ Cs):zKF P w K mg base CX C m k ps sp:=let ⟨_,g,i⟩:=g;zL1 g (i.at h)
theorem zJ9 (g:Gx P w K mg base CX "__init__" [C] k ps sp) (h:MkI K C):zKV P w K mg base CX C k ps sp:=let ⟨_,g,i⟩:=g;zL0 g h.1 i.1 h.2
end
set_option maxHeartbeats 4000000
set_option maxHeartbeats 1000000
structure ExcB (K:W.Frag) (C:Addr):Prop where
 h1:W.findIn K (.ref C) "__getattribute__" = some (some (.builtin "BaseException.__getattribute__"))
 h2:W.findIn K (.ref C) "__getattr__" = some none
 hb:W.mroIn K C (.type "BaseException")=some true
 hd:W.hasDictIn K C=true
 ha:W.findIn K (.ref C) "__class__" = some (some (.builtin "object.__class__"))
 hn:W.specialIn K (.builtin "object.__class__") "__get__" = some (some (.builtin "getset_descriptor.__get__"))
 ht:W.takesIn K (.builtin "object.__class__")=some true
 hm:W.mroIn K C (.type "object")=some true
variable {C:Addr}
theorem Exc.b (c:Exc K C):ExcB K C:=⟨c.h1,c.h2,c.hb,c.hd,c.ha,c.hn,c.ht,c.hm⟩
section
open PySem.W PySem.Calls Builtin Builtin.ObjectAttr Builtin.Getset_descriptor
variable {K : Frag} {x C : Addr} {M : Model} {h : Heap} {prog : Program} {w : World} {A : Around} {E : Value -> Shared -> Prop} {s : Shared}
theorem zJP {tp:Value} {R:Result->Shared->Prop} (X:K.In s.heap) (e:V2 x C s.heap) (c:ExcB K C) (q:R (.ok (.ret (.ref C))) s) :
  codeAny (model prog w) A (.call (.builtin "getset_descriptor.__get__") ⟨[.builtin "object.__class__", .ref x,tp],[]⟩) R s:=by
 obtain ⟨hp,gn,dw,tk,os⟩:=s
 have T0:=e.ty (M:=model prog w)
 have T1:=looks_mroIn (M:=model prog w) X c.hm
 refine codeAny_call_builtin KF.slot_gs.plain KF.entry_gs
  (KF.slot_gs.check _ _ _ _ _ _ _ _ KF.type_class (KF.args_gs _ _ _) ?_)
 unfold Builtin.«getset_descriptor.__get__»
 unfold descrGet
 rw [dga_obj]
 refine wpAny_bind (wpAny_pure ?_)
 unfold descrGetter descrCheckInstance
 unfold descrNameAndClass isInstance
 simp only [KF.owner_class]
 repeat lk
 refine ⟨Code.quiet_builtin _ (by decide +kernel),
  codeAny_builtin KF.entry_class ?_⟩
 unfold Builtin.«object.__class__»
 unfold shownTypeOf
 repeat lk
 exact q
theorem zD0 {tk:Tok} {P:Value->Shared->Prop} (X:K.In s.heap) (e:V2 x C s.heap) (c:ExcB K C) (q:P (.ref C) s) :
  wpAny (model prog w) A (Builtin.«object.__getattribute__» ⟨[.ref x,.str "__class__" tk],[]⟩) (fun fin s'=>match fin with | .done (.ret v)=>P v s' | _=>False) E s:=by
 obtain ⟨hp,gn,dw,t',os⟩:=s
 have T0:=e.ty (M:=model prog w)
 have T2:=zGw (M:=model prog w) (x:=x) X c.ha c.hn c.ht
 unfold Builtin.«object.__getattribute__»
 refine wpAny_bind (wpAny_pure (wpAny_bind (wpAny_pure (wpAny_bind (T0.at (wpAny_bind (T2.at ?_)))))))
 show wpAny _ _ (holding [Value.builtin "object.__class__"] (call (.builtin "getset_descriptor.__get__") [.builtin "object.__class__", .ref x,.ref C]) >>= ret) _ _ _
 refine wpAny_bind (wpAny_holding (wpAny_call (zJP X e c ?_)))
 exact wpAny_pure q
theorem zCW {z:Str} {tk:Tok} {v:Value} {R:Result->Shared->Prop} (X:K.In s.heap) (e:V2 x C s.heap) (c:ExcB K C) (q:R (.ok (.ret v)) s)
  (go : ∀ A',wpAny (model prog w) A' (Builtin.«object.__getattribute__» ⟨[.ref x,.str z tk],[]⟩) (fun fin s'=>match fin with | .done (.ret u)=>u=v/\s'=s | _=>False) (fun _ _=>False) s) :
  codeAny (model prog w) A (.call (.builtin "BaseException.__getattribute__") ⟨[.ref x,.str z tk],[]⟩) R s:=by
 refine codeAny_call_builtin PySem.F.attrBase_ValueError.ga.plain PySem.F.entry_bexc_ga ?_
 have k0:builtinKind "BaseException.__getattribute__" = some .slot:=by decide +kernel
 have k1:splitId "BaseException.__getattribute__" = some ("BaseException", "__getattribute__"):=by decide +kernel
 have k2:=PySem.F.args_bexc_ga (.ref x) (.str z tk)
 have T0:=e.ty (M:=model prog w)
 have T1:=looks_mroIn (M:=model prog w) X c.hb
 have T4:Looks (model prog w) s.heap (isInstance (.ref x) (.type "BaseException")) true:=T0.andThen T1
 simp only [checkBuiltinCall,k0,k1]
 refine wpAny_bind (T4.here ?_)
 rw [if_neg (by decide)]
 unfold argsOk at k2
 generalize Manifest.signature? "BaseException.__getattribute__" = sg at k2 ⊢
 have go':=wpAny_mono (E':=fun e s'=>R (.error e) s') (go A.in1) (Q':=fun fin s'=>match fin with | .done f=>R (.ok f) s' | .again c'=>c'.quiet=true/\codeAny (model prog w) A c' R s') (fun fin s' z=>by
  rcases fin with (_ | _ | _ | _) | _ <;> first | exact z.elim | (obtain ⟨rfl,rfl⟩:=z;exact q)) fun _ _ z=>z.elim
 cases sg with
 | none=>exact wpAny_pure go'
 | some sig =>
  dsimp only at k2 ⊢
  rw [k2]
  exact wpAny_pure go'
theorem zD5 {Q:Option Value->Shared->Prop} (X:K.In s.heap) (e:V2 x C s.heap) (c:ExcB K C) (q:Q (some (.ref C)) { s with toks:=s.toks+1 }):wpAny (model prog w) A (getAttr? (.ref x) "__class__") Q E s:=by
 obtain ⟨hp,gn,dw,tk,os⟩:=s
 have T0:=e.ty (M:=model prog w)
 have T1:=looks_findIn (M:=model prog w) X c.h1
 have T3:=looks_findIn (M:=model prog w) X c.h2
 have B0:=PySem.F.attrBase_ValueError.ga.bind (.ref x)
 unfold getAttr? getAttrBy?
 unfold getAttrBy
 refine wpAny_bind (wpAny_mkText (wpAny_bind (wpAny_attempt
  (wpAny_holding (wpAny_bind (T0.at (wpAny_bind (T1.at ?_))))))))
 show wpAny _ _ (getAttrByItsOwn (.ref x) (.str "__class__" tk) (.ref C) (.builtin "BaseException.__getattribute__") false false) _ _ _
 unfold getAttrByItsOwn
 refine wpAny_bind ((show Looks (model prog w) hp (hookBefore (.ref C)) none from T3).at ?_)
 unfold callGetattribute
 show wpAny _ _ (do match <- (holding [] (boundAndCalled (.builtin "BaseException.__getattribute__") (.ref x) (.str "__class__" tk))).attempt with | .ok v=>handedOut v | .error e'=>getattributeRaised _ _ _ e' _ _ _) _ _ _
 unfold boundAndCalled
 rw [B0]
 refine wpAny_bind (wpAny_attempt (wpAny_holding (wpAny_bind (wpAny_pure (wpAny_call (zCW X e c ?_ fun A'=>zD0 (P:=fun u s'=>u = .ref C/\s'=_) X e c ⟨rfl,rfl⟩))))))
 exact wpAny_mono (handed_on rfl q) (fun v s'' hv=>wpAny_pure hv) fun _ _ z=>z
theorem zEs (c:ExcB K C):KitX K (.ref x) (.ref C) (V2 x C) where
 ty:=fun _ _ _ e=>e.ty
 it:=fun _ _ X _=>by
  obtain ⟨cd,hc,_⟩:=any_some c.hd
  unfold clsIn at hc
  split at hc
  ·rename_i ho
   intro A' Q' E' s' k q
   unfold isType loadHead
   refine wpAny_bind (wpAny_loadPart (k _ _ (X _ _ ho)) ?_)
   exact wpAny_pure q
  ·cases hc
 ne:=fun h tp dd its n sl X htp=>by
  obtain ⟨cd,hc,_⟩:=any_some c.hd
  refine Bool.eq_false_iff.mpr fun q=>?_
  have z:C=tp:=Value.ref.inj (beq_iff_eq.mp q)
  subst z
  unfold clsIn at hc
  split at hc
  ·rename_i ho
   cases (X _ _ ho).symm.trans htp
  ·cases hc
 ca:=fun X e k=>zD5 X e c k
end
def ExN (x C:Addr) (h:Heap):Prop:=∃ v0 v1 v2 v3 v4 v5:Value,h.get? x=some { cls:=.ref C,data:=.fields #[v0,v1,v2,v3,v4,v5] }
def ExD (x C dx:Addr) (h:Heap):Prop:=dx≠x /\ ∃ v0 v1 v2 v3 v4 v5:Value,h.get? x=some { cls:=.ref C,dict:=some dx,data:=.fields #[v0,v1,v2,v3,v4,v5] }
def XD (dx:Addr) (fs:List (Str × V)) (h:Heap):Prop:=∃ mA,h.Ns1 dx mA/\(∀ f,zAM (fs.lookup f) (mA f))/\PySem.Within mA (fs.map (·.1))
def zAa (H:Hp) (x C:Addr):Prop:=∃ φ:Heap->Prop,H x=some (.ext φ) /\ ∀ h,φ h->V2 x C h
theorem ExN.at {x:Addr} (e:ExN x C h):V2 x C h:=let ⟨_,_,_,_,_,_,z⟩:=e;⟨_,z,rfl,_,rfl⟩
variable {dx:Addr}
theorem ExD.at {x:Addr} (e:ExD x C dx h):V2 x C h:=let ⟨_,_,_,_,_,_,_,z⟩:=e;⟨_,z,rfl,_,rfl⟩
theorem zAa.d {x:Addr} (e:H x=some (.ext (ExD x C dx))):zAa H x C:=⟨_,e,fun _ z=>z.at⟩
theorem zAa.same {H':Hp} {x:Addr} (g:zc H H') (e:zAa H x C):zAa H' x C:=let ⟨φ,a,b⟩:=e;⟨φ,g _ _ a,b⟩
def zFy (K:W.Frag):List V->Hp->VK->Prop:=fun xs H Q=>∃ x C c b,xs=[.ref x,c]/\zAa H x C/\ExcB K C/\((∃ T,c = .ty T) \/ ∃ D,c = .ref D)/\W.kitOne K (.ref C) (zHY c)=some b/\Q (.bl b) H
section
variable {X : Cx} {H : Hp} {Q : VK} {K : W.Frag}
theorem zBk:jC X (.builtin "isinstance") (zFy X.K):=by
 intro pins s σ H xs us Q I r h
 obtain ⟨x,C,c,b,rfl,⟨φ,hx,hφ⟩,ex,hc,e,q⟩:=h
 obtain ⟨v,w,rfl,rx,rw'⟩:=Y1 r
 cases rx
 have:w=zHY c:=by
  rcases hc with ⟨T,rfl⟩ | ⟨D,rfl⟩
  ·exact rw'
  ·exact rw'
 subst this
 exact W.kia_one (zEs ex) I.kIn (hφ _ (I.hok x _ hx).1) e (fun z=>nomatch z) fun tk=>⟨.bl b,H,I.tok _,rfl,q⟩
theorem zFP {x:Addr} {c:V} {b:Bool} (hx:zAa H x C) (ex:ExcB K C) (hc:(∃ T,c = .ty T) \/ ∃ D,c = .ref D) (e:W.kitOne K (.ref C) (zHY c)=some b) (q:Q (.bl b) H):zFy K [.ref x,c] H Q:=⟨x,C,c,b,rfl,hx,ex,hc,e,q⟩
end
variable {pins:List (Addr × Obj)}
theorem Inv.laidN {s:Shared} {h':Heap} {a:Addr} {o:HO} {t':Nat} (I:Inv X pins σ H s) (k : ∀ b u,s.heap.get? b=some u->h'.get? b=some u) (hn:s.heap.get? a=none) (new:jo X.prog X.w (upd H a o) h' a o) :
  H a=none/\Inv X pins σ (upd H a o) { s with heap:=h',toks:=t' }:=by
 have fr:H a=none:=by
  cases z:H a with
  | none=>rfl
  | some u =>
   obtain ⟨ob,e⟩:=(I.hok a u z).is
   rw [hn] at e;cases e
 refine ⟨fr,I.un ⟨fun b u q _ _ _=>k b u q,fun b u q _ _ _=>⟨u.slots,k b u q⟩,fun b u q n _=>?_,fun b u q _=>⟨u,k b u q⟩,fun b xs q=>by rw [zf (zg q fr)];exact q,fun b u xs q=>by rw [zf (zg q fr)];exact q,fun b ps q=>⟨#[],by rw [zf (zg q fr),q];simp⟩⟩ fun b u e=>?_⟩
 ·have nb:b≠a:=fun z=>by subst z;rw [hn] at q;cases q
  rw [zf nb];exact n
 ·by_cases hb:b=a
  ·subst hb;rw [zK] at e;cases e;exact new
  ·rw [zf hb] at e
   exact (I.hok b u e).stay (fun c v _ q=>k c v q) (fun c q=>by rw [zf (zg q fr)];exact q) fun c xs q=>by rw [zf (zg q fr)];exact q
theorem Yd {x:Addr} {φ:Heap->Prop} (e:φ h) (t : ∃ o,h.get? x=some o) (k : ∀ h1 h2:Heap,φ h1->(∀ o,h1.get? x=some o->h2.get? x=some o)->φ h2):jo P w H h x (.ext φ):=⟨e,t,k⟩
theorem ExN.keep {x:Addr} : ∀ h1 h2:Heap,ExN x C h1->(∀ o,h1.get? x=some o->h2.get? x=some o)->ExN x C h2:=fun _ _ ⟨_,_,_,_,_,_,z⟩ k=>⟨_,_,_,_,_,_,k _ z⟩
theorem ExD.keep {x:Addr} : ∀ h1 h2:Heap,ExD x C dx h1->(∀ o,h1.get? x=some o->h2.get? x=some o)->ExD x C dx h2:=fun _ _ ⟨n,_,_,_,_,_,_,z⟩ k=>⟨n,_,_,_,_,_,_,k _ z⟩
theorem XD.keep {fs:List (Str × V)} : ∀ h1 h2:Heap,XD dx fs h1->(∀ o,h1.get? dx=some o->h2.get? dx=some o)->XD dx fs h2:=fun _ _ ⟨mA,a,b,c⟩ k=>⟨mA,a.at k,b,c⟩
def QA (K:W.Frag) (C f:Addr):Bool:=match K.lookup C with
 | some ⟨.type "type", _,.cls cd,sl⟩=>(match cd.mro,sl.toList with
  | .ref C'::bm,[_,_,_,_,some (.builtin n),_]=>C' == C && n == "ValueError.__new__" && !cd.hasDel && W.tailIn K VEB bm && W.nsOkIn K cd.ns && W.nsIn K cd.ns "__init__" == some (some (.ref f))
  | _,_=>false)
 | _=>false
structure zLK (K:W.Frag) (C f:Addr):Prop where
 ex:QA K C f=true
 fn:W.isFn K (.ref f)=true
 kp:W.keepIn K (.ref C)=true
theorem zAU {N:Addr} {n:Str} {v:Value} (X:K.In h) (G:h.Ns N mg) (e:W.nsIn K N n=some (some v)):mg n=some v:=by
 obtain ⟨o,es,ep,ho,hd,_,hf⟩:=G
 unfold W.nsIn at e
 split at e
 ·rename_i c d es' n' sl q
  have z:=(X _ _ q).symm.trans ho
  cases z
  cases hd
  split at e
  ·rename_i en he
   cases e
   rw [<- hf]
   unfold nsFind findBy
   rw [<- Array.find?_toList,he]
   rfl
  ·split at e <;> cases e
 ·cases e
theorem Yv (X:K.In h) (c:QA K C f=true) : ∃ tl N nm q bs hdct sn sub ab col dd k0 k1 k2 k3 k5 mN,
  h.get? C=some (excClassObj nm q C N bs tl hdct sn sub ab col dd k0 k1 k2 k3 k5 "ValueError.__new__")/\h.Ns N mN/\mN "__init__" = some (.ref f)/\OwnTail h VEB tl:=by
 have q:=c
 unfold QA at q
 split at q
 ·rename_i dd cd sl ho
  split at q
  ·rename_i C' bm k0 k1 k2 k3 n k5 hm hs
   simp only [Bool.and_eq_true,beq_iff_eq,Bool.not_eq_true'] at q
   obtain ⟨⟨⟨⟨⟨z1,z2⟩,hdel⟩,ht⟩,hok⟩,hi⟩:=q
   subst z1 z2
   obtain ⟨nm,bs,mro,ns,qn,hdc,sn,sub,ab,col,del⟩:=cd
   dsimp only at hm hdel hok hi
   subst hm hdel
   have hsl:sl = #[k0,k1,k2,k3,some (.builtin "ValueError.__new__"),k5]:=by
    cases sl with
    | mk l=>simp only at hs;rw [hs]
   subst hsl
   have G:h.Ns ns (h.nsMap ns):=.of_isNs (W.isNs_of_in X hok)
   exact ⟨bm,ns,nm,qn,bs,hdc,sn,sub,ab,col,dd,k0,k1,k2,k3,k5,h.nsMap ns,X _ _ ho,G,zAU X G hi,W.tail_of_in X ht⟩
  ·cases q
 ·cases q
section
variable {prog : Program} {w : World} {A : Around} {E : Value -> Shared -> Prop} {h : Heap} {g : Array GenState} {d : Drawn} {t : Nat} {os : OsState}
variable {nm q : Str} {C N : Addr} {bs bm bmB : List Value} {hdct : Bool} {sn : List Str} {sub : List Value} {ab : Bool} {col : Option Bool} {dd : Option Addr} {k0 k1 k2 k3 k5 : Option Value} {B newId initId : String}
theorem Ke (F:ExcBaseFacts B newId initId bmB) (T:OwnTail h bmB bm) {mN:Str->Option Value} {us:List Value} {of:Obj} {Q:Fin->Shared->Prop}
  (hC:h.get? C=some (excClassObj nm q C N bs bm hdct sn sub ab col dd k0 k1 k2 k3 k5 newId)) (hN:h.Ns N mN) (hi:mN "__init__" = some (.ref f)) (hf:h.get? f=some of) (hfc:of.cls = .type "function")
  (go : ∀ h' y,Heap.MadeExcOf h h' y (.ref C) us->wpAny (model prog w) A (call (.ref f) (.ref y::us)) (fun r s'=>r = .none/\Q (.done (.ret (.ref y))) s') E ⟨h',g,d,t,os⟩) (hz:us.length<=sizeLine) :
  wpAny (model prog w) A (Builtin.«type.__call__» ⟨.ref C::us,[]⟩) Q E ⟨h,g,d,t,os⟩:=by
 repeat (first | with_reducible refine wpAny_loadPart_at hC ?_ | with_reducible refine wpAny_madeBy_exc hC ?_ | wp_step)
 refine codeAny_call_builtin_code (Code.quiet_builtin _ F.quiet) (wpAny_check_new_subT F T hC (codeAny_exc_new_subT F T hC ?_ hz))
 show wpAny _ _ _ _ _ _
 generalize hb1:({ cls:=.type "tuple", data:=.seq us.toArray }:Obj)=b1
 generalize hb2:({ cls:=.ref C,data:=.fields #[.ref h.objs.size,.none,.none,.none,.bool false,.none] }:Obj)=b2
 have kp : ∀ b o,h.get? b=some o->((h.push b1).push b2).get? b=some o:=fun b o e=>Heap.get?_push_of_some _ (Heap.get?_push_of_some _ e)
 have hC':=kp _ _ hC
 have hf':=kp _ _ hf
 have hN':=hN.keeps kp
 have hy:((h.push b1).push b2).get? (h.objs.size+1)=some b2:=by
  subst hb1 hb2;heap_get
 have hcC:(Value.ref C::bm).contains (.ref C)=true:=by simp
 have T':=T.keeps kp
 have hy2:b2.cls = .ref C:=by rw [<- hb2]
 unfold isInstance
 repeat (first | (with_reducible refine wpAny_loadPart_at hy ?_;rw [hy2]) | (with_reducible refine wpAny_isSubtype_exc hC' ?_;rw [hcC]) | wp_step)
 show wpAny _ _ (typeLookup (.ref C) _) _ _ _
 refine wpAny_typeLookup_tail hC' hN' T' F.mroIs F.init.lookup ?_
 rw [hi]
 refine wpAny_holding (wpAny_bind ?_)
 unfold bindSpecial
 refine wpAny_bind (wpAny_typeOf (T:="function") ⟨_,hf',hfc⟩ ?_)
 rw [if_pos (by decide)]
 have made:Heap.MadeExcOf h ((h.push b1).push b2) (h.objs.size+1) (.ref C) us:=by
  refine ⟨kp,Heap.get?_none_of_le (Nat.le_succ _),h.objs.size,by rw [hy,<- hb2],Heap.get?_none_of_le (Nat.le_refl _),?_⟩
  subst hb1
  exact Heap.get?_push_of_some _ (Heap.get?_push_at rfl rfl)
 refine wpAny_pure (wpAny_bind (wpAny_mono (go _ _ made) (fun r s' hr=>?_) fun _ _ z=>z))
 obtain ⟨rfl,hQ⟩:=hr
 wp_walk
 exact hQ
theorem zAB (F:ExcBaseFacts B newId initId bmB) (T:OwnTail h bmB bm) {mN:Str->Option Value} {us:List Value} {of:Obj} {Q:Value->Shared->Prop}
  (hC:h.get? C=some (excClassObj nm q C N bs bm hdct sn sub ab col dd k0 k1 k2 k3 k5 newId)) (hN:h.Ns N mN) (hi:mN "__init__" = some (.ref f)) (hf:h.get? f=some of) (hfc:of.cls = .type "function")
  (go : ∀ h' y,Heap.MadeExcOf h h' y (.ref C) us->wpAny (model prog w) (A.under (.builtin "type.__call__" ⟨.ref C::us,[]⟩)) (call (.ref f) (.ref y::us)) (fun r s'=>r = .none/\Q (.ref y) s') E ⟨h',g,d,t,os⟩) (hz:us.length<=sizeLine) :
  wpAny (model prog w) A (call (.ref C) us) Q E ⟨h,g,d,t,os⟩:=by
 have f1:=tc_lookup
 have f2:=tc_bind (.ref C)
 have ty:(⟨h,g,d,t,os⟩:Shared).TypeIs (.ref C) "type" := ⟨_,hC,rfl⟩
 refine wpAny_call (codeAny_of_tree (show wpAny _ _ (callAny (.ref C) _) _ _ _ from ?_))
 repeat (any_goals (first | assumption | with_reducible refine wpAny_loadPart_at hC ?_ | wp_step))
 exact ⟨rfl,codeAny_call_builtin_at (Code.quiet_builtin _ (by decide +kernel)) entry_typeCall (wpAny_check_type_call_sub hC (Ke F T hC hN hi hf hfc (fun h' y hm=>go h' y hm) hz))⟩
end
section
variable {prog : Program} {w : World} {A : Around} {E : Value -> Shared -> Prop} {h : Heap} {g : Array GenState} {d : Drawn} {t : Nat} {os : OsState}
variable {nm q : Str} {C N : Addr} {bs bm bmB : List Value} {hdct : Bool} {sn : List Str} {sub : List Value} {ab : Bool} {col : Option Bool} {dd : Option Addr} {k0 k1 k2 k3 k5 : Option Value} {B newId initId : String}
theorem Yk (F:ExcBaseFacts B newId initId bmB) (T:OwnTail h bmB bm) {us:List Value} {v0 v1 v2 v3 v4 v5:Value} {Q:Value->Shared->Prop}
  (hC:h.get? C=some (excClassObj nm q C N bs bm hdct sn sub ab col dd k0 k1 k2 k3 k5 newId)) (hy:h.get? y=some { cls:=.ref C,data:=.fields #[v0,v1,v2,v3,v4,v5] }) (hz:us.length<=sizeLine)
  (go : ∀ h',(∀ b o,b≠y->h.get? b=some o->h'.get? b=some o)->(∃ u0:Value,h'.get? y=some { cls:=.ref C,data:=.fields #[u0,v1,v2,v3,v4,v5] })->Q .none ⟨h',g,d,t,os⟩) :
  wpAny (model prog w) A (call (.builtin initId) (.ref y::us)) Q E ⟨h,g,d,t,os⟩:=by
 refine wpAny_call (codeAny_call_builtin F.init.plain F.initEntry (wpAny_check_init_subT F T hC hy rfl ?_))
 wp_walk
 have fin:=go ((h.push { cls:=.type "tuple", data:=.seq us.toArray }).update y (Obj.mapFields fun x=>x.setIfInBounds 0 (.ref h.objs.size))) (fun b o hb e=>?_) ⟨.ref h.objs.size,?_⟩
 ·show wpAny _ _ (match v0 with | .ref a=>letGo [v0] | x=>pure ()) _ _ _
  split
  ·refine wpAny_letGo ?_
   wp_walk
   exact fin
  ·refine wpAny_pure ?_
   wp_walk
   exact fin
 ·rw [Heap.get?_update_other _ _ (Ne.symm hb)]
  exact Heap.get?_push_of_some _ e
 ·rw [Heap.get?_update_self _ (Heap.get?_push_of_some _ hy) rfl]
  rfl
end
structure PIni (K:W.Frag) (P:Addr):Prop where
 sp:W.specialIn K (.ref P) "__getattribute__" = some (some (.builtin "type.__getattribute__"))
 rd:W.readsIn K P (.type "type")=true
 fc:W.findCls K (.ref P) (.type "type") "__init__" = some (.val (.builtin "ValueError.__init__"))
theorem zIE {a:Addr} {o:HO} (e:H a=some o):upd H a o=H:=by
 funext b
 by_cases z:b=a
 ·subst z;rw [zK,e]
 ·rw [zf z]
theorem KC {tl:List Value} (T:OwnTail h VEB tl) (self:Value):refuseLoop self "__setattr__" tl=pure ():=by
 induction T with
 | base=>exact PySem.F.store_ValueError.passes self
 | _=>rw [refuseLoop_ref];assumption
theorem Ww (X:K.In h) (c:QA K C f=true) : ∃ cd bm,W.clsIn K C=some cd/\cd.mro = .ref C::bm/\OwnTail h VEB bm:=by
 have q:=c
 unfold QA at q
 unfold W.clsIn
 split at q
 ·rename_i dd cd sl ho
  rw [ho]
  split at q
  ·rename_i C' bm k0 k1 k2 k3 n k5 hm hs
   simp only [Bool.and_eq_true,beq_iff_eq,Bool.not_eq_true'] at q
   obtain ⟨⟨⟨⟨⟨z1,z2⟩,hdel⟩,ht⟩,hok⟩,hi⟩:=q
   subst z1
   exact ⟨cd,bm,rfl,hm,W.tail_of_in X ht⟩
  ·cases q
 ·cases q
structure ExF (K:W.Frag) (C f:Addr) (z:Str):Prop where
 ex:QA K C f=true
 b:ExcB K C
 sa:W.findIn K (.ref C) "__setattr__" = some (some (.builtin "object.__setattr__"))
 na:W.findIn K (.ref C) z=some none
section
open PySem.W Builtin Builtin.ObjectAttr
variable {prog : Program} {w : World} {A : Around} {E : Value -> Shared -> Prop} {s : Shared} {K : Frag} {x C f : Addr}
theorem zCS {R:Result->Shared->Prop} {ox:Obj} {od:Option Obj} {tk:Tok} {v:Value} (X:K.In s.heap) (I:InstAt s.heap x ox C od) (c:ExF K C f name)
  (go : ∀ b,wpAny (model prog w) A.in1 (storeInOwnDict (.ref x) (.ref C) (.str name tk) name v b) (fun fin s'=>match fin with | .done z=>R (.ok z) s' | .again c'=>c'.quiet=true/\codeAny (model prog w) A c' R s') (fun e s'=>R (.error e) s') s) :
  codeAny (model prog w) A (.call (.builtin "object.__setattr__") ⟨[.ref x,.str name tk,v],[]⟩) R s:=by
 have SF:=PySem.F.store_object
 obtain ⟨cd,bm,hc,hmro,T⟩:=Ww X c.ex
 have isO:Looks (model prog w) s.heap (isInstance (.ref x) (.type "object")) true:=I.type.andThen (looks_mroIn X c.b.hm)
 refine codeAny_call_builtin SF.slot.plain SF.entry (@check_slot (model prog w) _ _ s "object.__setattr__" "object" "__setattr__" (.ref x) [.str name tk,v] [] _ SF.kind SF.split isO (SF.args (.ref x) (.str name tk) v) ?_)
 have L1:Looks (model prog w) s.heap (mroOf (.ref C)) cd.mro:=(looks_clsIn X hc).andThen .now
 have L2:Looks (model prog w) s.heap (storeTaker? none) none:=.now
 rw [osa_eq,refuse_eq]
 refine wpAny_bind (wpAny_bind (I.type.here (wpAny_bind (L1.here ?_))))
 rw [hmro,refuseLoop_ref,KC T]
 exact wpAny_pure (wpAny_bind (I.type.here (wpAny_bind ((looks_findIn X c.na).here (wpAny_bind (L2.here (go _)))))))
end
section
variable {prog : Program} {w : World} {A : Around} {E : Value -> Shared -> Prop} {s : Shared} {K : W.Frag} {x dx C f : Addr} {mA : Str -> Option Value} {name : Str} {v : Value}
theorem Wh {Q:Unit->Shared->Prop} (X:K.In s.heap) (hx:s.heap.get? x=some { cls:=.ref C,data:=.fields vs }) (c:ExF K C f name)
  (go : ∀ h' t',(∀ b o,b≠x->s.heap.get? b=some o->h'.get? b=some o)->h'.get? x=some { cls:=.ref C,dict:=some s.heap.objs.size,data:=.fields vs }->h'.Ns1 s.heap.objs.size (fun y=>if y=name then some v else none)->Q () { s with heap:=h',toks:=t' }) :
  wpAny (model prog w) A (setAttr (.ref x) name v) Q E s:=by
 have J:W.InstAt s.heap x { cls:=.ref C,data:=.fields vs } C none:=⟨hx,rfl,rfl,trivial⟩
 refine W.set_plain X J c.sa (zCS (s:={ s with toks:=s.toks+1 }) X J c fun b=>?_)
 obtain ⟨cd,hc,hd'⟩:=W.any_some c.b.hd
 refine wpAny_bind (wpAny_pure (wpAny_bind (wpAny_bind (wpAny_loadPart hx (wpAny_bind (W.Looks.here (s:={ s with toks:=s.toks+1 }) (W.looks_clsIn X hc) ?_))))))
 rw [hd']
 have hx1:(s.heap.push { cls:=.type "dict", data:=.dict #[] }).get? x=some { cls:=.ref C,data:=.fields vs }:=Heap.get?_push_of_some _ hx
 have ne:x≠s.heap.objs.size:=ne_of_lt (Heap.lt_size hx)
 show wpAny _ _ (alloc { cls:=.type "dict", data:=.dict #[] } >>= fun d=>update x (fun o=>{ cls:=o.cls,dict:=some d,data:=o.data,slots:=o.slots }) >>= fun _=>pure (some d)) _ _ _
 refine wpAny_bind (wpAny_alloc' (wpAny_bind (wpAny_update' hx1 (wpAny_pure ?_))))
 have hgd:((s.heap.push { cls:=.type "dict", data:=.dict #[] }).update x fun o=>{ cls:=o.cls,dict:=some s.heap.objs.size,data:=o.data,slots:=o.slots }).get? s.heap.objs.size=some { cls:=.type "dict", data:=.dict #[] }:=
  (Heap.get?_update_ne _ _ _ _ ne.symm).trans (Heap.get?_push_at rfl rfl)
 have hnd:((s.heap.push { cls:=.type "dict", data:=.dict #[] }).update x fun o=>{ cls:=o.cls,dict:=some s.heap.objs.size,data:=o.data,slots:=o.slots }).Ns s.heap.objs.size (fun _=>none):=
  ⟨_,#[],_,hgd,rfl,(fun e he=>absurd he (by simp)),fun _=>rfl⟩
 have hxd:((s.heap.push { cls:=.type "dict", data:=.dict #[] }).update x fun o=>{ cls:=o.cls,dict:=some s.heap.objs.size,data:=o.data,slots:=o.slots }).get? x=some { cls:=.ref C,dict:=some s.heap.objs.size,data:=.fields vs }:=Heap.get?_update_self _ hx1 rfl
 refine wpAny_bind (wpAny_pure (wpAny_bind ?_))
 refine wpAny_nsSet1 (Heap.Ns1.of_empty hnd) fun h' hn2 hs2=>?_
 obtain ⟨oD,esD,epD,hoD,hdD,hcD⟩:=hn2.count (Within.cons name v Within.nil)
 refine wpAny_bind (wpAny_lookBehind hoD (by rw [hdD];exact pastItsLine_dict (le_trans hcD (by rw [List.length_cons,List.length_nil,sizeLine_eq];omega))) ?_)
 exact wpAny_pure (go h' _ (fun b o hb e=>(hs2.2 b (ne_of_lt (Heap.lt_size e))).trans ((Heap.get?_update_ne _ _ _ _ hb).trans (Heap.get?_push_of_some _ e))) ((hs2.2 x ne).trans hxd) hn2)
end
section
open PySem.W PySem.Calls Builtin Builtin.ObjectAttr
variable {K : Frag} {x C dx : Addr} {prog : Program} {w : World} {A : Around} {E : Value -> Shared -> Prop} {s : Shared}
theorem zMG {z:Str} {v:Value} {mA:Str->Option Value} {b:Bool} {Q:Value->Shared->Prop} (X:K.In s.heap) (hx:s.heap.get? x=some { cls:=.ref C,dict:=some dx,data:=.fields vs }) (hns:s.heap.Ns1 dx mA) (c:ExcB K C)
  (na:findIn K (.ref C) z=some none) (hv:mA z=some v) (hh:handedIn v=true) (q:Q v { s with toks:=s.toks+1 }):wpAny (model prog w) A (getAttr (.ref x) z b) Q E s:=by
 obtain ⟨od,hod,hl⟩:=Jo hns
 have J:InstAt s.heap x { cls:=.ref C,dict:=some dx,data:=.fields vs } C (some od):=⟨hx,rfl,rfl,hod⟩
 have e:V2 x C s.heap:=⟨_,hx,rfl,_,rfl⟩
 have T2:=looks_find (M:=model prog w) X J (findObj_own c.hd na rfl (by rw [hl,hv]))
 obtain ⟨hp,gn,dw,tk,os⟩:=s
 have T0:=e.ty (M:=model prog w)
 have T1:=looks_findIn (M:=model prog w) X c.h1
 have T3:=looks_findIn (M:=model prog w) X c.h2
 have B0:=PySem.F.attrBase_ValueError.ga.bind (.ref x)
 unfold getAttr getAttrBy
 refine wpAny_bind (wpAny_mkText (wpAny_holding (wpAny_bind (T0.at (wpAny_bind (T1.at ?_))))))
 show wpAny _ _ (getAttrByItsOwn (.ref x) (.str z tk) (.ref C) (.builtin "BaseException.__getattribute__") true b) _ _ _
 unfold getAttrByItsOwn
 refine wpAny_bind ((show Looks (model prog w) hp (hookBefore (.ref C)) none from T3).at ?_)
 unfold callGetattribute
 rw [show (b && onTheHeap (Value.builtin "BaseException.__getattribute__"))=false from by cases b <;> rfl,if_neg (by decide)]
 unfold boundAndCalled
 rw [B0]
 have go : ∀ A',wpAny (model prog w) A' (Builtin.«object.__getattribute__» ⟨[.ref x,.str z tk],[]⟩) (fun fin s'=>match fin with | .done (.ret u)=>u=v/\s'=⟨hp,gn,dw,tk+1,os⟩ | _=>False) (fun _ _=>False) ⟨hp,gn,dw,tk+1,os⟩:=fun A'=>by
  unfold Builtin.«object.__getattribute__»
  refine wpAny_bind (wpAny_pure (wpAny_bind (wpAny_pure (wpAny_bind (T0.at (wpAny_bind (T2.at ?_)))))))
  exact wpAny_pure ⟨rfl,rfl⟩
 refine wpAny_bind (wpAny_attempt (wpAny_holding (wpAny_bind (wpAny_pure (wpAny_call (zCW X e c ?_ go))))))
 show wpAny _ _ (handedOut v) _ _ _
 rw [handedOut_of hh]
 exact wpAny_pure q
end
set_option exponentiation.threshold 2000
def tFs (ta:TE):TE:=fun σ H Q=>ta σ H fun x H1=>∃ i:Int,x = .int i/\0<=i/\i < 1000000 /\ ∀ z,Q (.str z) H1
theorem zCd (h0:0<=i) (h1:i < 1000000):i.natAbs.log2 < 1920:=by
 rcases Nat.eq_zero_or_pos i.natAbs with z | z
 ·rw [z];decide
 ·exact lt_of_lt_of_le ((Nat.log2_lt (Nat.ne_of_gt z)).mpr (show i.natAbs < 2 ^ 20 by omega)) (by decide)
theorem zCT (h0:0<=i) (h1:i < 1000000):(Str.ofString (toString i)).length<=7:=by
 have e:=int_text_length_le10 (k:=6) (by decide) (show i.natAbs < 10 ^ 6 by omega)
 rw [PySem.ofString_length];exact e
section
variable {X : Cx} {e : Expr} {a b : Str} {k k' : Nat} {p1 p2 p3 pos : Pos} {ta : TE}
theorem zH0 {s:Shared} {out:Str} (I:Inv X pins σ H s) (hb:b.length<=1000) (ho:out.length<=2000) (q : ∀ z,Q (.str z) H) :
  wpAny (model X.prog X.w) X.A (joinParts out [eval (.Constant (.str b) k' p3) X.env]) (EP X pins σ Q) X.xe s:=by
 refine joinParts_cons (Calls.Constant_str ⟨le_trans (show (out++b).length<=16777216 by rw [Str.length_append];omega) (by decide),joinParts_nil ⟨.str _,H,(I.tok _).tok _,⟨_,rfl⟩,q _⟩ (le_trans (show (out++b).length<=16777216 by rw [Str.length_append];omega) (by decide))⟩)
theorem zIj (he:PE X e ta) (ha:a.length<=1000) (hb:b.length<=1000):PE X (.JoinedStr [.Constant (.str a) k p1,.FormattedValue e (-1) none p2,.Constant (.str b) k' p3] pos) (tFs ta):=by
 intro pins s σ H Q I h
 refine JoinedStr_many (joinParts_cons (Calls.Constant_str ⟨le_trans (show (Str.empty++a).length<=16777216 by rw [Str.length_append];show 0+_<=_;omega) (by decide),joinParts_cons (FormattedValue_plain (thn (he pins _ σ H _ (I.tok _) h) fun u s1 zq=>?_))⟩))
 obtain ⟨x,H1,I1,rx,i,ex,h0,h1,q⟩:=zq
 subst ex
 obtain ⟨t,rfl⟩:=(show ∃ t,u=Value.int i t from rx)
 have sh:=zCT h0 h1
 have l0:(Str.empty++a).length<=1000:=by rw [Str.length_append];show 0+_<=_;omega
 exact formatField_int_small (zCd h0 h1) ⟨le_trans (show ((Str.empty++a)++Str.ofString (toString i)).length<=16777216 by rw [Str.length_append];omega) (by decide),zH0 ((I1.tok _).tok _) hb (by rw [Str.length_append];omega) q⟩
end
def zH6 (P:Program) (w:World) (K:W.Frag) (mg:Str->Option Value) (base:Heap) (CX:CXT) (C:Addr) (k:Nat) (ps:List Str) (sp:Sp):Prop:=∃ f fd,xx P w K mg base CX k f fd ps sp/\zLK K C f/\jx K fd ps []
def Fl (H:Hp) (x C:Addr) (z:Str) (v:V):Prop:=∃ dx fs,H x=some (.ext (ExD x C dx))/\H dx=some (.ext (XD dx fs))/\fs.lookup z=some v
variable {z:Str}
theorem Fl.same {H':Hp} {x:Addr} (g:zc H H') (h:Fl H x C z v):Fl H' x C z v:=let ⟨d,fs,a,b,c⟩:=h;⟨d,fs,g _ _ a,g _ _ b,c⟩
section
variable {σ : St} {H : Hp} {Q : VK} {D : Z9} {K : W.Frag} {C x : Addr} {z : Str} {sp : Sp} {E : XK} {ta tv : TE} {t : TA}
def kFs (Q:VK):VK:=fun x H1=>∃ i:Int,x = .int i/\0<=i/\i < 1000000 /\ ∀ z,Q (.str z) H1
theorem zKh (h:ta σ H (kFs Q)):tFs ta σ H Q:=h
end
inductive El (H:Hp):V->PyData->Prop
 | int (i:Int):El H (.int i) (.int i)
 | str {z:Str} (ok:PyData.strOk z=true):El H (.str z) (.str z)
 | tup {t:Addr} {n:Int} (e:H t=some (.tup [.int n,.int 7])):El H (.ref t) (.tuple [.int n,.int 7])
inductive Els (H:Hp):List V->List PyData->Prop
 | nil:Els H [] []
 | cons {x:V} {d:PyData} {xs:List V} {ds:List PyData}:El H x d->Els H xs ds->Els H (x::xs) (d::ds)
section
variable {K : W.Frag} {H H' : Hp}
theorem El.keep (g : ∀ b xs,H b=some (.tup xs)->H' b=some (.tup xs)) {x:V} {d:PyData} (h:El H x d):El H' x d:=by
 cases h with
 | int i=>exact .int i
 | str ok=>exact .str ok
 | tup e=>exact .tup (g _ _ e)
theorem Els.keep (g : ∀ b xs,H b=some (.tup xs)->H' b=some (.tup xs)) : ∀ {xs:List V} {ds:List PyData},Els H xs ds->Els H' xs ds
 | _,_,.nil=>.nil
 | _,_,.cons a t=>.cons (a.keep g) (t.keep g)
theorem Els.same (g:zc H H') {xs:List V} {ds:List PyData} (h:Els H xs ds):Els H' xs ds:=h.keep fun b xs e=>g _ _ e
theorem Els.snoc {y:V} {e:PyData} (hy:El H y e) : ∀ {xs:List V} {ds:List PyData},Els H xs ds->Els H (xs++[y]) (ds++[e])
 | _,_,.nil=>.cons hy .nil
 | _,_,.cons a t=>.cons a (t.snoc hy)
theorem El.dt {x:V} {d:PyData} (h:El H x d):Dt K H x d/\d.canLay0=true/\d.depth<=3:=by
 cases h with
 | int i=>exact ⟨.int i,by simp [PyData.canLay0],by simp [PyData.depth]⟩
 | str ok=>exact ⟨.str _,by simp [PyData.canLay0,ok],by simp [PyData.depth]⟩
 | tup e=>exact ⟨.tup (SqT.of e) (.cons (.int _) (.cons (.int _) .nil)),by simp [PyData.canLay0,PyData.canLayAll0],by simp [PyData.depth,PyData.depthAll]⟩
theorem Els.dts : ∀ {xs:List V} {ds:List PyData},Els H xs ds->Dts K H xs ds/\PyData.canLayAll0 ds=true/\PyData.depthAll ds<=3
 | _,_,.nil=>⟨.nil,by simp [PyData.canLayAll0],by simp [PyData.depthAll]⟩
 | _,_,.cons a t=>by
  obtain ⟨a1,a2,a3⟩:=a.dt (K:=K)
  obtain ⟨t1,t2,t3⟩:=t.dts
  exact ⟨.cons a1 t1,by simp [PyData.canLayAll0,a2,t2],by simp only [PyData.depthAll];omega⟩
theorem Els.list {p:Addr} {xs:List V} {ds:List PyData} (h:Els H xs ds) (e:H p=some (.lst xs)):Dt K H (.ref p) (.list ds)/\(PyData.list ds).canLay0=true/\(PyData.list ds).depth<=20:=by
 obtain ⟨a,b,c⟩:=h.dts (K:=K)
 exact ⟨.lst (SqL.of e) a,by simp [PyData.canLay0,b],by simp only [PyData.depth];omega⟩
end
def CD (C:Addr) (od:Option Addr) (h:Heap) (e:Addr):Prop:=∃ vs:Array Value,h.get? e=some { cls:=.ref C,dict:=od,data:=.fields vs }/\vs[2]? = some .none
section
variable {M : Model} {A : Around} {E : Value -> Shared -> Prop} {s : Shared} {base : Heap} {env : Env} {outer : List Env} {L e C : Addr} {od : Option Addr} {Q : Unit -> Shared -> Prop}
theorem zEp {head:Value} {hadNext:Bool} (fr:A.frames=some (env::outer)) (FF:s.heap.FunFrames base (env::outer)) (ef:env.frame=some L) (a1:s.heap.get? e=some { cls:=.ref C,dict:=od,data:=.fields vs })
  (a2:base.StaysIn s.heap) (a3:base.get? e=none) (a5:1 < vs.size) (a6:vs[0]? = some a0) (a7:vs[2]? = some .none)
  (k : ∀ h',Heap.NotedW base (env::outer) e (.ref C) a0 (rawInt L) s.heap h'->CD C od h' e->Q () { s with heap:=h' }) :
  wpAny M A (do let a <- frameOf env;let pl <- entryPlaceOf L hadNext;let b <- EntryCells.newEntry head a .none (rawInt L) .none pl;setField (.ref e) 1 b) Q E s:=by
 have nf:e ∉ (env::outer).filterMap (·.frame):=fun m=>by
  obtain ⟨_,o,q,n⟩:=FF.mem m
  exact yy a1 rfl q n rfl
 refine wpAny_bind (wpAny_frameOf_fun fr FF ef fun g sg=>wpAny_bind (wpAny_entryPlaceOf fun pl ip=>?_))
 unfold EntryCells.newEntry newFields
 have g1:=(sg.2.1 e nf).trans a1
 refine wpAny_bind (wpAny_newObj_type (wpAny_setField (Heap.get?_push_of_some _ g1) rfl a5 ?_) (ip.sizeOk5 _ _ _ _ _))
 have nh:=Wy (ob:={ cls:=.type "traceback", dict:=none,data:=.fields ([head,.ref L,.none,rawInt L,.none]++(if pl.isEmpty then List.replicate 6 Value.none else pl)).toArray }) FF sg a1 a2 a3 rfl a5 a6 a7 rfl (fl:=rawInt L) (by simp)
 refine k _ nh.1 ⟨_,Heap.get?_update_self _ (Heap.get?_push_of_some _ g1) rfl,?_⟩
 rw [Array.getElem?_setIfInBounds_ne (by decide)];exact a7
theorem Ka {fl:Value} (a2:base.StaysIn s.heap) (FF:s.heap.FunFrames base l) (tr:s.heap.TracedAtW base e (.ref C) a0 fl) (c2:CD C od s.heap e)
  (k : ∀ h',base.StaysIn h'->h'.FunFrames base l->h'.TracedW base e (.ref C) a0->CD C od h' e->s.heap.UpToSlots h'->Q () { s with heap:=h' }):wpAny M A (setFlight (.ref e) none) Q E s:=by
 obtain ⟨oe,vs,t,ot,ts,q1,q2,q3,q4,q5,q6,q7,q8,q9⟩:=tr
 obtain ⟨us,c1,c4⟩:=c2
 unfold setFlight
 refine wpAny_bind (wpAny_field q1 q3 q4 ?_)
 have nn:(Value.ref t != Value.none)=true:=by simp
 rw [if_pos nn]
 have lt3:=(Array.getElem?_eq_some_iff.mp q9).1
 have ot' : ∀ {b:Addr},b≠t->(s.heap.update t (Obj.mapFields (·.setIfInBounds 3 ((none:Option Addr).elim Value.none fun f=>rawInt f)))).get? b=s.heap.get? b:=fun {b} n=>Heap.get?_update_other _ _ (Ne.symm n)
 have df:=Obj.data_mapFields q8 (·.setIfInBounds 3 ((none:Option Addr).elim Value.none fun f=>rawInt f))
 refine wpAny_setField q7 q8 lt3 (k _ (fun b o q=>(ot' fun z=>by rw [z,q5] at q;cases q).trans (a2 b o q)) (FF.of_keeps fun b o q n=>⟨o,(ot' (yy q7 q8 q n)).trans q,rfl⟩)
  ⟨oe,vs,t,_,_,(ot' (Ne.symm q6)).trans q1,q2,q3,q4,q5,q6,Heap.get?_update_self _ q7 (Obj.isFreed_of_fields df),df,?_⟩ ⟨us,(ot' (Ne.symm q6)).trans c1,c4⟩ fun b o q n=>⟨o.slots,(ot' (yy q7 q8 q n)).trans q⟩)
 rw [Array.getElem?_setIfInBounds_self_of_lt lt3];rfl
theorem zF6 {b3 b4 b5:Value} (fr:A.frames=some (env::outer)) (ef:env.frame=some L) (a1:s.heap.get? e=some { cls:=.ref C,dict:=od,data:=.fields #[a0,.none,.none,b3,b4,b5] }) (a2:base.StaysIn s.heap) (FF:s.heap.FunFrames base (env::outer)) (a3:base.get? e=none)
  (k : ∀ h',Heap.FlyingW base outer e (.ref C) a0 h'->CD C od h' e->s.heap.UpToSlots h'->Q () { s with heap:=h' }):wpAny M A (leaving env (.ref e)) Q E s:=by
 unfold leaving noteFrame
 simp only [ef]
 refine wpAny_bind (wpAny_bind (wpAny_field a1 rfl (x:=.none) rfl ?_))
 have nn : ¬ ((Value.none != Value.none)=true):=by decide
 rw [if_neg nn]
 refine zEp fr FF ef a1 a2 a3 (by show 1 < 6;decide) (a0:=a0) rfl rfl fun h1 nd c1=>?_
 obtain ⟨n1,n2,n3,n4⟩:=nd
 exact Ka (s:={ s with heap:=h1 }) n1 n2 n3 c1 fun h2 w1 w2 w3 w4 w5=>k h2 ⟨w1,a3,w2.2.2,w3⟩ w4 (Heap.UpToSlots.trans (h₂:=h1) n4 w5)
theorem zEz (fr:A.frames=some (env::outer)) (ef:env.frame=some L) (fly:Heap.FlyingW base (env::outer) e (.ref C) a0 s.heap) (c2:CD C od s.heap e)
  (k : ∀ h',Heap.HeldW base (env::outer) e (.ref C) a0 L h'->CD C od h' e->s.heap.UpToSlots h'->Q () { s with heap:=h' }):wpAny M A (noteFrame (.ref e) env) Q E s:=by
 obtain ⟨f1,f2,f3,oe,vs,t,ot,ts,q1,⟨q2,q2'⟩,q3,q4,q5,q6,q7,q8,q9⟩:=fly
 obtain ⟨us,c1,c4⟩:=c2
 rw [c1] at q1
 cases q1
 cases q3
 unfold noteFrame
 simp only [ef]
 refine wpAny_bind (wpAny_field c1 rfl q4 ?_)
 have nn:(Value.ref t != Value.none)=true:=by simp
 have n3 : ¬ ((Value.none == rawInt L)=true):=by simp [rawInt]
 rw [if_pos nn]
 refine wpAny_bind (wpAny_field q7 q8 q9 ?_)
 rw [if_neg n3]
 have ot' : ∀ {b:Addr},b≠t->(s.heap.update t (Obj.mapFields (·.setIfInBounds 3 Value.none))).get? b=s.heap.get? b:=fun {b} n=>Heap.get?_update_other _ _ (Ne.symm n)
 refine wpAny_bind (wpAny_setField q7 q8 (Array.getElem?_eq_some_iff.mp q9).1 ?_)
 refine zEp fr (f3.of_keeps fun b o q n=>⟨o,(ot' (yy q7 q8 q n)).trans q,rfl⟩) ef ((ot' (Ne.symm q6)).trans c1) (fun b o q=>(ot' fun z=>by rw [z,q5] at q;cases q).trans (f1 b o q)) f2 (Array.getElem?_eq_some_iff.mp q4).1 q2' c4 fun h1 nd cc=>?_
 exact k h1 ⟨nd.1,f2,nd.2.1,nd.2.2.1⟩ cc fun b o q n=>nd.2.2.2 b o ((ot' (yy q7 q8 q n)).trans q) n
theorem zEn (hd:Heap.HeldW base l e (.ref C) a0 L s.heap) (c2:CD C od s.heap e)
  (k : ∀ h',Heap.FlyingW base l e (.ref C) a0 h'->CD C od h' e->s.heap.UpToSlots h'->Q () { s with heap:=h' }):wpAny M A (setFlight (.ref e) none) Q E s:=
 Ka hd.1 hd.2.2.1 hd.2.2.2 c2 fun h' w1 w2 w3 w4 w5=>k h' ⟨w1,hd.2.1,w2,w3⟩ w4 w5
theorem zGm (fl:Heap.FlyingW base l e (.ref C) a0 s.heap) (c2:CD C od s.heap e)
  (k : ∀ h',Heap.FlyingW base l e (.ref C) a0 h'->CD C od h' e->s.heap.UpToSlots h'->Q () { s with heap:=h' }):wpAny M A (setFlight (.ref e) none) Q E s:=
 Ka fl.1 fl.2.2.1 fl.2.2.2.at c2 fun h' w1 w2 w3 w4 w5=>k h' ⟨w1,fl.2.1,w2,w3⟩ w4 w5
end
def unt (H:Hp) (x:Addr):Hp:=fun b=>if b=x then none else H b
theorem WU {x:Addr}:unt H x x=none:=if_pos rfl
theorem QD {x b:Addr} (h:b≠x):unt H x b=H b:=if_neg h
def Xc (P:Program) (w:World):CXT:=fun outer H s E e s'=>∃ (x C:Addr) (a0:Value) (H':Hp) (B:Heap) (od:Option Addr),e = .ref x/\s'.os=s.os/\AllBare s'.gens/\Heap.FlyingW B outer x (.ref C) a0 s'.heap/\CD C od s'.heap x /\
 (∀ h',B.StaysIn h'->s'.heap.UpToSlots h'->Un (frs outer) [] H H' s.heap h'/\HOk P w H' h')/\s.heap.get? x=none/\H' x=none/\E (.ref C) od H'
def WT (x C:Addr) (h:Heap):Prop:=∃ v0 b3 b4 b5:Value,h.get? x=some { cls:=.ref C,data:=.fields #[v0,.none,.none,b3,b4,b5] }
def zAf (x C dx:Addr) (h:Heap):Prop:=dx≠x /\ ∃ v0 b3 b4 b5:Value,h.get? x=some { cls:=.ref C,dict:=some dx,data:=.fields #[v0,.none,.none,b3,b4,b5] }
def ExQ (x C dx:Addr) (h:Heap):Prop:=∃ vs:Array Value,h.get? x=some { cls:=.ref C,dict:=some dx,data:=.fields vs }
theorem WT.keep {x:Addr} : ∀ h1 h2:Heap,WT x C h1->(∀ o,h1.get? x=some o->h2.get? x=some o)->WT x C h2:=fun _ _ ⟨_,_,_,_,z⟩ k=>⟨_,_,_,_,k _ z⟩
theorem zAf.keep {x:Addr} : ∀ h1 h2:Heap,zAf x C dx h1->(∀ o,h1.get? x=some o->h2.get? x=some o)->zAf x C dx h2:=fun _ _ ⟨n,_,_,_,_,z⟩ k=>⟨n,_,_,_,_,k _ z⟩
theorem ExQ.keep {x:Addr} : ∀ h1 h2:Heap,ExQ x C dx h1->(∀ o,h1.get? x=some o->h2.get? x=some o)->ExQ x C dx h2:=fun _ _ ⟨_,z⟩ k=>⟨_,k _ z⟩
section
variable {P : Program} {w : World} {K : W.Frag} {mg : Str -> Option Value} {base : Heap} {N : List Str} {qual : Str} {scope : Scope} {f : Addr} {cd : Value} {A : Around} {outer : List Env} {s : Shared} {H : Hp} {E : XK}
theorem zCV {H1:Hp} {s1:Shared} {x:Addr}
  (I:Inv (QX (Xc P w) P w K mg base N qual scope f cd A outer s H E) pins σ H1 s1) (hx:H1 x=some (.ext (zAf x C dx))) (h0:H x=none) (q:E (.ref C) (some dx) (unt H1 x)) :
  (QX (Xc P w) P w K mg base N qual scope f cd A outer s H E).xe (.ref x) s1:=by
 have ne : ∀ {b:Addr} {o:HO},H1 b=some o->(∀ φ,o ≠ .ext φ)->b≠x:=fun {b o} e n z=>by
  rw [z,hx] at e;cases e;exact n _ rfl
 obtain ⟨nd,v0,b3,b4,b5,ex⟩:=(I.hok x _ hx).1
 have nw:s.heap.get? x=none:=by
  cases z:s.heap.get? x with
  | none=>rfl
  | some o=>have:=I.base.free x o z h0 (fun h=>nomatch h);rw [hx] at this;cases this
 have hst : ∀ b ∈ frs (envOfC qual scope s.heap.objs.size f cd::outer),H1 b=none:=I.stkFree
 have FF0:s1.heap.FunFrames base (envOfC qual scope s.heap.objs.size f cd::outer):=I.stack
 have FF:s1.heap.FunFrames (W.hideAll s1.heap (x::frs (envOfC qual scope s.heap.objs.size f cd::outer))) (envOfC qual scope s.heap.objs.size f cd::outer):=
  W.funFrames_hide FF0 fun env he b hb=>mem_cons_of_mem _ (List.mem_filterMap.mpr ⟨env,he,hb⟩)
 refine zF6 (s:=s1) (base:=W.hideAll s1.heap (x::frs (envOfC qual scope s.heap.objs.size f cd::outer))) I.ok.frames rfl ex (fun b o e=>W.of_hideAll _ e) FF (W.hideAll_none _ (mem_cons_self ..)) fun h2 f1 f2 f4=>?_
 refine ⟨x,C,_,unt H1 x,_,some dx,rfl,I.os,I.bare,f1,f2,fun h3 st sm=>?_,nw,WU,q⟩
 have old : ∀ b o,s.heap.get? b=some o->b≠s.heap.objs.size:=fun b o e=>ne_of_lt (Heap.lt_size e)
 have nx : ∀ b o,s.heap.get? b=some o->b≠x:=fun b o e z=>by rw [z,nw] at e;cases e
 have sub : ∀ b,b ∈ frs (envOfC qual scope s.heap.objs.size f cd::outer)->b=s.heap.objs.size\/b ∈ frs outer:=fun b hb=>List.mem_cons.mp (I.stkSub b hb)
 have here : ∀ b o,s1.heap.get? b=some o->b ∉ frs (envOfC qual scope s.heap.objs.size f cd::outer)->b≠x->h3.get? b=some o:=fun b o e n m=>st b o (W.hideAll_get _ e fun z=>(List.mem_cons.mp z).elim m n)
 have fram : ∀ b o,s1.heap.get? b=some o->b ∈ frs (envOfC qual scope s.heap.objs.size f cd::outer) -> ∃ sl,h3.get? b=some { o with slots:=sl }:=fun b o e m=>by
  obtain ⟨_,o',e',nf⟩:=FF0.mem m
  have z:o'=o:=Option.some.inj (e'.symm.trans e)
  subst z
  obtain ⟨sl,e2⟩:=f4 b o' e nf
  obtain ⟨sl',e3⟩:=sm b _ e2 nf
  exact ⟨sl',e3⟩
 refine ⟨⟨fun b o e n hb hx'=>?_,fun b o e n hb hx'=>?_,fun b o e n hx'=>?_,fun b o e hx'=>?_,fun b xs e=>?_,fun b o u e=>?_,fun b ps e=>?_⟩,fun a u e=>?_⟩
 ·exact here b o (I.base.keep b o e n hb hx') (fun z=>(sub b z).elim (old b o e) hb) (nx b o e)
 ·obtain ⟨sl,e1⟩:=I.base.slot b o e n hb hx'
  have mem:b ∈ frs (envOfC qual scope s.heap.objs.size f cd::outer):=by
   show b ∈ List.filterMap _ _
   rw [List.filterMap_cons]
   exact mem_cons_of_mem _ hb
  obtain ⟨sl',e2⟩:=fram b _ e1 mem
  exact ⟨sl',e2⟩
 ·rw [QD (nx b o e)];exact I.base.free b o e n hx'
 ·obtain ⟨o',e1⟩:=I.base.there b o e hx'
  by_cases mem:b ∈ frs (envOfC qual scope s.heap.objs.size f cd::outer)
  ·obtain ⟨sl,e2⟩:=fram b o' e1 mem
   exact ⟨_,e2⟩
  ·exact ⟨o',here b o' e1 mem (nx b o e)⟩
 ·have k:=I.base.tups b xs e
  rw [QD (ne k fun φ z=>nomatch z)];exact k
 ·have k:=I.base.frzs b o u e
  rw [QD (ne k fun φ z=>nomatch z)];exact k
 ·obtain ⟨m,k⟩:=I.base.tbls b ps e
  exact ⟨m,by rw [QD (ne k fun φ z=>nomatch z)];exact k⟩
 ·have ax:a≠x:=fun z=>by rw [z,WU] at e;cases e
  rw [QD ax] at e
  refine (I.hok a u e).stay (fun b ob hb eb=>here b ob eb (fun z=>?_) ?_) (fun b z=>?_) (fun b xs z=>?_)
  ·have:=hst b z
   rcases hb with rfl | hb
   ·rw [e] at this;cases this
   ·rw [hb] at this;cases this
  ·rcases hb with rfl | hb
   ·exact ax
   ·exact ne hb fun φ z=>nomatch z
  ·rw [QD (ne z fun φ z=>nomatch z)];exact z
  ·rw [QD (ne z fun φ z=>nomatch z)];exact z
end
def zEi (X:Cx) (E:XK):Prop:=∀ (pins:List (Addr × Obj)) (σ:St) (H:Hp) (s:Shared) (x C dx:Addr),Inv X pins σ H s->H x=some (.ext (zAf x C dx))->X.H₀ x=none->E (.ref C) (some dx) (unt H x)->X.xe (.ref x) s
def zKD (C:Addr) (sp:Sp) (E:XK) (Q:VK):List V->Hp->Prop:=fun vs H1=>vs.length<=1000 /\ ∀ y,H1 y=none->sp (.ref y::(vs++[])) (upd H1 y (.ext (WT y C))) (fun v H2=>v = .non/\Q (.ref y) H2) E
def zEf (C:Addr) (sp:Sp) (E:XK) (t:TA):TE:=fun σ H Q=>t σ H (zKD C sp E Q)
section
variable {X : Cx} {CX : CXT} {k n : Nat} {f C : Addr} {fd : FuncData} {ps : List Str} {sp : Sp} {E : XK} {x : Str} {p pos : Pos} {e : Expr} {es : List Expr} {t : TA}
theorem zBs {s:Shared} {us:List Value} {vs:List V} (M:zLK X.K C f) (F:xx X.prog X.w X.K X.mg X.base CX k f fd ps sp) (hr:j5 (k+1) X.A) (hb:jx X.K fd ps [])
  (hx:jW CX X E) (I:Inv X pins σ H s) (r:qM vs us) (hq0:zKD C sp E Q vs H) :
  wpAny (model X.prog X.w) X.A (call (.ref C) us) (EP X pins σ Q) X.xe s:=by
 obtain ⟨hl,h⟩:=hq0
 obtain ⟨tl,N,nm,q',bs,hdct,sn,sub,ab,col,dd,k0,k1,k2,k3,k5,mN,hC,hN,hi,T⟩:=Yv I.kIn M.ex
 have fo : ∃ of:Obj,s.heap.get? f=some of/\of.cls = .type "function" := by
  have z:=beq_iff_eq.mp M.fn
  unfold W.typeIn at z
  dsimp only at z
  cases lk:X.K.lookup f with
  | none=>rw [lk] at z;cases z
  | some o=>rw [lk] at z;exact ⟨o,I.kIn f _ lk,by simpa using z⟩
 obtain ⟨of,hf,hfc⟩:=fo
 refine zAB PySem.F.excBase_ValueError T hC hN hi hf hfc (fun h' y hm=>?_) (by rw [<- r.length];exact qz hl)
 obtain ⟨t0,e1,e2,e3⟩:=hm.there
 obtain ⟨fr,I2⟩:=I.laidN (a:=y) (o:=.ext (WT y C)) (t':=s.toks) hm.keeps hm.new (Yd ⟨_,_,_,_,e1⟩ ⟨_,e1⟩ WT.keep)
 have hq:=h y fr
 have r2:qM (V.ref y::(vs++[])) (Value.ref y::(us++[])):=.cons rfl (r.append .nil)
 have hl2:(Value.ref y::us++[]).length=ps.length:=by
  have e:=r2.length
  rw [F.len _ _ _ _ hq] at e
  exact e.symm
 refine wpAny_call (codeAny_mono (F.run _ X.stack _ _ ⟨Value.ref y::us,[]⟩ (Value.ref y::(us++[])) _ _ E (hr.make C us []) (I2.env0.make C us []) (by rw [<- cons_append];exact hb _ (Value.ref y::us) I2.kIn hl2) r2 hq) fun r s' hq'=>?_)
 cases r with
 | error e=>exact hx pins σ _ _ e s' I2 hq'
 | ok fl =>
  cases fl with
  | ret u =>
   obtain ⟨v,H',I3,rv,ev,q3⟩:=I2.after hq'
   subst ev
   exact ⟨rv,⟨V.ref y,H',I3,rfl,q3⟩⟩
  | next=>exact False.elim hq'
  | brk=>exact False.elim hq'
  | cont=>exact False.elim hq'
theorem QG (F:zH6 X.prog X.w X.K X.mg X.base CX C k ps sp) (hx:jW CX X E) (hr:j5 n X.A) (hg:Gl X x) (hm:X.mg x=some (.ref C)) (ha:PA X (e::es) t) (hk:k+1<=n:=by decide)
  (hdb:(x == ("__debug__" : Str))=false:=by decide) (he:starEach (e::es) X.env=(false,eval e X.env)::starEach es X.env:=by rfl) (hpl:(backTo pos (starEach es X.env)).any (·.1)=false:=by rfl) :
  PE X (.Call (.Name x p) (e::es) [] pos) (zEf C sp E t):=by
 obtain ⟨f,fd,G,M,b⟩:=F
 intro pins s σ H Q I h
 refine wpAny_Call_Name_kw (jr I hg hm ?_ hdb)
 exact W.callWith_K (h₀:=X.base) I.ok.mod.kin M.kp (thn (ha pos pins s σ H _ I h) fun us s1 zq=>by
  obtain ⟨vs,H1,I1,r,q⟩:=zq
  exact ⟨I1.kIn,zBs M G (hr.mono hk) b hx I1 r q⟩) he hpl
end
def Kq (K:W.Frag) (Q:VK):List V->Hp->Prop:=fun vs H1=>∃ y C f u,vs=[.ref y,u]/\H1 y=some (.ext (WT y C))/\QA K C f=true/\Q .non H1
def zEk (K:W.Frag) (t:TA):TE:=fun σ H Q=>t σ H (Kq K Q)
section
variable {X : Cx} {x : Str} {P : Addr} {np apos pos : Pos} {e : Expr} {es : List Expr} {t : TA}
theorem zBU {s:Shared} {us:List Value} {vs:List V} (I:Inv X pins σ H s) (r:qM vs us) (h:Kq X.K Q vs H) :
  wpAny (model X.prog X.w) X.A (call (.builtin "ValueError.__init__") us) (EP X pins σ Q) X.xe s:=by
 obtain ⟨y,C,f,u,rfl,hy,ex,q⟩:=h
 obtain ⟨v1,v2,rfl,r1,r2⟩:=Y1 r
 cases r1
 obtain ⟨w0,w3,w4,w5,ho⟩:=(I.hok y _ hy).1
 obtain ⟨tl,N,nm,q',bs,hdct,sn,sub,ab,col,dd,k0,k1,k2,k3,k5,mN,hC,hN,hi,T⟩:=Yv I.kIn ex
 refine Yk PySem.F.excBase_ValueError T hC ho (qz (show 1<=1000 by decide)) fun h' kp zq=>?_
 obtain ⟨u0,hn⟩:=zq
 have I':=I.write (x:=y) (e:=y) (o:=.ext (WT y C)) (h':=h') (t':=s.toks) (by rw [hy];exact True.intro) (.inl rfl) (fun b o hb z=>kp b o hb z) ⟨_,hn⟩ (Yd ⟨_,_,_,_,hn⟩ ⟨_,hn⟩ WT.keep)
 rw [zIE hy] at I'
 exact ⟨.non,H,I',rfl,q⟩
theorem zDr {pl:Sem Bool} (M:PIni X.K P) (hg:Gl X x) (hm:X.mg x=some (.ref P)) (ha:PA X (e::es) t)
  (hdb:(x == ("__debug__" : Str))=false:=by decide) (hst:starEach (e::es) X.env=(false,eval e X.env)::starEach es X.env:=by rfl) (hpl:(backTo pos (starEach es X.env)).any (·.1)=false:=by rfl)
  (ht:eval (.Call (.Attribute (.Name x np) "__init__" apos) (e::es) [] pos) X.env=(do
   let ov <- eval (.Name x np) X.env
   standAt apos.atName
   let (f,first) <- holding [ov] (getMethod ov "__init__" pl)
   callWith pos f first (backTo pos (starEach (e::es) X.env)) (backToKw pos (keywordEach [] X.env))):=by rfl) :
  PE X (.Call (.Attribute (.Name x np) "__init__" apos) (e::es) [] pos) (zEk X.K t):=by
 intro pins s σ H Q I h
 refine W.methodCall_KW (pl:=pl) (jr I hg hm ?_ hdb) ht
 refine W.method_cls I.kIn M.sp (W.cls_value I.kIn M.rd M.fc rfl ?_)
 have I1:=I.tok (s.toks+1)
 exact PyProof.Rows.callWith_builtin1 (thn (ha pos pins _ σ H _ I1 h) fun us s2 zq=>by
  obtain ⟨vs,H2,I2,r,q2⟩:=zq
  exact zBU I2 r q2) hst hpl
end
def zK1 (K:W.Frag) (z:Str) (y:V) (D:Z9) (σ:St):VK:=fun x H2=>∃ a C f,x = .ref a/\H2 a=some (.ext (WT a C))/\ExF K C f z /\ ∀ d,H2 d=none->D.nx σ (upd (upd H2 d (.ext (XD d [(z,y)]))) a (.ext (zAf a C d)))
def zId (K:W.Frag) (ta tv:TE) (z:Str):TS:=fun D σ H=>tv σ H fun y H1=>ta σ H1 (zK1 K z y D σ)
section
variable {X : Cx} {pins : List (Addr × Obj)} {σ : St} {H : Hp} {s : Shared} {x dx C f : Addr} {fs : List (Str × V)} {z : Str} {v : V} {A : Around} {E : Value -> Shared -> Prop}
theorem zB6 {y:V} {u:Value} {Q:Unit->Shared->Prop} (I:Inv X pins σ H s) (e:H x=some (.ext (WT x C))) (c:ExF X.K C f z) (ry:jz y u)
  (h : ∀ d s',H d=none->Inv X pins σ (upd (upd H d (.ext (XD d [(z,y)]))) x (.ext (zAf x C d))) s'->Q () s'):wpAny (model X.prog X.w) A (setAttr (.ref x) z u) Q E s:=by
 obtain ⟨w0,w3,w4,w5,ho⟩:=(I.hok x _ e).1
 refine Wh I.kIn ho c fun h' t' kp hx' hns=>?_
 have ne:s.heap.objs.size≠x:=Nat.ne_of_gt (Heap.lt_size ho)
 have old:(h'.update x fun o=>{ cls:=o.cls,data:=o.data,slots:=o.slots }).get? x=some { cls:=.ref C,data:=.fields #[w0,.none,.none,w3,w4,w5] }:=Heap.get?_update_self _ hx' rfl
 have oth : ∀ b,b≠x->(h'.update x fun o=>{ cls:=o.cls,data:=o.data,slots:=o.slots }).get? b=h'.get? b:=fun b hb=>Heap.get?_update_ne _ _ _ _ hb
 have fr:=I.hok.fresh (Nat.le_refl s.heap.objs.size)
 obtain ⟨od,hod,_⟩:=Jo hns
 have I1:=I.laid (a:=s.heap.objs.size) (o:=.ext (XD s.heap.objs.size [(z,y)])) (t':=t') (h':=h'.update x fun o=>{ cls:=o.cls,data:=o.data,slots:=o.slots }) (fun b o hb=>by
  by_cases q:b=x
  ·subst q;rw [ho] at hb;cases hb;exact old
  ·rw [oth b q];exact kp b o q hb) (Nat.le_refl _) (Yd ⟨_,hns.at (fun o hb=>by rw [oth _ ne];exact hb),fun g=>?_,fun g hg=>?_⟩ ⟨od,by rw [oth _ ne];exact hod⟩ XD.keep)
 ·have I2:=I1.write (x:=x) (e:=x) (o:=.ext (zAf x C s.heap.objs.size)) (h':=h') (t':=t') (by rw [zf ne.symm,e];exact True.intro) (.inl rfl) (fun b o hb q=>by rw [<- oth b hb];exact q) ⟨_,hx'⟩ (Yd ⟨ne,_,_,_,_,hx'⟩ ⟨_,hx'⟩ zAf.keep)
  exact h _ _ fr I2
 ·show zAM (List.lookup g [(z,y)]) (if g=z then some u else none)
  by_cases q:g=z
  ·subst q;rw [if_pos rfl,yc];exact ry
  ·rw [if_neg q,qH q];exact True.intro
 ·by_cases q:g=z
  ·subst q;exact mem_cons_self ..
  ·exact absurd (show (if g=z then some u else none)=none by rw [if_neg q]) hg
end
section
variable {X : Cx} {o e value : Expr} {z : Str} {pos pos' : Pos} {ta tv : TE}
theorem zGU (ha:PE X o ta) (hv:PE X value tv) (hs:swapsWith value (some (.Attribute o z pos')) pos.line X.env=pure false):PS X (.Assign [.Attribute o z pos'] value pos) (zId X.K ta tv z):=by
 intro pins s σ H D I h
 refine plainObj_wpAny_Assign_Attribute (thn (hv pins s σ H _ I h) fun u s1 zq0=>?_) hs
 obtain ⟨y,H1,I1,ry,q⟩:=zq0
 refine thn (ha pins s1 σ H1 _ I1 q) fun ov s2 zq=>?_
 obtain ⟨x,H2,I2,rx,a,C,f,ex,e1,c,q2⟩:=zq
 subst ex
 obtain rfl:ov=Value.ref a:=rx
 exact zB6 I2 e1 c ry fun d s3 fr I3=>⟨σ,_,I3,q2 d fr⟩
end
section
variable {M : Model} {A : Around} {E : Value -> Shared -> Prop} {env : Env}
variable {nm q : Str} {C N : Addr} {bs bm : List Value} {hdct : Bool} {sn : List Str} {sub : List Value} {ab : Bool} {col : Option Bool} {dd : Option Addr} {k0 k1 k2 k3 k5 : Option Value} {newId : String}
theorem zHP {s:Shared} {x:Sem Value} {Q:Flow->Shared->Prop} (hh:A.handled=none)
  (h:wpAny M A x (fun v s₁=>∃ e od v0 b3 b4 b5 bm C nm q N bs hdct sn sub ab col dd k0 k1 k2 k3 k5 newId,v = .ref e/\bm.contains (.type "BaseException")=true/\s₁.heap.get? C=some (excClassObj nm q C N bs bm hdct sn sub ab col dd k0 k1 k2 k3 k5 newId) /\
   s₁.heap.get? e=some { cls:=.ref C,dict:=od,data:=.fields #[v0,.none,.none,b3,b4,b5] }/\E (.ref e) s₁) E s) :
  wpAny M A (raiseStmt env (some x) none) Q E s:=by
 unfold raiseStmt
 refine wpAny_bind (wpAny_mono h (fun v s₁ h₁=>?_) fun _ _ x=>x)
 obtain ⟨e,od,v0,b3,b4,b5,bm,C,nm,q,N,bs,hdct,sn,sub,ab,col,dd,k0,k1,k2,k3,k5,newId,rfl,hbase,hC,he,hE⟩:=h₁
 have hcB:(Value.ref C::bm).contains (.type "BaseException")=true:=by rw [List.contains_cons,hbase,Bool.or_true]
 obtain ⟨hp,g,d,tk,os⟩:=s₁
 repeat (first | with_reducible refine wpAny_loadPart_at he ?_ | with_reducible refine wpAny_loadPart_at hC ?_ | (with_reducible refine wpAny_isSubtype_exc hC ?_;rw [hcB]) | wp_step)
 exact wpAny_raiseNew_none hh hE
end
def KR (K:W.Frag) (H₀:Hp) (E:XK):VK:=fun v H2=>∃ y C f dx,v = .ref y/\QA K C f=true/\H2 y=some (.ext (zAf y C dx))/\H₀ y=none/\E (.ref C) (some dx) (unt H2 y)
def zCt (K:W.Frag) (H₀:Hp) (E:XK) (te:TE):TS:=fun _ σ H=>te σ H (KR K H₀ E)
theorem k8 {E:XK} {e:Expr} {te:TE} (td:zEi X E) (hc:X.calm=true) (he:PE X e te):PS X (.Raise (some e) none pos) (zCt X.K X.H₀ E te):=by
 intro pins s σ H D I h
 rw [arm_exec_Raise]
 refine wpAny_bind (wpAny_standAt (zHP (I.ok.hd hc) ?_))
 refine wpAny_bind (wpAny_mono (he pins s σ H _ I h) (fun v s1 zq=>wpAny_bind (wpAny_standAt (wpAny_pure ?_))) fun _ _ z=>z)
 obtain ⟨x,H2,I2,rx,y,C,f,dx,ex,ei,hy,h0,q⟩:=zq
 subst ex
 obtain rfl:v=Value.ref y:=rx
 obtain ⟨tl,N,nm,q',bs,hdct,sn,sub,ab,col,dd,k0,k1,k2,k3,k5,mN,hC,hN,hi,T⟩:=Yv I2.kIn ei
 obtain ⟨_,v0,b3,b4,b5,eo⟩:=(I2.hok y _ hy).1
 exact ⟨y,some dx,v0,b3,b4,b5,tl,C,nm,q',N,bs,hdct,sn,sub,ab,col,dd,k0,k1,k2,k3,k5,_,rfl,T.hasType PySem.F.excBase_ValueError.hasBase,hC,eo,td pins σ H2 s1 y C dx I2 hy h0 q⟩
def XP3 (X:Cx) (pins:List (Addr × Obj)) (σ:St) (E:XK) (e:Value) (s':Shared):Prop:=∃ H1 s1,Inv X pins σ H1 s1/\Xc X.prog X.w X.stack H1 s1 E e s'
def Cx.tr3 (X:Cx) (pins:List (Addr × Obj)) (σc:St) (E:XK):Cx:={ X with pn:=X.pn++pins,xe:=XP3 X pins σc E }
section
variable {X : Cx} {pins pins0 : List (Addr × Obj)} {σ σc : St} {H : Hp} {s : Shared} {E : XK}
theorem Cx.Ok.tr3 (ok:X.Ok):(X.tr3 pins σc E).Ok:=⟨ok.mod,ok.kind,ok.glob,ok.blt,ok.above,ok.inj,ok.has,ok.cab,ok.hd,ok.frames,ok.stk,ok.exf,ok.bs,ok.bsz,ok.noex,ok.exfs,ok.funs,ok.frf⟩
theorem Cx.Ok.untr3 (ok:(X.tr3 pins σc E).Ok):X.Ok:=⟨ok.mod,ok.kind,ok.glob,ok.blt,ok.above,ok.inj,ok.has,ok.cab,ok.hd,ok.frames,ok.stk,ok.exf,ok.bs,ok.bsz,ok.noex,ok.exfs,ok.funs,ok.frf⟩
theorem Inv.tr3 (I:Inv X pins σ H s):Inv (X.tr3 pins σc E) [] σ H s:=⟨I.ok.tr3,I.os,I.bare,I.base,I.loc,I.cell,I.free,I.freeC,fun p hp=>I.pin p (by simpa [Cx.tr3] using hp),I.hok,I.len⟩
theorem Inv.untr3 (I:Inv (X.tr3 pins0 σc E) pins σ H s):Inv X pins0 σ H s:=⟨I.ok.untr3,I.os,I.bare,I.base,I.loc,I.cell,I.free,I.freeC,fun p hp=>I.pin p (List.mem_append_left _ hp),I.hok,I.len⟩
theorem SP.untr3 {f:Flow} {s':Shared} (h:SP (X.tr3 pins0 σc E) pins D f s'):SP X pins0 D f s':=by
 cases f with
 | next=>obtain ⟨σ',H',I,q⟩:=h;exact ⟨σ',H',I.untr3,q⟩
 | brk=>obtain ⟨σ',H',I,q⟩:=h;exact ⟨σ',H',I.untr3,q⟩
 | cont=>obtain ⟨σ',H',I,q⟩:=h;exact ⟨σ',H',I.untr3,q⟩
 | ret u=>obtain ⟨v,σ',H',I,r,q⟩:=h;exact ⟨v,σ',H',I.untr3,r,q⟩
end
section
variable {X : Cx} {pins0 : List (Addr × Obj)} {σc : St} {k n : Nat} {C : Addr} {ps : List Str} {sp : Sp} {E : XK} {x m : Str} {p np pos apos : Pos} {e o : Expr} {es : List Expr} {ta : TE} {t : TA}
theorem zC5 {s:Shared} {us:List Value} {vs:List V} (F:xx X.prog X.w X.K X.mg X.base (Xc X.prog X.w) k f fd ps sp) (hr:j5 k X.A) (hb:jx X.K fd ps [])
  (I:Inv (X.tr3 pins0 σc E) pins σ H s) (r:qM vs us) (wk:Wk σc σ) (h:sp (vs++[]) H Q E):wpAny (model X.prog X.w) X.A (call (.ref f) us) (EP (X.tr3 pins0 σc E) pins σ Q) (X.tr3 pins0 σc E).xe s:=by
 have r2:qM (vs++[]) (us++[]):=r.append .nil
 have hl:(us++[]).length=ps.length:=by rw [<- r2.length];exact F.len _ _ _ _ h
 have e0:V0 X.prog X.w X.K X.mg X.base X.A X.stack s H:=I.env0
 refine wpAny_call (codeAny_mono (F.run X.A X.stack s H ⟨us,[]⟩ (us++[]) (vs++[]) Q E hr e0 (hb s us I.kIn hl) r2 h) fun r s' hq=>?_)
 cases r with
 | error e=>exact ⟨H,s,I.untr3.weak wk.1 wk.2,hq⟩
 | ok fl =>
  cases fl with
  | ret u=>exact I.after hq
  | next=>exact False.elim hq
  | brk=>exact False.elim hq
  | cont=>exact False.elim hq
end
def PH3 (X:Cx) (hs:List ExceptHandler) (th:Addr->Option Addr->TS):Prop:=
 ∀ (pins:List (Addr × Obj)) (s:Shared) (σ:St) (H:Hp) (D:Z9) (y C:Addr) (od:Option Addr) (B:Heap) (a0:Value),Heap.FlyingW B (X.env::X.outer) y (.ref C) a0 s.heap->CD C od s.heap y->Inv X pins σ H s ->
  (∀ h',B.StaysIn h'->s.heap.UpToSlots h'->Inv X pins σ H { s with heap:=h' })->H y=none->(y≠X.env.locals/\(∀ ob,X.s₀.heap.get? y≠some ob)/\(∀ x c,X.env.cells.lookup x=some c->c≠y) /\ ∀ p ∈ X.pn++pins,p.1≠y) ->
  th C od D σ H->wpAny (model X.prog X.w) X.A (handleBy (.ref y) X.env hs) (SP X pins D) X.xe s
def zLP (K:W.Frag) (C':Addr) (i:Nat) (ts:Addr->TS):Addr->Option Addr->TS:=fun C od D σ H=>∃ dx,od=some dx/\W.exmOne K (.ref C) (.ref C')=some true /\ ∀ y,H y=none->ts y { nx:=fun _ _=>False,rt:=D.rt } (σ.set i (some (.ref y))) (upd H y (.ext (ExQ y C dx)))
section
variable {X : Cx} {cx nx : Str} {i : Nat} {C' : Addr} {ts : TS} {ta : Addr -> TS} {th : Addr -> Option Addr -> TS} {np hpos pos : Pos} {b₀ : Stmt} {suite body : List Stmt} {yp hs : List ExceptHandler} {h₀ : ExceptHandler} {tb : St -> XK -> TS}
theorem zI6 (hgc:Gl X cx) (hmc:X.mg cx=some (.ref C')) (hN:X.N.Nodup) (hi:X.N[i]? = some nx) (hnx:X.env.scope.names.lookup nx=some .local) (hs : ∀ y,PSs (X.inExc y) (b₀::suite) (ta y)) (hdc:(cx == ("__debug__" : Str))=false:=by decide) :
  PH3 X (.ExceptHandler (some (.Name cx np)) (some nx) (b₀::suite) hpos::yp) (zLP X.K C' i ta):=by
 intro pins s σ H D y C od B a0 fly cd I clo hy0 nw h
 obtain ⟨dx,rfl,exm,q⟩:=h
 have hkn:X.env.kindOf nx=some .local:=hnx
 refine wpAny_handleBy_cons (codeAny_handlers_test (jr (I.inExc y) hgc hmc ?_ hdc)) (by intro q;cases q)
 refine (W.exm_one (M:=model X.prog X.w) I.kIn (isx fly).ty exm).here ?_
 refine codeAny_handlers_suite_as (zGm fly cd fun h3 fly3 cc3 sm3=>?_)
 have I3:=clo h3 fly3.1 sm3
 obtain ⟨vs,ev,_⟩:=cc3
 have I4:Inv X pins σ (upd H y (.ext (ExQ y C dx))) { s with heap:=h3 }:=I3.track2 hy0 nw.1 nw.2.1 nw.2.2.1 nw.2.2.2 ⟨⟨vs,ev⟩,⟨_,ev⟩,ExQ.keep⟩
 refine J2 I4 hN hi (.inl hnx) (v:=.ref y) rfl (fun s5 I5 _=>?_) (.inr hnx)
 refine wpAny_mono (hs y pins s5 _ _ _ (I5.inExc y) (q y hy0)) (fun f s6 sp6=>?_) fun _ _ z=>z.elim
 have hp:(X.env.scope.kind == .class || (X.env.scope.kind == .module && X.env.locals != X.env.globals))=false:=by rw [I.ok.kind];rfl
 cases f with
 | ret u =>
  obtain ⟨v,σ6,H6,I6,rv,qv⟩:=sp6
  obtain ⟨m,hn6,_⟩:=id I6.loc
  exact wpAny_nameGoes hkn hn6 hp fun h7 m7 hn7 hs7=>⟨v,_,H6,(Inv.outExc I.ok I6).renamed hs7 hn7,rv,qv⟩
 | next=>obtain ⟨_,_,_,z⟩:=sp6;exact z.elim
 | brk=>obtain ⟨_,_,_,z⟩:=sp6;exact z.elim
 | cont=>obtain ⟨_,_,_,z⟩:=sp6;exact z.elim
def zIS (tb:St->XK->TS) (th:Addr->Option Addr->TS):TS:=fun D σ H=>∃ σc,tb σc (fun cls od H2=>∃ C,cls = .ref C/\th C od D σc H2) D σ H
theorem zGK (hex:X.ex=[]) (hst:X.stack=X.env::X.outer) (hfr:X.env.frame=some X.env.locals) (hb : ∀ pins σc E,PSs (X.tr3 pins σc E) body (tb σc E)) (hh:PH3 X (h₀::hs) th):PS X (.Try body (h₀::hs) [] [] pos) (zIS tb th):=by
 intro pins s σ H D I h
 obtain ⟨σc,h⟩:=h
 refine wpAny_Try_except (wpAny_mono (hb pins σc _ [] s σ H D I.tr3 h) (fun f s1 q=>?_) fun er s' z=>?_)
 ·cases f with
  | next=>exact wpAny_execs_nil q.untr3
  | ret u=>exact q.untr3
  | brk=>exact q.untr3
  | cont=>exact q.untr3
 ·obtain ⟨H1,s1,I1,fl⟩:=z
  obtain ⟨y,C,a0,H2,B,od,rfl,hos,hbare,fly,cd,clo,hy0,hy2,C0,z0,q⟩:=fl
  cases z0
  rw [hst] at fly
  refine zEz (I.ok.frames.trans (congrArg some hst)) hfr fly cd fun h1 held cd1 sm1=>?_
  refine zEn (s:={ s' with heap:=h1 }) held cd1 fun h2 fly2 cd2 sm2=>?_
  have cl : ∀ h',B.StaysIn h'->h2.UpToSlots h'->Inv X pins σc H2 { s' with heap:=h' }:=fun h' st sm=>by
   have c:=clo h' st ((sm1.trans sm2).trans sm)
   exact I1.call' (s':={ s' with heap:=h' }) hos c.1 c.2 hbare (fun b z=>nomatch z)
  have I2:=cl h2 fly2.1 (Heap.UpToSlots.refl _)
  have ney : ∀ {b:Addr} {o:Obj},s1.heap.get? b=some o->b≠y:=fun {b o} e z=>by rw [z,hy0] at e;cases e
  refine hh pins { s' with heap:=h2 } σc H2 D y C od B a0 fly2 cd2 I2 cl hy2 ⟨fun z=>?_,fun ob e=>?_,fun v c e z=>?_,fun p hp z=>?_⟩ q
  ·obtain ⟨m,⟨o,_,_,ho,_⟩,_⟩:=I1.loc
   exact ney ho z.symm
  ·obtain ⟨o',e1⟩:=I1.base.there y ob e (by rw [hex];exact fun z=>nomatch z)
   exact ney e1 rfl
  ·obtain ⟨_,o,ho,_⟩:=I1.cell v c e
   exact ney ho z
  ·exact ney (I1.pin p hp).1 z
theorem zHh (σc:St) (h:tb σc (fun cls od H2=>∃ C,cls = .ref C/\th C od D σc H2) D σ H):zIS tb th D σ H:=⟨σc,h⟩
theorem zKW (e:W.exmOne K (.ref C) (.ref C')=some true) (h : ∀ y,H y=none->ta y { nx:=fun _ _=>False,rt:=D.rt } (σ.set i (some (.ref y))) (upd H y (.ext (ExQ y C dx)))):zLP K C' i ta C (some dx) D σ H:=⟨dx,rfl,e,h⟩
end
def zKs (K:W.Frag) (z:Str) (Q:VK):VK:=fun x H1=>∃ a C dx fs v,x = .ref a/\H1 a=some (.ext (ExQ a C dx))/\H1 dx=some (.ext (XD dx fs))/\ExcB K C/\ya K C z/\fs.lookup z=some v/\Q v H1
def zLY (K:W.Frag) (ta:TE) (z:Str):TE:=fun σ H Q=>ta σ H (zKs K z Q)
theorem zEW {e:Expr} {ta:TE} (eK:X.K=K) (he:PE X e ta) (hb:attributeBase e z X.env (eval e X.env)=eval e X.env):PE X (.Attribute e z pos) (zLY K ta z):=by
 subst eK
 intro pins s σ H Q I h
 refine zCh hb (thn (he pins s σ H _ I h) fun u s1 zq=>?_)
 obtain ⟨x,H1,I1,rx,a,C,dx,fs,v,ex,e1,e2,c,n,l,q⟩:=zq
 subst ex
 obtain rfl:u=Value.ref a:=rx
 obtain ⟨vs,ho⟩:=(I1.hok a _ e1).1
 obtain ⟨mA,hns,r,wi⟩:=(I1.hok dx _ e2).1
 obtain ⟨u,hu,ru⟩:=zAM.some_of (v:=v) (o:=mA z) (by rw [<- l];exact r z)
 exact zMG I1.kIn ho hns c n hu (Vq ru) ⟨v,H1,I1.tok _,ru,q⟩
section
variable {σ : St} {H : Hp} {Q : VK} {D : Z9} {K : W.Frag} {C x : Addr} {z : Str} {sp : Sp} {E : XK} {ta tv te : TE} {t : TA} {H₀ : Hp}
theorem zK7 (h:ta σ H (zKs K z Q)):zLY K ta z σ H Q:=h
theorem zG1 (h:t σ H (zKD C sp E Q)):zEf C sp E t σ H Q:=h
theorem zFw (h:t σ H (Kq K Q)):zEk K t σ H Q:=h
theorem zLH (h:tv σ H fun y H1=>ta σ H1 (zK1 K z y D σ)):zId K ta tv z D σ H:=h
theorem zC9 (h:te σ H (KR K H₀ E)):zCt K H₀ E te D σ H:=h
end
def Xin (K:W.Frag) (C:Addr):Prop:=∃ f,zLK K C f/\W.findIn K (.ref C) "__init__" = some (some (.ref f))
section
variable {K : W.Frag} {C f : Addr} {mg : Str -> Option Value} {P : Program} {w : World} {base : Heap} {k : Nat} {ps : List Str} {sp : Sp} {CX : CXT} {z : Str}
theorem xin_mk (a:W.findIn K (.ref C) "__init__" = some (some (.ref f))) (e:QA K C f=true) (n:W.isFn K (.ref f)=true) (kp:W.keepIn K (.ref C)=true):Xin K C:=⟨f,⟨e,n,kp⟩,a⟩
theorem zIK (g:Gx P w K mg base CX "__init__" [C] k ps sp) (h:Xin K C):zH6 P w K mg base CX C k ps sp:=by
 obtain ⟨f,⟨fd,o,_,_,b⟩,i⟩:=g
 obtain ⟨f',x,a⟩:=h
 have e:=i.1.symm.trans a
 cases e
 exact ⟨f,fd,o,x,b⟩
theorem exf_mk (x:Xin K C) (b:ExcB K C) (sa:W.findIn K (.ref C) "__setattr__" = some (some (.builtin "object.__setattr__"))) (na:W.findIn K (.ref C) z=some none) : ∃ f,ExF K C f z:=let ⟨f,i,_⟩:=x;⟨f,i.ex,b,sa,na⟩
theorem zC7 {x:Addr} {u:V} (e:H x=some (.ext (WT x C))) (n : ∃ f,ExF K C f z) (q:Q .non H):Kq K Q [.ref x,u] H:=let ⟨f,n⟩:=n;⟨x,C,f,u,rfl,e,n.ex,q⟩
theorem zJb {x:Addr} {y:V} (e:H x=some (.ext (WT x C))) (n : ∃ f,ExF K C f z) (q : ∀ d,H d=none->D.nx σ (upd (upd H d (.ext (XD d [(z,y)]))) x (.ext (zAf x C d)))):zK1 K z y D σ (.ref x) H:=let ⟨f,n⟩:=n;⟨x,C,f,rfl,e,n,q⟩
theorem zEc {x:Addr} {fs:List (Str × V)} (e1:H x=some (.ext (ExQ x C dx))) (e2:H dx=some (.ext (XD dx fs))) (n : ∃ f,ExF K C f z) (l:fs.lookup z=some v) (q:Q v H):zKs K z Q (.ref x) H:=let ⟨_,n⟩:=n;⟨x,C,dx,fs,v,rfl,e1,e2,n.b,n.na,l,q⟩
end
section
variable {M : Model} {A : Around} {E : Value -> Shared -> Prop} {s : Shared} {base : Heap} {env : Env} {outer : List Env} {L e C : Addr} {od : Option Addr} {Q : Unit -> Shared -> Prop}
theorem Wt (fr:A.frames=some (env::outer)) (ef:env.frame=some L) (fly:Heap.FlyingW base (env::outer) e (.ref C) a0 s.heap) (c2:CD C od s.heap e)
  (k : ∀ h',Heap.FlyingW base outer e (.ref C) a0 h'->CD C od h' e->s.heap.UpToSlots h'->Q () { s with heap:=h' }):wpAny M A (leaving env (.ref e)) Q E s:=by
 unfold leaving
 refine wpAny_bind (zEz fr ef fly c2 fun h1 held c1 sm1=>?_)
 exact zEn (s:={ s with heap:=h1 }) held c1 fun h2 fl c3 sm2=>k h2 ⟨fl.1,fl.2.1,fl.2.2.1.2.2,fl.2.2.2⟩ c3 (sm1.trans sm2)
end
section
variable {P : Program} {w : World} {K : W.Frag} {mg : Str -> Option Value} {base : Heap} {N : List Str} {qual : Str} {scope : Scope} {f : Addr} {cd : Value} {A : Around} {outer : List Env} {s : Shared} {H : Hp} {E : XK}
theorem zAS:jW (Xc P w) (QX (Xc P w) P w K mg base N qual scope f cd A outer s H E) E:=by
 intro pins σ H1 s1 e s' I1 fl
 obtain ⟨x,C,a0,H',B,od,rfl,hos,hbare,fly,c2,clo,hx1,hx2,q⟩:=fl
 refine Wt I1.ok.frames rfl fly c2 fun h2 fly2 c3 sm=>?_
 refine ⟨x,C,a0,H',B,od,rfl,hos.trans I1.os,hbare,fly2,c3,fun h3 st sm3=>?_,?_,hx2,q⟩
 ·have cl:=clo h3 st (sm.trans sm3)
  have I3:=I1.call' (s':={ s' with heap:=h3 }) hos cl.1 cl.2 hbare (fun b z=>nomatch z)
  exact ⟨I3.base,I3.hok⟩
 ·cases z:s.heap.get? x with
  | none=>rfl
  | some o =>
   obtain ⟨o',e1⟩:=I1.base.there x o z (fun h=>nomatch h)
   rw [hx1] at e1;cases e1
end
theorem KJ.okX4 (F:KJ K x qual st f fd) (S:zN N ps (zG st)) (len : ∀ vs H Q E,sp vs H Q E->vs.length=ps.length)
  (hbody : ∀ (cdv:Value) (A:Around) (outer:List Env) (s:Shared) (H:Hp) (vs:List V) (Q:VK) (E:XK),j5 k (A.deeper (envOfC qual (zG st) s.heap.objs.size f cdv))->sp vs H Q E ->
   zEi (QX (Xc P w) P w K mg base N qual (zG st) f cdv A outer s H E) E->jW (Xc P w) (QX (Xc P w) P w K mg base N qual (zG st) f cdv A outer s H E) E -> ∃ t,PSs (QX (Xc P w) P w K mg base N qual (zG st) f cdv A outer s H E) (z6 st) t/\t { nx:=fun _ H'=>Q .non H',rt:=Q } (start N vs) H):xx P w K mg base (Xc P w) (k+1) f fd ps sp:=by
 obtain ⟨oc,od,dV,kV,doc,pm,an,cdv,ct,osl,rfl,lk,hcd⟩:=F.ex
 exact zCD lk hcd S len fun A outer s H vs Q E hr hsp=>hbody cdv A outer s H vs Q E hr hsp (fun pins σ H s x C dx I hx h0 q=>zCV I hx h0 q) zAS
def Ys (P:Program) (w:World) (K:W.Frag) (mg:Str->Option Value) (base:Heap) (x:Str) (k:Nat) (ps:List Str) (sp:Sp):Prop:=
 ∃ (f:Addr) (fd:FuncData),xx P w K mg base (Xc P w) k f fd ps sp/\mg x=some (.ref f)/\W.keepIn K (.ref f)=true/\jx K fd ps []
section
variable {X : Cx} {pins0 : List (Addr × Obj)} {σc : St} {k n : Nat} {C : Addr} {ps : List Str} {sp : Sp} {E : XK} {x m : Str} {p np pos apos : Pos} {e o : Expr} {es : List Expr} {ta : TE} {t : TA}
theorem xE (F:Ys X.prog X.w X.K X.mg X.base x k ps sp) (pp:jW (Xc X.prog X.w) X E) (hr:j5 n X.A) (hg:Gl X x) (ha:PA X (e::es) t) (hk:k<=n:=by decide)
  (hdb:(x == ("__debug__" : Str))=false:=by decide) (he:starEach (e::es) X.env=(false,eval e X.env)::starEach es X.env:=by rfl) (hpl:(backTo pos (starEach es X.env)).any (·.1)=false:=by rfl) :
  PE X (.Call (.Name x p) (e::es) [] pos) (Ye sp [] E t):=by
 obtain ⟨f,fd,G,hm,kp,hb⟩:=F
 exact zCr G (hr.mono hk) hg hm kp hb .nil pp ha hdb he hpl
theorem zBg (F:Ys X.prog X.w X.K X.mg X.base x k ps sp) (hr:j5 n X.A) (hg:Gl X x) (ha:PA (X.tr3 pins0 σc E) (e::es) t) (hk:k<=n:=by decide)
  (hdb:(x == ("__debug__" : Str))=false:=by decide) (he:starEach (e::es) X.env=(false,eval e X.env)::starEach es X.env:=by rfl) (hpl:(backTo pos (starEach es X.env)).any (·.1)=false:=by rfl) :
  PE (X.tr3 pins0 σc E) (.Call (.Name x p) (e::es) [] pos) (zBV sp E σc t):=by
 intro pins s σ H Q I h
 obtain ⟨f,fd,G,hm,kp,b⟩:=F
 refine wpAny_Call_Name_kw (jr I hg hm ?_ hdb)
 refine W.callWith_K (h₀:=X.base) I.ok.mod.kin kp (thn (ha pos pins s σ H _ I h) fun us s1 zq=>?_) he hpl
 obtain ⟨vs,H1,I1,r,q⟩:=zq
 exact ⟨I1.kIn,zC5 (G.mono hk) hr b I1 r q.1 q.2⟩
end
theorem ExQ.at {x:Addr} (e:ExQ x C dx h):V2 x C h:=let ⟨_,z⟩:=e;⟨_,z,rfl,_,rfl⟩
theorem zAa.q {x:Addr} (e:H x=some (.ext (ExQ x C dx))):zAa H x C:=⟨_,e,fun _ z=>z.at⟩
section
variable {X : Cx} {K : W.Frag} {H : Hp} {Q : VK}
theorem X4 (eK:X.K=K):jC X (.builtin "isinstance") (zFy K):=by subst eK;exact zBk
theorem VG (eK:X.K=K):jC X (.builtin "isinstance") (zE7 K):=by subst eK;exact ZI
def zE5 (K:W.Frag):List V->Hp->VK->Prop:=fun xs H Q=>∃ (x C p:Addr) (Ds:List Addr) (b:Bool),xs=[.ref x,.ref p]/\zAa H x C/\ExcB K C/\H p=some (.tup (Ds.map V.ref))/\W.kitAny K (.ref C) (Ds.map Value.ref)=some b/\Q (.bl b) H
theorem zAc (eK:X.K=K):jC X (.builtin "isinstance") (zE5 K):=by
 subst eK
 intro pins s σ H xs us Q I r h
 obtain ⟨x,C,p,Ds,b,rfl,⟨φ,hx,hφ⟩,ex,hp,e,q⟩:=h
 obtain ⟨v,w,rfl,rx,rp⟩:=Y1 r
 cases rx;cases rp
 obtain ⟨_,its,ri,o,ho,hc,n,hd⟩:=I.hok p _ hp
 have:=VN ri
 subst this
 obtain ⟨oc,od,odt,osl⟩:=o
 simp only at hc hd
 subst hc hd
 exact W.kia_tup (zEs ex) I.kIn (hφ _ (I.hok x _ hx).1) ho e (fun z=>nomatch z) fun tk=>⟨.bl b,H,I.tok _,rfl,q⟩
theorem zHT {x p:Addr} {Ds:List Addr} {b:Bool} (hx:zAa H x C) (ex:ExcB K C) (hp:H p=some (.tup (Ds.map V.ref))) (e:W.kitAny K (.ref C) (Ds.map Value.ref)=some b) (q:Q (.bl b) H):zE5 K [.ref x,.ref p] H Q:=⟨x,C,p,Ds,b,rfl,hx,ex,hp,e,q⟩
def zIM (P:Program) (w:World):V->V->V->Hp->(Hp->Prop)->Prop:=fun o i v H Q=>∃ p z kvs,o = .ref p/\i = .str z/\H p=some (V1 P w p kvs)/\kvs.length<=1000/\YZ kvs z=none /\ ∀ H',SB p H H'->H' p=some (V1 P w p (kvs++[(z,v)]))->Q H'
theorem Yw:zLG X (zIM X.prog X.w):=by
 intro pins s σ H o i v ov iv u Q I ro ri rv h
 obtain ⟨p,z,kvs,rfl,rfl,hp,hl,ln,q⟩:=h
 cases ro
 obtain ⟨t,rfl⟩:=ri
 obtain ⟨us,dd,h3,h4⟩:=(I.hok _ _ hp).1
 have len:us.length=kvs.length:=by have:=congrArg List.length h3;simpa using this
 refine wpAny_setItem_pairs (knd:=PySem.strKind X.prog X.w) (k:=z) (by simp [PySem.strKind,Value.isStrOf]) dd (fun h' dd' hs=>?_) (qz (by omega))
 have hn:=VW h3 ln
 have st:stored us z u=us++[(z,u)]:=by
  unfold stored
  have hany:(us.any fun kv=>decide (kv.fst=z))=false:=by
   unfold valueAt at hn
   rw [Option.map_eq_none_iff,List.find?_eq_none] at hn
   rw [List.any_eq_false]
   intro kv hkv
   exact hn kv hkv
  rw [hany];rfl
 rw [st] at dd'
 have he : ∃ q,h'.get? p=some q:=let ⟨q,_,_,hq,_⟩:=dd';⟨q,hq⟩
 refine ⟨_,I.write (x:=p) (e:=p) (o:=V1 X.prog X.w p (kvs++[(z,v)])) (by rw [hp];exact trivial) (.inl rfl) (fun b q hb z=>(hs.2 b hb).trans z) he (zB3 ⟨us++[(z,u)],dd',?_,?_⟩),q _ (fun b o n z=>by rw [zf n];exact z) zK⟩
 ·rw [map_append,map_append,h3];rfl
 ·rw [map_append,map_append];exact h4.append (.cons rv .nil)
theorem WE {p:Addr} {kvs:List (Str × V)} {R:Hp->Prop} (hp:H p=some (V1 P w p kvs)) (hl:kvs.length<=1000) (ln:YZ kvs z=none) (q : ∀ H',SB p H H'->H' p=some (V1 P w p (kvs++[(z,v)]))->R H'):zIM P w (.ref p) (.str z) v H R:=⟨p,z,kvs,rfl,rfl,hp,hl,ln,q⟩
theorem YE {to ti:TE} {t:zKI} {R:St->Hp->Prop} (h:to σ H fun o H1=>ti σ H1 fun i H2=>t o i v H2 fun H3=>R σ H3):zLR to ti t v σ H R:=h
theorem zEy {p:Addr} {xs:List V} {k:Int} {R:Hp->Prop} (hp:H p=some (.lst xs)) (h0:0<=k) (h1:k < xs.length) (q:R (upd H p (.lst (xs.set k.toNat v)))):zI5 (.ref p) (.int k) v H R:=by
 refine ⟨p,xs,k,k.toNat,rfl,rfl,hp,?_,q⟩
 unfold ixN
 rw [if_pos h0,if_pos (by omega)]
end
section
variable {K : W.Frag} {x : Str} {st : Stmt} {mg : Str -> Option Value} {P : Program} {w : World} {base : Heap} {k : Nat} {ps : List Str} {sp : Sp}
theorem zK3 (z:Kn K mg) (d:Dfx K x st) (hb : ∀ us:List Value,us.length=ps.length -> ∀ (kV doc pm:Value) (an:Option Addr) (cdv ct:Value),bindArgs (W.fnOf x x (qP st) (z6 st) (zG st) .none kV doc pm an cdv ct) ⟨us,[]⟩=pure (ps.zip us))
  (ok : ∀ fq fd,Fun K x x st fq fd->Yz P w K mg base CX0 k fq fd ps sp):zKd P w K mg base x k ps sp:=by
 obtain ⟨h,X,G⟩:=z
 obtain ⟨f,_,_,_,_,_,_,_,_,_,a,l,c,k'⟩:=d
 have F:=WD l c k'
 exact ⟨f,_,ok _ _ F,W.mg_of X G a,k',F.binds fun _ _ _ _ _ _ us hl=>hb us hl _ _ _ _ _ _⟩
end
end L2
set_option maxHeartbeats 4000000
namespace Pw
open PySem L2
open List (all_append all_eq_true append_assoc append_nil drop_eq_nil_of_le flatten_cons getD_eq_getElem?_getD getElem?_eq_getElem getElem?_map getElem_mem length_append length_cons length_drop length_map length_nil length_range length_take map_append map_cons map_map map_nil map_take mem_cons mem_cons_of_mem mem_cons_self mem_of_getElem? mem_of_mem_drop mem_of_mem_take nil_append not_mem_nil range_succ take_add_one take_length)
open Nat (le_trans lt_irrefl lt_or_ge sub_le zero_le)
open Int (emod_lt_of_pos emod_nonneg pow_succ toNat_natCast)
set_option maxHeartbeats 4000000
seal PySem.Sem.wp
local macro_rules | `(tactic| walk_at "ln")=>`(tactic| first | (rintro ⟨h,_⟩;rw [h];rfl) | (rintro ⟨_,h⟩;revert h;walk_at "ln"))
local macro_rules | `(tactic| walk_at "sc")=>`(tactic| exact ⟨rfl,rfl,rfl,by decide +kernel,rfl,by decide +kernel,by decide +kernel⟩)
def top (i:Nat):Stmt:=PySem.Challenge.pw_padwright_k53_first_wrong_word.main.body.getD i (.Pass ⟨0,0,0,0⟩)
abbrev yY:Stmt:=ql (top 11) 0
theorem QP:zN ["self", "at"] ["self", "at"] (zG yY):=by walk_at "sc"
abbrev Q9:Stmt:=top 15
theorem ju:zN ["number", "base", "text", "left"] ["number", "base"] (zG Q9):=by walk_at "sc"
abbrev Xa:Stmt:=top 16
theorem xD:zN ["text", "base", "number", "sign", "worth"] ["text", "base"] (zG Xa):=by walk_at "sc"
abbrev Vw:Stmt:=top 19
theorem Wj:zN ["style", "below"] ["style", "below"] (zG Vw):=by walk_at "sc"
abbrev K5:Stmt:=top 20
theorem VY:zN ["body", "style", "below", "ends"] ["body", "style", "below"] (zG K5):=by walk_at "sc"
abbrev Vs:Stmt:=top 24
theorem zAD:zN ["text", "size", "mark"] ["text", "size", "mark"] (zG Vs):=by walk_at "sc"
abbrev X1:Stmt:=top 25
theorem y2:zN ["text", "size", "between", "parts", "end"] ["text", "size", "between"] (zG X1):=by walk_at "sc"
abbrev VC:Stmt:=top 27
theorem ZO:zN ["number", "base", "places", "point", "size", "mark", "text", "cut", "whole"] ["number", "base", "places", "point", "size", "mark"] (zG VC):=by walk_at "sc"
abbrev kZ:Stmt:=ql (top 33) 0
theorem JO:zN ["self", "width", "fill", "side", "strict"] ["self", "width", "fill", "side", "strict"] (zG kZ):=by walk_at "sc"
abbrev yB:Stmt:=ql (top 33) 3
theorem Zt:zN ["self", "core"] ["self", "core"] (zG yB):=by walk_at "sc"
abbrev kM:Stmt:=ql (top 33) 4
theorem QT:zN ["self"] ["self"] (zG kM):=by walk_at "sc"
abbrev YI:Stmt:=top 35
theorem Kh:zN ["thing"] ["thing"] (zG YI):=by walk_at "sc"
abbrev Xx:Stmt:=top 36
theorem yo:zN ["base", "times", "power", "turn"] ["base", "times"] (zG Xx):=by walk_at "sc"
abbrev kD:Stmt:=top 37
theorem qW:zN ["one", "other", "greater", "lesser", "rest"] ["one", "other"] (zG kD):=by walk_at "sc"
abbrev QJ:Stmt:=top 39
theorem Xi:zN ["thing"] ["thing"] (zG QJ):=by walk_at "sc"
abbrev Ve:Stmt:=top 41
theorem yk:zN ["value", "base", "places", "way", "top", "bottom", "below", "rest"] ["value", "base", "places", "way"] (zG Ve):=by walk_at "sc"
abbrev Vc:Stmt:=top 42
theorem zAE:zN ["below", "rest", "bottom", "way"] ["below", "rest", "bottom", "way"] (zG Vc):=by walk_at "sc"
abbrev j9:Stmt:=ql (top 44) 0
theorem kO:zN ["self", "figures", "places", "base", "sign", "size", "mark", "point", "way", "width", "fill", "side", "strict"] ["self", "figures", "places", "base", "sign", "size", "mark", "point", "way", "width", "fill", "side", "strict"] (zG j9):=by walk_at "sc"
abbrev yh:Stmt:=ql (top 44) 1
theorem jt:zN ["self", "value", "k", "body"] ["self", "value"] (zG yh):=by walk_at "sc"
abbrev jM:Stmt:=ql (top 44) 4
theorem xu:zN ["self"] ["self"] (zG jM):=by walk_at "sc"
abbrev jU:Stmt:=ql (top 44) 6
theorem xy:zN ["self", "number"] ["self", "number"] (zG jU):=by walk_at "sc"
abbrev VJ:Stmt:=top 47
theorem zAF:zN ["thing"] ["thing"] (zG VJ):=by walk_at "sc"
abbrev xW:Stmt:=ql (top 49) 0
theorem ZR:zN ["self", "signs", "least", "most", "width", "fill", "side", "strict"] ["self", "signs", "least", "most", "width", "fill", "side", "strict"] (zG xW):=by walk_at "sc"
abbrev jc:Stmt:=ql (top 49) 4
theorem yR:zN ["self"] ["self"] (zG jc):=by walk_at "sc"
abbrev xB:Stmt:=ql (top 50) 0
theorem kN:zN ["self", "names", "width", "fill", "side", "strict"] ["self", "names", "width", "fill", "side", "strict"] (zG xB):=by walk_at "sc"
abbrev jL:Stmt:=ql (top 50) 4
theorem xk:zN ["self"] ["self"] (zG jL):=by walk_at "sc"
abbrev y6:Stmt:=ql (top 54) 0
theorem Qa:zN ["self", "words"] ["self", "words"] (zG y6):=by walk_at "sc"
abbrev JA:Stmt:=ql (top 54) 1
theorem Yr:zN ["self"] ["self"] (zG JA):=by walk_at "sc"
abbrev ke:Stmt:=ql (top 54) 2
theorem JG:zN ["self", "can_stand"] ["self", "can_stand"] (zG ke):=by walk_at "sc"
abbrev yC:Stmt:=ql (top 54) 3
theorem Zq:zN ["self", "word"] ["self", "word"] (zG yC):=by walk_at "sc"
abbrev xg:Stmt:=ql (top 54) 4
theorem xR:zN ["self", "least", "most", "number"] ["self", "least", "most"] (zG xg):=by walk_at "sc"
abbrev yn:Stmt:=ql (top 54) 5
theorem yQ:zN ["self", "word"] ["self"] (zG yn):=by walk_at "sc"
abbrev xh:Stmt:=ql (top 54) 6
theorem xS:zN ["self", "choices", "word"] ["self", "choices"] (zG xh):=by walk_at "sc"
abbrev yG:Stmt:=ql (top 54) 7
theorem xn:zN ["self", "signs"] ["self"] (zG yG):=by walk_at "sc"
abbrev ym:Stmt:=ql (top 54) 8
theorem yA:zN ["self", "names", "word"] ["self", "names"] (zG ym):=by walk_at "sc"
abbrev J4:Stmt:=top 55
theorem kT:zN ["text", "words", "form"] ["text"] (zG J4):=by walk_at "sc"
abbrev JB:Stmt:=top 56
theorem QH:zN ["words", "kind"] ["words"] (zG JB):=by walk_at "sc"
abbrev yK:Stmt:=top 57
theorem zn:zN ["words", "figures", "places", "base", "sign", "groups", "point", "way", "last"] ["words"] (zG yK):=by walk_at "sc"
abbrev Z4:Stmt:=top 58
theorem Zb:zN ["words", "size"] ["words"] (zG Z4):=by walk_at "sc"
abbrev y8:Stmt:=top 59
theorem qV:zN ["words", "signs", "least", "most", "last"] ["words"] (zG y8):=by walk_at "sc"
abbrev yH:Stmt:=top 60
theorem qX:zN ["words", "wanted", "names", "turn", "last"] ["words"] (zG yH):=by walk_at "sc"
abbrev J3:Stmt:=top 61
theorem yE:zN ["words", "sides", "side", "width", "fill"] ["words", "sides", "side"] (zG J3):=by walk_at "sc"
abbrev QB:Stmt:=top 62
theorem Zg:zN ["word", "number"] ["word"] (zG QB):=by walk_at "sc"
abbrev Qz:Stmt:=top 63
theorem QC:zN ["word", "signs"] ["word"] (zG Qz):=by walk_at "sc"
abbrev XA:Stmt:=top 64
theorem Vj:zN ["signs"] ["signs"] (zG XA):=by walk_at "sc"
abbrev QL:Stmt:=top 66
theorem Xh:zN ["_law_script", "_law_k"] ["_law_script", "_law_k"] (zG QL):=by walk_at "sc"
abbrev XT:Stmt:=top 67
theorem Vv:zN ["_law_thing"] ["_law_thing"] (zG XT):=by walk_at "sc"
abbrev Xu:Stmt:=top 68
theorem yu:zN ["_law_cell", "_law_salt", "_law_many", "_law_one", "_law_two"] ["_law_cell", "_law_salt", "_law_many"] (zG Xu):=by walk_at "sc"
abbrev wZ:Stmt:=top 69
theorem JW:zN [] [] (zG wZ):=by walk_at "sc"
abbrev kJ:Stmt:=top 70
theorem yl:zN ["_law_cell", "_law_salt", "_law_some"] ["_law_cell", "_law_salt"] (zG kJ):=by walk_at "sc"
abbrev yZ:Stmt:=top 71
theorem ze:zN ["_law_cell", "_law_other", "_law_small", "_law_figures", "_law_places", "_law_base", "_law_sign", "_law_size", "_law_way", "_law_signs", "_law_widths", "_law_width", "_law_side", "_law_strict"] ["_law_cell", "_law_other", "_law_small"] (zG yZ):=by walk_at "sc"
abbrev kU:Stmt:=top 72
theorem z8:zN ["_law_cell", "_law_other", "_law_small", "_law_start", "_law_step", "_law_signs", "_law_least", "_law_most", "_law_fill", "_law_width", "_law_side"] ["_law_cell", "_law_other", "_law_small"] (zG kU):=by walk_at "sc"
abbrev y3:Stmt:=top 73
theorem zk:zN ["_law_cell", "_law_many", "_law_signs", "_law_base", "_law_way", "_law_at", "_law_size", "_law_step", "_law_found", "_law_k", "_law_sign", "_law_turn"] ["_law_cell", "_law_many"] (zG y3):=by walk_at "sc"
abbrev yj:Stmt:=top 74
theorem qj:zN ["_law_cell", "_law_other", "_law_small", "_law_names", "_law_fill", "_law_width", "_law_side"] ["_law_cell", "_law_other", "_law_small"] (zG yj):=by walk_at "sc"
abbrev Zf:Stmt:=top 75
theorem Jd:zN ["_law_spec"] ["_law_spec"] (zG Zf):=by walk_at "sc"
abbrev Xw:Stmt:=top 76
theorem XX:zN ["_law_lower"] [] (zG Xw):=by walk_at "sc"
abbrev ZZ:Stmt:=top 77
theorem qZ:zN ["_law_cell", "_law_other", "_law_sort", "_law_spec", "_law_signs"] ["_law_cell", "_law_other", "_law_sort"] (zG ZZ):=by walk_at "sc"
abbrev w9:Stmt:=top 78
theorem JV:zN ["_law_sign"] ["_law_sign"] (zG w9):=by walk_at "sc"
abbrev kA:Stmt:=top 79
theorem jI:zN ["_law_signs", "_law_bits", "_law_rest", "_law_name", "_law_some"] ["_law_signs", "_law_bits"] (zG kA):=by walk_at "sc"
abbrev kF:Stmt:=top 80
theorem zW:zN ["_law_spec", "_law_bits", "_law_rows", "_law_figures", "_law_places", "_law_base", "_law_sign", "_law_size", "_law_mark", "_law_point", "_law_way"] ["_law_spec", "_law_bits"] (zG kF):=by walk_at "sc"
abbrev ky:Stmt:=top 81
theorem zw:zN ["_law_spec", "_law_bits", "_law_rows", "_law_width", "_law_fill", "_law_side", "_law_strict", "_law_kept"] ["_law_spec", "_law_bits"] (zG ky):=by walk_at "sc"
abbrev QI:Stmt:=top 83
theorem Zh:zN ["_law_thing", "e"] ["_law_thing"] (zG QI):=by walk_at "sc"
abbrev kh:Stmt:=top 84
theorem qD:zN ["_law_rows", "_law_at", "_law_word", "_law_role", "_law_low", "_law_high", "_law_some", "_law_sides"] ["_law_rows", "_law_at"] (zG kh):=by walk_at "sc"
abbrev yX:Stmt:=top 85
theorem jA:zN ["_law_kind", "_law_some"] ["_law_kind"] (zG yX):=by walk_at "sc"
abbrev kE:Stmt:=top 86
theorem jH:zN ["_law_rows", "_law_number", "_law_some", "_law_keys", "_law_told"] ["_law_rows", "_law_number"] (zG kE):=by walk_at "sc"
abbrev yI:Stmt:=top 87
theorem qG:zN ["_law_rows", "_law_number", "_law_words", "_law_at", "_law_way", "_law_some", "_law_behind"] ["_law_rows", "_law_number"] (zG yI):=by walk_at "sc"
abbrev yL:Stmt:=top 88
theorem xY:zN ["_law_spec", "_law_text", "_law_found"] ["_law_spec", "_law_text"] (zG yL):=by walk_at "sc"
abbrev J7:Stmt:=top 89
theorem qK:zN ["_law_cell", "_law_other", "_law_spec", "_law_rows", "_law_text", "_law_words", "_law_at", "_law_strange", "_law_j"] ["_law_cell", "_law_other"] (zG J7):=by walk_at "sc"
abbrev KH:Stmt:=top 90
theorem zBW:zN ["_law_script", "_law_k", "_law_things"] ["_law_script"] (zG KH):=by walk_at "sc"
abbrev Wd:=List Nat
inductive Au
 | need (can:Wd->Bool) (go:Wd->Au)
 | opt (key:Wd) (yes no:Au)
 | done (ok:Bool)
def Au.step:Au->Wd->Option Au
 | .need c g,w=>if c w=true then some (g w) else none
 | .opt k y n,w=>if w=k then some y else n.step w
 | .done _,_=>none
def Au.fin:Au->Int->Int
 | .need _ _,k=>k
 | .opt _ _ n,k=>n.fin k
 | .done ok,k=>if ok=true then -1 else k - 1
def Au.bad:Au->Int->Int
 | .need _ _,k=>k
 | .opt _ _ n,k=>n.bad k
 | .done ok,k=>if ok=true then k else k - 1
def Au.run:List Wd->Au->Int->Int
 | [],p,k=>p.fin k
 | w::r,p,k=>match p.step w with
  | some p'=>Au.run r p' (k+1)
  | none=>p.bad k
section
variable {p p' y n : Au} {w key : Wd} {r : List Wd} {k : Int} {c : Wd -> Bool} {g : Wd -> Au} {ok : Bool}
theorem yO (h:p.step w=some p'):Au.run (w::r) p k=Au.run r p' (k+1):=by rw [Au.run,h]
theorem JZ (h:p.step w=none):Au.run (w::r) p k=p.bad k:=by rw [Au.run,h]
theorem zGO:Au.run (key::r) (.opt key y n) k=Au.run r y (k+1):=yO (if_pos rfl)
theorem zIz (h:r.head? ≠ some key):Au.run r (.opt key y n) k=Au.run r n k:=by
 cases r with
 | nil=>rfl
 | cons w r =>
  have hw:w≠key:=fun e=>h (by rw [e];rfl)
  have e:(Au.opt key y n).step w=n.step w:=if_neg hw
  unfold Au.run
  rw [e];rfl
theorem zKK (h:c w=true):Au.run (w::r) (.need c g) k=Au.run r (g w) (k+1):=yO (if_pos h)
theorem zK9 (h:c w=false):Au.run (w::r) (.need c g) k=k:=JZ (if_neg (by rw [h];exact Bool.false_ne_true))
end
def dgB (w:Wd):Bool:=w.all fun c=>decide (48<=c) && decide (c<=57)
def tn (w:Wd):Option Int:=if (dgB w && decide (1<=w.length) && (decide (w.getD 0 0≠48) || decide (w.length=1)))=true then some (val 10 w) else none
def Qc (lo hi:Int) (w:Wd):Bool:=match tn w with
 | some n=>decide (lo<=n) && decide (n<=hi)
 | none=>false
def num (lo hi:Int) (g:Int->Au):Au:=.need (Qc lo hi) fun w=>g ((tn w).getD 0)
abbrev kH:Wd:=[98,97,115,101]
abbrev kC:Wd:=[115,105,103,110]
abbrev qt:Wd:=[103,114,111,117,112,115]
abbrev jQ:Wd:=[112,111,105,110,116]
abbrev ZS:Wd:=[119,97,121]
abbrev jq:Wd:=[119,105,100,116,104]
abbrev jS:Wd:=[102,105,108,108]
abbrev jv:Wd:=[115,105,100,101]
abbrev zu:Wd:=[115,116,114,105,99,116]
abbrev zb:Wd:=[110,117,109,98,101,114]
abbrev ja:Wd:=[119,111,114,100]
abbrev qi:Wd:=[99,104,111,105,99,101]
abbrev jT:Wd:=[98,108,97,110,107]
def sgV (w:Wd):Nat:=if w=jT then 32 else w.getD 0 0
def sgn (g:Nat->Au):Au:=.need (fun w=>decide (w=jT) || decide (w.length=1)) fun w=>g (sgV w)
def Xp (ts:List Wd) (g:Wd->Au):Au:=.need (fun w=>decide (w ∈ ts)) g
def Ky:Wd->Bool
 | a::b::r=>decide (a < b) && Ky (b::r)
 | _=>true
def zGh:Str:="abcdefghijklmnopqrstuvwxyz"
def zEd:Str:="ABCDEFGHIJKLMNOPQRSTUVWXYZ"
def zFW:Str:="0123456789"
def Q6:Str:="!\"#$&'()*+,-./0123456789:;<=>?@ABCDEFGHIJKLMNOPQRSTUVWXYZ[\\]^_`abcdefghijklmnopqrstuvwxyz{|}~"
def tsg (w:Wd):Option Wd:=if w=Lt "lower" then some (Lt zGh) else if w=Lt "upper" then some (Lt zEd) else if w=Lt "figures" then some (Lt zFW) else if w=Lt "all" then some (Lt Q6) else
 if decide (w.getD 0 0=61) && decide (2<=w.length) && Ky (w.drop 1) then some (w.drop 1) else none
def zKS (g:Wd->Au):Au:=.need (fun w=>(tsg w).isSome) fun w=>g ((tsg w).getD [])
def Kj (ns:List Wd) (w:Wd):Bool:=decide (1<=w.length) && decide (w.length<=12) && decide (w ∉ ns)
def nms:Nat->List Wd->(List Wd->Au)->Au
 | 0,ns,g=>g ns
 | n+1,ns,g=>.need (Kj ns) fun w=>nms n (ns++[w]) g
def zDf:List Wd:=[Lt "minus", Lt "plus", Lt "blank", Lt "brackets", Lt "behind"]
def zCN:List Wd:=[Lt "down", Lt "up", Lt "cut", Lt "near", Lt "even"]
def YT:List Wd:=[Lt "left", Lt "right", Lt "middle"]
def zC3:List Wd:=[Lt "left", Lt "right", Lt "middle", Lt "inside"]
def zJ2 (g:Bool->Bool):Au:=.opt zu (.done (g true)) (.done (g false))
def zBt (ss:List Wd) (d:Wd) (g:Bool->Bool):Au:=.opt jv (Xp ss fun _=>zJ2 g) (zJ2 g)
def zAu (ss:List Wd) (d:Wd) (g:Bool->Bool):Au:=.opt jS (sgn fun _=>zBt ss d g) (zBt ss d g)
def Xm (ss:List Wd) (d:Wd) (g:Int->Bool->Bool):Au:=.opt jq (num 1 40 fun wd=>zAu ss d (g wd)) (zAu ss d (g 0))
def jp (pl:Int) (sn:Wd):Int:=1+(if 0 < pl then pl+1 else 0)+(if sn=Lt "plus" \/ sn=Lt "blank" then 1 else 0)
def okB (short wd:Int) (st:Bool):Bool:=!(st && decide (wd < short))
def zJ8 (pl:Int) (sn:Wd):Au:=.opt ZS (Xp zCN fun _=>Xm zC3 (Lt "right") (okB (jp pl sn))) (Xm zC3 (Lt "right") (okB (jp pl sn)))
def X9 (pl:Int) (sn:Wd):Au:=.opt jQ (sgn fun _=>zJ8 pl sn) (zJ8 pl sn)
def XQ (pl:Int) (sn:Wd):Au:=.opt qt (num 1 9 fun _=>sgn fun _=>X9 pl sn) (X9 pl sn)
def zCk (pl:Int):Au:=.opt kC (Xp zDf fun sn=>XQ pl sn) (XQ pl (Lt "minus"))
def zAJ (pl:Int):Au:=.opt kH (num 2 16 fun _=>zCk pl) (zCk pl)
def zHX:Au:=num 1 12 fun _=>num 0 6 fun pl=>zAJ pl
def WS (lo:Int):Au:=Xm YT (Lt "left") (okB lo)
def Vh (lo:Int):Au:=.opt jT (WS lo) (WS lo)
def Wg:Au:=zKS fun _=>num 0 24 fun lo=>num lo 24 fun _=>Vh lo
def Vz:List Wd->Int
 | []=>0
 | [t]=>t.length
 | t::u::r=>if (t.length:Int)<=Vz (u::r) then t.length else Vz (u::r)
def ZM (ns:List Wd):Au:=Xm YT (Lt "left") (okB (Vz ns))
def Qi:Au:=num 1 12 fun n=>nms n.toNat [] ZM
def Ws:List Wd:=[zb,ja,qi]
def p0:Au:=Xp Ws fun w=>if w=zb then zHX else if w=ja then Wg else Qi
structure Row where
 w:Wd
 role:Str
 lo:Int
 hi:Int
def dw (n:Int):Wd:=QS 10 n.toNat
def Xz (lo hi:Int):List Wd:=[[],[45,49],[48,49],[120],[49,46,48],[49,48,48],[43,49],[48,48],dw (hi+1),[49,97]]++(if 0 < lo then List.replicate 4 (dw (lo - 1)) else [])
def X0:List Wd:=[[],Lt "Width", Lt "7", Lt "basis", Lt "=", Lt "stricter", Lt "widths"]
def XH (kw:Wd):List Wd:=[[],Lt "center", Lt "Right", Lt "strict"]++(if kw=zb then [] else [Lt "inside"])
def Yo:List Wd:=[[],Lt "Number", Lt "numbers", Lt "form", Lt "0"]
def Ja:List Wd:=[[],Lt "Minus", Lt "none", Lt "left", Lt "+"]
def Wb:List Wd:=[[],Lt "nearest", Lt "Near", Lt "0"]
def Jy:List Wd:=[[],Lt "blanks", Lt "ab", Lt "--", Lt "Blank"]
def QR:List Wd:=[[],Lt "=", Lt "Lower", Lt "=ba", Lt "=aa", Lt "abc", Lt "blank", Lt "=a=", Lt "=acb"]
def J6 (ahead:List Wd):List Wd:=[[],Lt "abcdefghijklm"]++ahead
def Zl (kw:Wd) (pre:List Row) (r:Row):List Wd:=
 if r.role = "number" then Xz r.lo r.hi else if r.role = "name" then J6 ((pre.drop 2).map (·.w)) else if r.role = "side" then XH kw else if r.role = "kind" then Yo
 else if r.role = "style" then Ja else if r.role = "way" then Wb else if r.role = "sign" then Jy else if r.role = "signs" then QR else X0
def yW (kw:Wd):List Wd:=if kw=zb then [kH,kC,qt,jQ,ZS,jq,jS,jv,zu] else if kw=ja then [jT,jq,jS,jv,zu] else [jq,jS,jv,zu]
def Vy (kw:Wd) (j:Nat) (r:Row):Nat:=if r.role = "key" then (yW kw).idxOf r.w+1 else j
def zIh:Au->Bool
 | .need _ _=>true
 | _=>false
structure QZ (kw:Wd) (pre:List Row) (p:Au) (r:Row) (p':Au):Prop where
 go:p.step r.w=some p'
 rej : ∀ b ∈ Zl kw pre r,p.step b=none
 calm : ∀ k,p.bad k=k
 need:r.role ≠ "key" -> zIh p=true
structure Fin (kw:Wd) (st okS:Bool) (j:Nat) (p:Au):Prop where
 fin : ∀ k,p.fin k = -1
 calm : ∀ k,p.bad k=k
 rej : ∀ b,b ∉ (yW kw).drop j->p.step b=none
 str:p.step zu=if st=true then none else some (.done okS)
def V6 (kw:Wd) (st okS:Bool):List Row->Nat->Au->List Row->Prop
 | pre,j,p,[]=>Fin kw st okS j p
 | pre,j,p,r::rs=>∃ p',QZ kw pre p r p'/\V6 kw st okS (pre++[r]) (Vy kw j r) p' rs
def qu (rs:List Row):List Wd:=rs.map (·.w)
section
variable {kw : Wd} {st okS : Bool}
theorem WG : ∀ (rs:List Row) (pre:List Row) (j:Nat) (p:Au) (k:Int),V6 kw st okS pre j p rs->Au.run (qu rs) p k = -1
 | [],_,_,p,k,h=>h.fin k
 | r::rs,pre,j,p,k,h=>by
  obtain ⟨p',ok,g⟩:=h
  exact (yO ok.go).trans (WG rs _ _ p' (k+1) g)
theorem Jk {b:Wd} {tl:List Wd} : ∀ (rs:List Row) (pre:List Row) (j:Nat) (p:Au) (k:Int),V6 kw st okS pre j p rs->b ∉ (yW kw).drop (rs.foldl (Vy kw) j)->Au.run (qu rs++b::tl) p k=k+rs.length
 | [],_,_,p,k,h,hb=>by
  show Au.run (b::tl) p k=_
  rw [JZ (h.rej b hb),h.calm];show k=k+((0:Nat):Int);omega
 | r::rs,pre,j,p,k,h,hb=>by
  obtain ⟨p',ok,g⟩:=h
  refine (yO ok.go).trans ((Jk rs _ _ p' (k+1) g hb).trans ?_)
  rw [length_cons];omega
theorem Jp : ∀ (rs:List Row) (pre:List Row) (j:Nat) (p:Au) (k:Int),V6 kw st okS pre j p rs->Au.run (qu rs++[zu]) p k=if st=true\/okS=false then k+rs.length else -1
 | [],_,_,p,k,h=>by
  show Au.run [zu] p k=_
  have hs:=h.str
  cases st with
  | true =>
   rw [if_pos rfl] at hs
   rw [JZ hs,h.calm,if_pos (.inl rfl)];show k=k+((0:Nat):Int);omega
  | false =>
   rw [if_neg Bool.false_ne_true] at hs
   rw [yO hs]
   show (if okS=true then (-1:Int) else k+1 - 1)=_
   cases okS with
   | true=>rw [if_pos rfl,if_neg (by simp)]
   | false=>rw [if_neg Bool.false_ne_true,if_pos (.inr rfl)];show k+1 - 1=k+((0:Nat):Int);omega
 | r::rs,pre,j,p,k,h=>by
  obtain ⟨p',ok,g⟩:=h
  refine (yO ok.go).trans ((Jp rs _ _ p' (k+1) g).trans ?_)
  rw [length_cons]
  by_cases z:st=true\/okS=false
  ·rw [if_pos z,if_pos z];omega
  ·rw [if_neg z,if_neg z]
theorem JX {b:Wd} {tl:List Wd} : ∀ (rs:List Row) (pre:List Row) (j:Nat) (p:Au) (k:Int) (i:Nat) (hi:i < rs.length),V6 kw st okS pre j p rs->b ∈ Zl kw (pre++rs.take i) rs[i]->Au.run (qu (rs.take i)++b::tl) p k=k+i
 | r::rs,pre,j,p,k,0,hi,h,hb=>by
  obtain ⟨p',ok,g⟩:=h
  rw [List.take_zero,append_nil] at hb
  show Au.run (b::tl) p k=_
  rw [JZ (ok.rej b hb),ok.calm];show k=k+((0:Nat):Int);omega
 | r::rs,pre,j,p,k,i+1,hi,h,hb=>by
  obtain ⟨p',ok,g⟩:=h
  refine (yO ok.go).trans ((JX rs (pre++[r]) _ p' (k+1) i (Nat.lt_of_succ_lt_succ hi) g ?_).trans ?_)
  ·rw [append_assoc];exact hb
  ·omega
theorem WX : ∀ (rs:List Row) (pre:List Row) (j:Nat) (p:Au) (k:Int) (i:Nat) (hi:i < rs.length),V6 kw st okS pre j p rs->rs[i].role ≠ "key" -> Au.run (qu (rs.take i)) p k=k+i
 | r::rs,pre,j,p,k,0,hi,h,hb=>by
  obtain ⟨p',ok,g⟩:=h
  have hn:=ok.need hb
  show p.fin k=_
  cases p with
  | need c g=>show k=k+((0:Nat):Int);omega
  | opt _ _ _=>cases hn
  | done _=>cases hn
 | r::rs,pre,j,p,k,i+1,hi,h,hb=>by
  obtain ⟨p',ok,g⟩:=h
  refine (yO ok.go).trans ((WX rs (pre++[r]) _ p' (k+1) i (Nat.lt_of_succ_lt_succ hi) g hb).trans ?_)
  omega
end
variable {kw:Wd} {pre:List Row} {r:Row}
theorem Yi:[] ∈ Zl kw pre r:=by
 unfold Zl
 repeat' split
 all_goals exact mem_cons_self ..
def kr (key:Wd):Row:=⟨key, "key", 0,0⟩
def qm (c:Bool) (l:List Row):List Row:=if c=true then l else []
def sw (c:Nat):Wd:=if c=32 then jT else [c]
def Kd (kw:Wd):Prop:=kw=zb\/kw=ja\/kw=qi
theorem ZP (h:Kd kw):(yW kw).Nodup:=by rcases h with rfl | rfl | rfl <;> decide +kernel
theorem zEV (h:Kd kw) : ∀ b ∈ X0,b ∉ yW kw:=by rcases h with rfl | rfl | rfl <;> decide +kernel
theorem Kx (h:r.role = "key"):Zl kw pre r=X0:=by
 unfold Zl;rw [h];rfl
structure Ch (kw:Wd) (i:Nat) (p:Au):Prop where
 calm : ∀ k,p.bad k=k
 rej : ∀ b,b ∉ (yW kw).drop i->p.step b=none
variable {i:Nat} {p:Au}
theorem Ch.key (hk:Kd kw) (c:Ch kw i p) : ∀ b ∈ X0,p.step b=none:=fun b hb=>c.rej b fun z=>zEV hk b hb (mem_of_mem_drop z)
theorem Yl {α:Type} {l:List α} {a:α} (h:l[i]? = some a):l.drop i=a::l.drop (i+1):=by
 obtain ⟨hi,rfl⟩:=List.getElem?_eq_some_iff.mp h
 exact List.drop_eq_getElem_cons hi
variable {j:Nat}
theorem Zx {α:Type} {l:List α} {a:α} (h:a ∈ l.drop i) (hj:j<=i):a ∈ l.drop j:=by
 have e:l.drop i=(l.drop j).drop (i - j):=by rw [List.drop_drop];congr 1;omega
 rw [e] at h
 exact mem_of_mem_drop h
section
variable {kw : Wd} {st okS : Bool} {i : Nat} {key : Wd} {y n : Au} {rs : List Row}
theorem ZT (h:(yW kw)[i]? = some key) (c:Ch kw (i+1) n):Ch kw i (.opt key y n):=by
 refine ⟨c.calm,fun b hb=>?_⟩
 rw [Yl h,mem_cons,not_or] at hb
 exact (if_neg hb.1).trans (c.rej b hb.2)
structure Gch (kw:Wd) (st okS:Bool) (i:Nat) (p:Au) (rs:List Row):Prop where
 ch:Ch kw i p
 good : ∀ pre j,j<=i->V6 kw st okS pre j p rs
 hd:rs=[] \/ ∃ r rs',rs=r::rs'/\r.role = "key" /\ r.w ∈ (yW kw).drop i
theorem zJ0 (hk:Kd kw) (h:(yW kw)[i]? = some key) (ns:key≠zu) (g:Gch kw st okS (i+1) n rs):Gch kw st okS i (.opt key y n) rs:=by
 have c:=ZT (y:=y) h g.ch
 refine ⟨c,fun pre j hj=>?_,?_⟩
 ·have km:key ∈ (yW kw).drop j:=Zx (by rw [Yl h];exact mem_cons_self ..) hj
  have gj:=g.good pre j (by omega)
  rcases g.hd with rfl | ⟨r,rs',rfl,hr,hw⟩
  ·exact ⟨gj.fin,gj.calm,fun b hb=>(if_neg fun z=>hb (by rw [z];exact km)).trans (gj.rej b hb),(if_neg ns.symm).trans gj.str⟩
  ·obtain ⟨p',ok,g'⟩:=gj
   have ne:r.w≠key:=fun z=>by
    have nd:=List.Nodup.sublist (List.drop_sublist i _) (ZP hk)
    rw [Yl h,List.nodup_cons] at nd
    exact nd.1 (z ▸ hw)
   exact ⟨p',⟨(if_neg ne).trans ok.go,fun b hb=>c.key hk b (by rw [Kx hr] at hb;exact hb),c.calm,fun z=>absurd hr z⟩,g'⟩
 ·rcases g.hd with e | ⟨r,rs',e,hr,hw⟩
  ·exact .inl e
  ·exact .inr ⟨r,rs',e,hr,Zx hw (by omega)⟩
theorem zBv (hk:Kd kw) (h:(yW kw)[i]? = some key) (c:Ch kw i (.opt key y n)) (g : ∀ pre,V6 kw st okS pre (i+1) y rs):Gch kw st okS i (.opt key y n) (kr key::rs):=by
 have ix:(yW kw).idxOf key=i:=by
  obtain ⟨hi,e⟩:=List.getElem?_eq_some_iff.mp h
  rw [<- e];exact (ZP hk).idxOf_getElem i hi
 refine ⟨c,fun pre j hj=>⟨y,⟨if_pos rfl,fun b hb=>c.key hk b (by rw [Kx rfl] at hb;exact hb),c.calm,fun z=>absurd rfl z⟩,?_⟩,.inr ⟨_,_,rfl,rfl,?_⟩⟩
 ·have:Vy kw j (kr key)=i+1:=by
   show (if ("key" : Str) = "key" then (yW kw).idxOf key+1 else j)=_
   rw [if_pos rfl,ix]
  rw [this];exact g _
 ·show key ∈ _
  rw [Yl h];exact mem_cons_self ..
theorem yt {c:Bool} {l:List Row} {N:Au} (hk:Kd kw) (h:(yW kw)[i]? = some key) (ns:key≠zu) (cN:Ch kw (i+1) N) (gf:c=false->Gch kw st okS (i+1) N rs) (gt:c=true -> ∀ pre,V6 kw st okS pre (i+1) y (l++rs)):Gch kw st okS i (.opt key y N) (qm c (kr key::l)++rs):=by
 cases c with
 | true=>exact zBv hk h (ZT h cN) (gt rfl)
 | false=>exact zJ0 hk h ns (gf rfl)
end
section
variable {kw : Wd} {pre : List Row}
variable {w:Wd}
theorem Kk (h:xG 10 w):dgB w=true:=by
 unfold dgB
 rw [all_eq_true]
 intro c hc
 obtain ⟨h1,h2,h3⟩:=h c hc
 unfold fv at h2 h3
 split at h2 <;> rename_i q
 ·simp [q]
 ·rw [if_neg q] at h3
  split at h2 <;> rename_i q2
  ·rw [if_pos q2] at h3;omega
  ·omega
theorem zFm (h:dgB w=true):xG 10 w:=fun c hc=>by
 unfold dgB at h
 have:=List.all_eq_true.mp h c hc
 simp only [Bool.and_eq_true,decide_eq_true_eq] at this
 unfold fv
 rw [if_pos this];omega
variable {n:Int}
theorem zAj (h0:0<=n):xG 10 (dw n)/\val 10 (dw n)=n/\1<=(dw n).length/\((dw n).getD 0 0=48->(dw n).length=1):=by
 obtain ⟨a,b,c,d⟩:=XM (b:=10) (by decide) (by decide) n.toNat n.toNat (Nat.le_refl _)
 refine ⟨a,?_,zDc (by decide),fun z=>?_⟩
 ·unfold dw
  rw [show ((10:Int))=((10:Nat):Int) from rfl,b];omega
 ·have:=d z
  unfold dw
  rw [this,xM (by decide)];rfl
theorem zD4 (h0:0<=n):tn (dw n)=some n:=by
 obtain ⟨a,b,c,d⟩:=zAj h0
 unfold tn
 rw [if_pos,b]
 rw [Kk a,decide_eq_true c]
 by_cases z:(dw n).getD 0 0=48
 ·simp [d z]
 ·simp only [ne_eq,z,not_false_eq_true,decide_true,Bool.true_or,Bool.and_self]
variable {lo hi:Int}
theorem Za {b:Wd} (h:tn b=none):Qc lo hi b=false:=by unfold Qc;rw [h]
theorem Jc {b:Wd} (h:tn b=some n) (hn:n < lo\/hi < n):Qc lo hi b=false:=by
 unfold Qc;rw [h]
 rcases hn with q | q
 ·show (decide (lo<=n) && decide (n<=hi))=false
  rw [decide_eq_false (by omega)];rfl
 ·show (decide (lo<=n) && decide (n<=hi))=false
  rw [decide_eq_false (show ¬ n<=hi by omega),Bool.and_false]
theorem zJd (h0:0<=n) (h1:lo<=n) (h2:n<=hi):Qc lo hi (dw n)=true:=by
 unfold Qc;rw [zD4 h0]
 show (decide (lo<=n) && decide (n<=hi))=true
 rw [decide_eq_true h1,decide_eq_true h2];rfl
theorem w6 {g:Int->Au} (h0:0<=lo) (h1:lo<=n) (h2:n<=hi) (h3:hi<=40):QZ kw pre (num lo hi g) ⟨dw n, "number", lo,hi⟩ (g n):=by
 refine ⟨?_,fun b hb=>?_,fun _=>rfl,fun _=>rfl⟩
 ·show (if Qc lo hi (dw n)=true then some (g ((tn (dw n)).getD 0)) else none)=_
  rw [if_pos (zJd (by omega) h1 h2),zD4 (by omega)];rfl
 ·show (if Qc lo hi b=true then some (g ((tn b).getD 0)) else none)=none
  have hb':b ∈ Xz lo hi:=hb
  have:Qc lo hi b=false:=by
   rcases List.mem_append.mp hb' with hb | hb
   ·simp only [mem_cons,not_mem_nil,or_false] at hb
    rcases hb with rfl | rfl | rfl | rfl | rfl | rfl | rfl | rfl | rfl | rfl
    ·exact Za (by decide +kernel)
    ·exact Za (by decide +kernel)
    ·exact Za (by decide +kernel)
    ·exact Za (by decide +kernel)
    ·exact Za (by decide +kernel)
    ·exact Jc (n:=100) (by decide +kernel) (.inr (by omega))
    ·exact Za (by decide +kernel)
    ·exact Za (by decide +kernel)
    ·exact Jc (zD4 (by omega)) (.inr (by omega))
    ·exact Za (by decide +kernel)
   ·by_cases z:0 < lo
    ·rw [if_pos z] at hb
     rw [List.eq_of_mem_replicate hb]
     exact Jc (zD4 (by omega)) (.inl (by omega))
    ·rw [if_neg z] at hb;cases hb
  rw [this];rfl
theorem zHi {c:Nat}:sgV (sw c)=c:=by
 unfold sw sgV
 by_cases z:c=32
 ·rw [if_pos z,if_pos rfl,z]
 ·rw [if_neg z,if_neg (by intro h;have:=congrArg List.length h;simp at this)];rfl
theorem KQ {c:Nat} {g:Nat->Au}:QZ kw pre (sgn g) ⟨sw c, "sign", 0,0⟩ (g c):=by
 refine ⟨?_,fun b hb=>?_,fun _=>rfl,fun _=>rfl⟩
 ·show (if (decide (sw c=jT) || decide ((sw c).length=1))=true then some (g (sgV (sw c))) else none)=_
  rw [zHi,if_pos]
  unfold sw
  by_cases z:c=32
  ·rw [if_pos z];rfl
  ·rw [if_neg z];simp
 ·show (if (decide (b=jT) || decide (b.length=1))=true then some (g (sgV b)) else none)=none
  have hb':b ∈ Jy:=hb
  have:(decide (b=jT) || decide (b.length=1))=false:=(show ∀ b ∈ Jy,(decide (b=jT) || decide (b.length=1))=false by decide +kernel) b hb'
  rw [this];rfl
variable {g:Wd->Au}
theorem WH {ts:List Wd} {role:Str} (hw:w ∈ ts) (hb : ∀ b ∈ Zl kw pre ⟨w,role,0,0⟩,b ∉ ts):QZ kw pre (Xp ts g) ⟨w,role,0,0⟩ (g w):=by
 refine ⟨?_,fun b h=>?_,fun _=>rfl,fun _=>rfl⟩
 ·show (if decide (w ∈ ts)=true then some (g w) else none)=_
  rw [if_pos (decide_eq_true hw)]
 ·show (if decide (b ∈ ts)=true then some (g b) else none)=none
  rw [if_neg (by simpa using hb b h)]
theorem zB0 (hw:w ∈ zDf):QZ kw pre (Xp zDf g) ⟨w, "style", 0,0⟩ (g w):=WH hw (show ∀ b ∈ Ja,b ∉ zDf by decide +kernel)
theorem zGZ (hw:w ∈ zCN):QZ kw pre (Xp zCN g) ⟨w, "way", 0,0⟩ (g w):=WH hw (show ∀ b ∈ Wb,b ∉ zCN by decide +kernel)
def zEF (kw:Wd):List Wd:=if kw=zb then zC3 else YT
def zJC (kw:Wd):Wd:=if kw=zb then Lt "right" else Lt "left"
theorem zDJ (hk:Kd kw) (hw:w ∈ zEF kw):QZ kw pre (Xp (zEF kw) g) ⟨w, "side", 0,0⟩ (g w):=WH hw (by
 have : ∀ b ∈ XH kw,b ∉ zEF kw:=by rcases hk with rfl | rfl | rfl <;> decide +kernel
 exact this)
theorem Ya (hw:w ∈ Ws):QZ kw pre (Xp Ws g) ⟨w, "kind", 0,0⟩ (g w):=WH hw (show ∀ b ∈ Yo,b ∉ Ws by decide +kernel)
theorem zCm {sg:Wd} (h:tsg w=some sg):QZ kw pre (zKS g) ⟨w, "signs", 0,0⟩ (g sg):=by
 refine ⟨?_,fun b hb=>?_,fun _=>rfl,fun _=>rfl⟩
 ·show (if (tsg w).isSome=true then some (g ((tsg w).getD [])) else none)=_
  rw [h];rfl
 ·show (if (tsg b).isSome=true then some (g ((tsg b).getD [])) else none)=none
  have hb':b ∈ QR:=hb
  have:(tsg b).isSome=false:=(show ∀ b ∈ QR,(tsg b).isSome=false by decide +kernel) b hb'
  rw [this];rfl
theorem zDz {ns:List Wd} (h1:1<=w.length) (h2:w.length<=12) (h3:w ∉ ns) (hp:(pre.drop 2).map (·.w)=ns):QZ kw pre (.need (Kj ns) g) ⟨w, "name", 0,0⟩ (g w):=by
 refine ⟨?_,fun b hb=>?_,fun _=>rfl,fun _=>rfl⟩
 ·show (if Kj ns w=true then some (g w) else none)=_
  rw [if_pos]
  unfold Kj
  rw [decide_eq_true h1,decide_eq_true h2,decide_eq_true h3];rfl
 ·show (if Kj ns b=true then some (g b) else none)=none
  have hb':b ∈ J6 ((pre.drop 2).map (·.w)):=hb
  rw [hp] at hb'
  have:Kj ns b=false:=by
   unfold Kj
   rcases List.mem_append.mp hb' with q | q
   ·simp only [mem_cons,not_mem_nil,or_false] at q
    rcases q with rfl | rfl
    ·rfl
    ·rw [show decide ((Lt "abcdefghijklm").length<=12)=false by decide +kernel];simp
   ·rw [decide_eq_false (not_not_intro q)];simp
  rw [this];rfl
end
section
variable {kw : Wd} {st okS : Bool} {i : Nat}
def jP (wd:Int) (f:Nat) (x:Wd) (cf cs st:Bool):List Row:=qm (decide (0 < wd)) [kr jq,⟨dw wd, "number", 1,40⟩]++(qm cf [kr jS,⟨sw f, "sign", 0,0⟩]++(qm cs [kr jv,⟨x, "side", 0,0⟩]++(qm st [kr zu]++[])))
structure L4 (kw:Wd) (i:Nat):Prop where
 a:(yW kw)[i]? = some jq
 b:(yW kw)[i+1]? = some jS
 c:(yW kw)[i+2]? = some jv
 d:(yW kw)[i+3]? = some zu
 e:(yW kw).length=i+4
variable {g:Bool->Bool}
theorem Vg (l:L4 kw i) (h:g false=true):Ch kw (i+3) (zJ2 g):=ZT l.d ⟨fun k=>by show (if g false=true then k else k - 1)=k;rw [if_pos h],fun _ _=>rfl⟩
variable {ss:List Wd}
theorem zB2 (l:L4 kw i) {d:Wd} (h:g false=true):Ch kw (i+2) (zBt ss d g):=ZT l.c (Vg l h)
theorem zBQ (l:L4 kw i) {d:Wd} (h:g false=true):Ch kw (i+1) (zAu ss d g):=ZT l.b (zB2 l h)
theorem zBC (l:L4 kw i) {g:Int->Bool->Bool} {d:Wd} (h : ∀ wd,g wd false=true):Ch kw i (Xm ss d g):=ZT l.a (zBQ l (h 0))
theorem zGH (hk:Kd kw) (l:L4 kw i) (h:g false=true) (h1:g true=okS) (hs:st=true->okS=true):Gch kw st okS (i+3) (zJ2 g) (qm st [kr zu]++[]):=by
 cases st with
 | true =>
  refine zBv hk l.d (Vg l h) fun pre=>?_
  have e:(Au.done (g true)) = .done true:=by rw [h1,hs rfl]
  show Fin kw true okS (i+4) (.done (g true))
  rw [e]
  exact ⟨fun _=>rfl,fun _=>rfl,fun _ _=>rfl,rfl⟩
 | false =>
  refine ⟨Vg l h,fun pre j hj=>?_,.inl rfl⟩
  have c:=Vg l h
  refine ⟨fun k=>?_,c.calm,fun b hb=>c.rej b fun z=>hb (Zx z hj),?_⟩
  ·show (if g false=true then (-1:Int) else k - 1) = -1
   rw [if_pos h]
  ·show (if zu=zu then some (Au.done (g true)) else none)=_
   rw [if_pos rfl,h1];rfl
theorem Yh (hk:Kd kw) (l:L4 kw i) {G:Int->Bool->Bool} {wd:Int} {f:Nat} {x:Wd} {cf cs:Bool} (h : ∀ wd,G wd false=true) (h1:G wd true=okS) (hs:st=true->okS=true) (w0:0<=wd) (w1:wd<=40) (hx:x ∈ zEF kw) :
  Gch kw st okS i (Xm (zEF kw) (zJC kw) G) (jP wd f x cf cs st):=by
 have g3:=zGH (st:=st) hk l (h wd) h1 hs
 have g2:Gch kw st okS (i+2) (zBt (zEF kw) (zJC kw) (G wd)) (qm cs [kr jv,⟨x, "side", 0,0⟩]++(qm st [kr zu]++[])):=
  yt hk l.c (by decide) (Vg l (h wd)) (fun _=>g3) fun _ pre=>⟨_,zDJ hk hx,g3.good _ _ (Nat.le_refl _)⟩
 have g1:Gch kw st okS (i+1) (zAu (zEF kw) (zJC kw) (G wd)) (qm cf [kr jS,⟨sw f, "sign", 0,0⟩]++(qm cs [kr jv,⟨x, "side", 0,0⟩]++(qm st [kr zu]++[]))):=
  yt hk l.b (by decide) (zB2 l (h wd)) (fun _=>g2) fun _ pre=>⟨_,KQ,g2.good _ _ (Nat.le_refl _)⟩
 refine yt hk l.a (by decide) (zBQ l (h 0)) (fun hc=>?_) fun hc pre=>⟨_,w6 (by decide) (by have:=of_decide_eq_true hc;omega) w1 (by decide),g1.good _ _ (Nat.le_refl _)⟩
 have:wd=0:=by have:=of_decide_eq_false hc;omega
 subst this;exact g1
end
section
variable {kw : Wd} {pre : List Row}
theorem zJg:QZ kw pre p0 ⟨zb, "kind", 0,0⟩ zHX:=by
 have h:=Ya (kw:=kw) (pre:=pre) (w:=zb) (mem_cons_self ..) (g:=fun w=>if w=zb then zHX else if w=ja then Wg else Qi)
 rw [if_pos rfl] at h;exact h
theorem zIC:QZ kw pre p0 ⟨ja, "kind", 0,0⟩ Wg:=by
 have h:=Ya (kw:=kw) (pre:=pre) (w:=ja) (mem_cons_of_mem _ (mem_cons_self ..)) (g:=fun w=>if w=zb then zHX else if w=ja then Wg else Qi)
 rw [if_neg (by decide),if_pos rfl] at h;exact h
theorem zHu:QZ kw pre p0 ⟨qi, "kind", 0,0⟩ Qi:=by
 have h:=Ya (kw:=kw) (pre:=pre) (w:=qi) (mem_cons_of_mem _ (mem_cons_of_mem _ (mem_cons_self ..))) (g:=fun w=>if w=zb then zHX else if w=ja then Wg else Qi)
 rw [if_neg (by decide),if_neg (by decide)] at h;exact h
end
theorem q4N:L4 zb 5:=⟨by decide,by decide,by decide,by decide,by decide⟩
theorem q4W:L4 ja 1:=⟨by decide,by decide,by decide,by decide,by decide⟩
theorem q4C:L4 qi 0:=⟨by decide,by decide,by decide,by decide,by decide⟩
variable {wd:Int}
theorem zBE {s:Int}:okB s wd false=true:=rfl
theorem zHK {s:Int}:okB s wd true=decide (s<=wd):=by
 unfold okB
 by_cases h:s<=wd
 ·rw [decide_eq_true h,decide_eq_false (show ¬ wd < s by omega)];rfl
 ·rw [decide_eq_false h,decide_eq_true (show wd < s by omega)];rfl
def Kc (fg pl b:Int) (sn:Wd) (z:Int) (m pt:Nat) (wy:Wd) (cb cg cp cw:Bool) (rl:List Row):List Row:=⟨zb, "kind", 0,0⟩::⟨dw fg, "number", 1,12⟩::⟨dw pl, "number", 0,6⟩::(qm cb [kr kH,⟨dw b, "number", 2,16⟩]++(qm cg [kr kC,⟨sn, "style", 0,0⟩]++(qm (decide (0 < z)) [kr qt,⟨dw z, "number", 1,9⟩,⟨sw m, "sign", 0,0⟩]++(qm cp [kr jQ,⟨sw pt, "sign", 0,0⟩]++(qm cw [kr ZS,⟨wy, "way", 0,0⟩]++rl)))))
variable {fg pl z:Int} {m f:Nat} {cf cs st:Bool} {x:Wd}
theorem zCu {b:Int} {sn:Wd} {pt:Nat} {wy:Wd} {cb cg cp cw:Bool} (f1:1<=fg) (f2:fg<=12) (p1:0<=pl) (p2:pl<=6) (b1:2<=b) (b2:b<=16) (hs:sn ∈ zDf) (z1:0<=z) (z2:z<=9) (hw:wy ∈ zCN) (w0:0<=wd) (w1:wd<=40) (hx:x ∈ zC3)
  (i2:cg=false->sn=Lt "minus") (hst:st=true->jp pl sn<=wd) :
  V6 zb st (decide (jp pl sn<=wd)) [] 0 p0 (Kc fg pl b sn z m pt wy cb cg cp cw (jP wd f x cf cs st)):=by
 have hk:Kd zb:=.inl rfl
 have cl : ∀ sn',Ch zb 5 (Xm (zEF zb) (zJC zb) (okB (jp pl sn'))):=fun sn'=>zBC q4N fun _=>zBE
 have cw' : ∀ sn',Ch zb 4 (zJ8 pl sn'):=fun sn'=>ZT (by decide) (cl sn')
 have cp' : ∀ sn',Ch zb 3 (X9 pl sn'):=fun sn'=>ZT (by decide) (cw' sn')
 have cg' : ∀ sn',Ch zb 2 (XQ pl sn'):=fun sn'=>ZT (by decide) (cp' sn')
 have cs':Ch zb 1 (zCk pl):=ZT (by decide) (cg' _)
 have g5:Gch zb st (decide (jp pl sn<=wd)) 5 (Xm (zEF zb) (zJC zb) (okB (jp pl sn))) (jP wd f x cf cs st):=Yh hk q4N (fun _=>zBE) zHK (fun h=>decide_eq_true (hst h)) w0 w1 hx
 have g4:Gch zb st (decide (jp pl sn<=wd)) 4 (zJ8 pl sn) (qm cw [kr ZS,⟨wy, "way", 0,0⟩]++jP wd f x cf cs st):=
  yt hk (by decide) (by decide) (cl sn) (fun _=>g5) fun _ pre=>⟨_,zGZ hw,g5.good _ _ (Nat.le_refl _)⟩
 have g3:Gch zb st (decide (jp pl sn<=wd)) 3 (X9 pl sn) (qm cp [kr jQ,⟨sw pt, "sign", 0,0⟩]++(qm cw [kr ZS,⟨wy, "way", 0,0⟩]++jP wd f x cf cs st)):=
  yt hk (by decide) (by decide) (cw' sn) (fun _=>g4) fun _ pre=>⟨_,KQ,g4.good _ _ (Nat.le_refl _)⟩
 have g2:Gch zb st (decide (jp pl sn<=wd)) 2 (XQ pl sn) (qm (decide (0 < z)) [kr qt,⟨dw z, "number", 1,9⟩,⟨sw m, "sign", 0,0⟩]++(qm cp [kr jQ,⟨sw pt, "sign", 0,0⟩]++(qm cw [kr ZS,⟨wy, "way", 0,0⟩]++jP wd f x cf cs st))):=
  yt hk (by decide) (by decide) (cp' sn) (fun _=>g3) fun hc pre=>⟨_,w6 (by decide) (by have:=of_decide_eq_true hc;omega) z2 (by decide),_,KQ,g3.good _ _ (Nat.le_refl _)⟩
 have g1:Gch zb st (decide (jp pl sn<=wd)) 1 (zCk pl) (qm cg [kr kC,⟨sn, "style", 0,0⟩]++(qm (decide (0 < z)) [kr qt,⟨dw z, "number", 1,9⟩,⟨sw m, "sign", 0,0⟩]++(qm cp [kr jQ,⟨sw pt, "sign", 0,0⟩]++(qm cw [kr ZS,⟨wy, "way", 0,0⟩]++jP wd f x cf cs st)))):=
  yt hk (by decide) (by decide) (cg' _) (fun hc=>by rw [<- i2 hc];exact g2) fun _ pre=>⟨_,zB0 hs,g2.good _ _ (Nat.le_refl _)⟩
 have g0:Gch zb st (decide (jp pl sn<=wd)) 0 (zAJ pl) (qm cb [kr kH,⟨dw b, "number", 2,16⟩]++(qm cg [kr kC,⟨sn, "style", 0,0⟩]++(qm (decide (0 < z)) [kr qt,⟨dw z, "number", 1,9⟩,⟨sw m, "sign", 0,0⟩]++(qm cp [kr jQ,⟨sw pt, "sign", 0,0⟩]++(qm cw [kr ZS,⟨wy, "way", 0,0⟩]++jP wd f x cf cs st))))):=
  yt hk (by decide) (by decide) cs' (fun _=>g1) fun hc pre=>⟨_,w6 (by decide) b1 b2 (by decide),g1.good _ _ (Nat.le_refl _)⟩
 exact ⟨_,zJg,_,w6 (g:=fun _=>num 0 6 fun pl=>zAJ pl) (by decide) f1 f2 (by decide),_,w6 (g:=fun pl=>zAJ pl) (by decide) p1 p2 (by decide),g0.good _ _ (Nat.le_refl _)⟩
def zAK (w:Wd) (lo hi:Int) (cb:Bool) (rl:List Row):List Row:=⟨ja, "kind", 0,0⟩::⟨w, "signs", 0,0⟩::⟨dw lo, "number", 0,24⟩::⟨dw hi, "number", lo,24⟩::(qm cb [kr jT]++rl)
variable {w:Wd} {lo hi:Int}
theorem zAp {sg:Wd} {cb:Bool} (hw:tsg w=some sg) (l0:0<=lo) (l1:lo<=hi) (l2:hi<=24) (w0:0<=wd) (w1:wd<=40) (hx:x ∈ YT) (hst:st=true->lo<=wd) :
  V6 ja st (decide (lo<=wd)) [] 0 p0 (zAK w lo hi cb (jP wd f x cf cs st)):=by
 have hk:Kd ja:=.inr (.inl rfl)
 have g1:Gch ja st (decide (lo<=wd)) 1 (WS lo) (jP wd f x cf cs st):=Yh hk q4W (fun _=>zBE) zHK (fun h=>decide_eq_true (hst h)) w0 w1 hx
 have g0:Gch ja st (decide (lo<=wd)) 0 (Vh lo) (qm cb [kr jT]++jP wd f x cf cs st):=yt hk (by decide) (by decide) (zBC q4W fun _=>zBE) (fun _=>g1) fun _ pre=>g1.good _ _ (Nat.le_refl _)
 exact ⟨_,zIC,_,zCm (g:=fun _=>num 0 24 fun lo=>num lo 24 fun _=>Vh lo) hw,_,w6 (g:=fun lo=>num lo 24 fun _=>Vh lo) (by decide) l0 (by omega) (by decide),_,w6 (g:=fun _=>Vh lo) l0 l1 l2 (by decide),g0.good _ _ (Nat.le_refl _)⟩
def zAR (t:Wd):Row:=⟨t, "name", 0,0⟩
def ZB (ns:List Wd) (rl:List Row):List Row:=⟨qi, "kind", 0,0⟩::⟨dw ns.length, "number", 1,12⟩::(ns.map zAR++rl)
theorem YK {st okS:Bool} {g:List Wd->Au} {rl:List Row} {r1 r2:Row} : ∀ (ts ns:List Wd),(∀ t ∈ ts,1<=t.length/\t.length<=12)->(ns++ts).Nodup->(∀ pre,V6 qi st okS pre 0 (g (ns++ts)) rl)->V6 qi st okS (r1::r2::ns.map zAR) 0 (nms ts.length ns g) (ts.map zAR++rl)
 | [],ns,_,_,h=>by
  rw [append_nil] at h
  exact h _
 | t::ts,ns,hl,nd,h=>by
  have ht:=hl t (mem_cons_self ..)
  have hn:t ∉ ns:=fun z=>(List.nodup_append.mp nd).2.2 t z t (mem_cons_self ..) rfl
  refine ⟨_,zDz ht.1 ht.2 hn ?_,?_⟩
  ·show (ns.map zAR).map (·.w)=ns
   rw [map_map];exact List.map_id _
  ·have ih:=YK (st:=st) (okS:=okS) (g:=g) (rl:=rl) (r1:=r1) (r2:=r2) ts (ns++[t]) (fun u hu=>hl u (mem_cons_of_mem _ hu)) (by rw [append_assoc];exact nd) (by rw [append_assoc];exact h)
   rw [map_append] at ih
   exact ih
theorem V7 {ns:List Wd} (n1:1<=ns.length) (n2:ns.length<=12) (hl : ∀ t ∈ ns,1<=t.length/\t.length<=12) (nd:ns.Nodup) (w0:0<=wd) (w1:wd<=40) (hx:x ∈ YT) (hst:st=true->Vz ns<=wd) :
  V6 qi st (decide (Vz ns<=wd)) [] 0 p0 (ZB ns (jP wd f x cf cs st)):=by
 have hk:Kd qi:=.inr (.inr rfl)
 have g0:Gch qi st (decide (Vz ns<=wd)) 0 (ZM ns) (jP wd f x cf cs st):=Yh hk q4C (fun _=>zBE) zHK (fun h=>decide_eq_true (hst h)) w0 w1 hx
 refine ⟨_,zHu,_,w6 (g:=fun n=>nms n.toNat [] ZM) (by decide) (by omega) (by omega) (by decide),?_⟩
 have:=YK (st:=st) (okS:=decide (Vz ns<=wd)) (g:=ZM) (rl:=jP wd f x cf cs st) (r1:=⟨qi, "kind", 0,0⟩) (r2:=⟨dw ns.length, "number", 1,12⟩) ns [] hl nd fun pre=>g0.good _ _ (Nat.le_refl _)
 exact this
def SqM (K:W.Frag) (p:Addr) (xs:List V):Prop:=∀ H:Hp,SqT K H p xs
def Zw (n v:Str):Prop:=(n = "lower" /\ v=zGh)\/(n = "upper" /\ v=zEd)\/(n = "figures" /\ v=zFW)\/(n = "all" /\ v=Q6)
structure WF (w:World) (K:W.Frag) (d:Addr):Prop where
 get : ∀ n v,Zw n v->KDt w K d n v
 has : ∀ n v,Zw n v->KDi w K d n true
 no : ∀ l:List Nat,(∀ n v,Zw n v->l≠Lt n)->KDi w K d (T l) false
theorem Qw {x:Str} {t:Tok} (h:T (Lt x)=x):jz (V.str (T (Lt x))) (.str x t):=⟨t,by rw [h]⟩
variable {K:W.Frag} {n:Nat} {t2:Tok}
theorem sqm_ways {p:Addr} {t0 t1 t3 t4:Tok} (h:K.lookup p=some { cls:=.type "tuple", data:=.seq #[.str "down" t0,.str "up" t1,.str "cut" t2,.str "near" t3,.str "even" t4] n }):SqM K p (tsV zCN):=fun H=>.mod (its:=[.str "down" t0,.str "up" t1,.str "cut" t2,.str "near" t3,.str "even" t4]) h (by simp) (.cons (Qw (by decide +kernel)) (.cons (Qw (by decide +kernel)) (.cons (Qw (by decide +kernel)) (.cons (Qw (by decide +kernel)) (.cons (Qw (by decide +kernel)) .nil)))))
theorem sqm_sides {p:Addr} {t0 t1:Tok} (h:K.lookup p=some { cls:=.type "tuple", data:=.seq #[.str "left" t0,.str "right" t1,.str "middle" t2] n }):SqM K p (tsV YT):=fun H=>.mod (its:=[.str "left" t0,.str "right" t1,.str "middle" t2]) h (by simp) (.cons (Qw (by decide +kernel)) (.cons (Qw (by decide +kernel)) (.cons (Qw (by decide +kernel)) .nil)))
variable {n0:Nat}
theorem sgsets_mk {w:World} {d:Addr} {t0 t1 t3 u0 u1 u2 u3:Tok} (lo:(d == sysModules)=false)
  (hd:K.lookup d=some { cls:=.type "dict", data:=.dict #[⟨PyData.keyHash w.params "lower", .str "lower" t0,.str zGh u0⟩,⟨PyData.keyHash w.params "upper", .str "upper" t1,.str zEd u1⟩,⟨PyData.keyHash w.params "figures", .str "figures" t2,.str zFW u2⟩,⟨PyData.keyHash w.params "all", .str "all" t3,.str Q6 u3⟩] n0 }):WF w K d:=by
 have ks : ∀ e,e ∈ #[(⟨PyData.keyHash w.params "lower", .str "lower" t0,.str zGh u0⟩:DictEntry),⟨PyData.keyHash w.params "upper", .str "upper" t1,.str zEd u1⟩,⟨PyData.keyHash w.params "figures", .str "figures" t2,.str zFW u2⟩,⟨PyData.keyHash w.params "all", .str "all" t3,.str Q6 u3⟩] -> ∃ k,Value.isStrOf k e.key=true/\e.hash=hashStr w k:=by
  intro e he
  simp only [List.mem_toArray,mem_cons,not_mem_nil,or_false] at he
  rcases he with rfl | rfl | rfl | rfl
  ·exact ⟨"lower", by simp [Value.isStrOf],rfl⟩
  ·exact ⟨"upper", by simp [Value.isStrOf],rfl⟩
  ·exact ⟨"figures", by simp [Value.isStrOf],rfl⟩
  ·exact ⟨"all", by simp [Value.isStrOf],rfl⟩
 have fd : ∀ n v,Zw n v -> ∃ u,findBy Value.isStrOf #[(⟨PyData.keyHash w.params "lower", .str "lower" t0,.str zGh u0⟩:DictEntry),⟨PyData.keyHash w.params "upper", .str "upper" t1,.str zEd u1⟩,⟨PyData.keyHash w.params "figures", .str "figures" t2,.str zFW u2⟩,⟨PyData.keyHash w.params "all", .str "all" t3,.str Q6 u3⟩] n=some (.str v u):=by
  intro n v hk
  unfold findBy
  simp only [List.find?_toArray,List.find?_cons]
  rcases hk with ⟨rfl,rfl⟩ | ⟨rfl,rfl⟩ | ⟨rfl,rfl⟩ | ⟨rfl,rfl⟩
  ·exact ⟨u0,rfl⟩
  ·exact ⟨u1,rfl⟩
  ·exact ⟨u2,rfl⟩
  ·exact ⟨u3,rfl⟩
 refine ⟨fun n v hk=>?_,fun n v hk=>?_,fun l hl=>?_⟩
 ·obtain ⟨u,h⟩:=fd n v hk
  exact ⟨_,_,u,hd,ks,h⟩
 ·obtain ⟨u,h⟩:=fd n v hk
  exact ⟨lo,_,_,hd,ks,by rw [h];rfl⟩
 ·refine ⟨lo,_,_,hd,ks,?_⟩
  have no : ∀ z v:Str,Zw z v -> ∀ t,Value.isStrOf (T l) (.str z t)=false:=fun z v hz t=>by
   have:T l≠z:=fun e=>hl z v hz (by rw [<- e,Xr])
   simp [Value.isStrOf]
   first | exact this | exact fun e=>this e.symm
  unfold findBy
  simp only [List.find?_toArray,List.find?_cons]
  rw [no "lower" _ (.inl ⟨rfl,rfl⟩),no "upper" _ (.inr (.inl ⟨rfl,rfl⟩)),no "figures" _ (.inr (.inr (.inl ⟨rfl,rfl⟩))),no "all" _ (.inr (.inr (.inr ⟨rfl,rfl⟩)))]
  rfl
structure Zs (w:World) (K:W.Frag) (mg:Str->Option Value) (je jJ qA ji jg xU yw zO Z3 zJ zV zU zL qY jY Q4 jO:Addr) (wW jV:Tok):Prop where
 kn:Kn K mg
 ab:mg "PadError" = some (.ref je)
 ac:mg "NoNumber" = some (.ref jJ)
 ad:mg "NoFigures" = some (.ref qA)
 ae:mg "NoValue" = some (.ref ji)
 af:mg "TooWide" = some (.ref jg)
 ag:mg "NoText" = some (.ref xU)
 ah:mg "NoRow" = some (.ref yw)
 ai:mg "NoForm" = some (.ref zO)
 aj:mg "Form" = some (.ref Z3)
 ak:mg "NumberForm" = some (.ref zJ)
 al:mg "WordForm" = some (.ref zV)
 am:mg "ChoiceForm" = some (.ref zU)
 an:mg "Words" = some (.ref zL)
 ao:mg "len" = none
 ap:mg "range" = none
 aq:mg "isinstance" = none
 ar:mg "str" = none
 au:mg "max" = none
 av:mg "min" = none
 aw:mg "int" = none
 ax:mg "bool" = none
 ay:mg "abs" = none
 az:mg "list" = none
 aA:mg "tuple" = none
 aB:mg "all" = none
 aC:mg "ValueError" = none
 aD:mg "FIGURES" = some (.str "0123456789abcdef" wW)
 aE:mg "MOST_FIGURES" = some (.int 240 jV)
 aF:mg "SIGN_SETS" = some (.ref qY)
 aG:mg "STYLES" = some (.ref jY)
 aH:mg "WAYS" = some (.ref Q4)
 aI:mg "SIDES" = some (.ref jO)
 aJ:Sty w K jY
 f0:Dmx K "NoForm.__init__" "__init__" yY zO [zO]
 f1:Dmx K "Words.__init__" "__init__" y6 zL [zL]
 f2:Dmx K "Words.peek" "peek" JA zL [zL]
 f3:Dmx K "Words.go_past" "go_past" ke zL [zL]
 f4:Dmx K "Words.has_clause" "has_clause" yC zL [zL]
 f5:Dfx K "figures_of" Q9
 f6:Dfx K "number_of" Xa
 f7:Dfx K "told_number" QB
 f8:Dfx K "is_rising" XA
 f9:Dfx K "told_signs" Qz
 aU:Dmx K "Words.take_number" "take_number" xg zL [zL]
 aV:Dmx K "Words.take_sign" "take_sign" yn zL [zL]
 aW:Dmx K "Words.take_one_of" "take_one_of" xh zL [zL]
 aX:Dmx K "Words.take_signs" "take_signs" yG zL [zL]
 aY:Dmx K "Words.take_name" "take_name" ym zL [zL]
 aZ:Dfx K "power_of" Xx
 a0:Dfx K "goes_up" Vc
 a1:Dfx K "gridded" Ve
 a2:Dfx K "parts_of" X1
 a3:Dfx K "grouped" Vs
 a4:Dfx K "body_of" VC
 a5:Dfx K "ends_of" Vw
 a6:Dfx K "signed" K5
 a7:Dfx K "is_whole" YI
 a8:Dfx K "common_divisor" kD
 a9:Dfx K "is_fraction" QJ
 ba:Dcx K "Form.__init__" "__init__" kZ Z3
 bb:Ddx K "WordForm.__init__" "__init__" xW zV [zV] 4
 bc:Ddx K "ChoiceForm.__init__" "__init__" xB zU [zU] 4
 bd:Ddx K "NumberForm.__init__" "__init__" j9 zJ [zJ] 10
 be:Dmx K "WordForm.shortest_core" "shortest_core" jc zV [zV]
 bf:Dmx K "ChoiceForm.shortest_core" "shortest_core" jL zU [zU]
 bg:Dmx K "Form.is_too_wide" "is_too_wide" yB Z3 [zJ,zV,zU]
 bh:Dmx K "NumberForm.is_too_great" "is_too_great" jU zJ [zJ]
 bi:Dmx K "NumberForm.core" "core" yh zJ [zJ]
 bj:Dmx K "NumberForm.shortest_core" "shortest_core" jM zJ [zJ]
 bk:Dmx K "Form.puts_some" "puts_some" kM Z3 [zJ,zV,zU]
 bl:Dfx K "read_last" J3
 bm:Dfx K "read_groups" Z4
 bn:Dfx K "read_number_form" yK
 bo:Dfx K "read_word_form" y8
 bp:Dfx K "read_choice_form" yH
 bq:Dfx K "read_words" JB
 br:Dfx K "is_text" VJ
 bs:Dfx K "read_form" J4
 bt:Dfx K "_law_whole" XT
 bu:Dfx K "_law_refused" QI
 bv:Dfx K "_law_cell_at" QL
 bw:Dfx K "_law_pick" Xu
 bx:Dfx K "_law_all_signs" wZ
 bz:Dfx K "_law_drawn_sign" kJ
 bA:Dfx K "_law_number_spec" yZ
 bB:Dfx K "_law_word_spec" kU
 bC:Dfx K "_law_near_names" y3
 bD:Dfx K "_law_choice_spec" yj
 bE:Dfx K "_law_shortest" Zf
 bF:Dfx K "_law_sets" Xw
 bG:Dfx K "_law_signs_word" kA
 bH:Dfx K "_law_any_spec" ZZ
 bI:Dfx K "_law_sign_word" w9
 bJ:Dfx K "_law_first_rows" kF
 bK:Dfx K "_law_word_rows" ky
 bL:Dfx K "_law_bad_words" kh
 bM:Dfx K "_law_all_clauses" yX
 bN:Dfx K "_law_told_again" kE
 bO:Dfx K "_law_spoilt_words" yI
 bP:Dfx K "_law_strict_right" yL
 bQ:Dfx K "_law_right" J7
 bR:Dfx K "law" KH
 bS:Exc K qA
 bT:Nm K "NoFigures" qA
 bU:Cls K zJ
 bV:qg K zJ ["width", "fill", "side", "strict", "figures", "places", "base", "sign", "size", "mark", "point", "way"]
 bW:MkI K zJ
 bX:Cls K zV
 bY:qg K zV ["width", "fill", "side", "strict", "signs", "least", "most"]
 bZ:MkI K zV
 b0:Cls K zU
 b1:qg K zU ["width", "fill", "side", "strict", "names"]
 b2:MkI K zU
 b3:Cls K zL
 b4:qg K zL ["words", "at"]
 b5:MkI K zL
 b6:KDs w K jY ["minus", "plus", "blank", "brackets", "behind"]
 hW:SqM K Q4 (tsV zCN)
 ss:WF w K qY
 hS:SqM K jO (tsV YT)
 pi:PIni K je
 cb:Xin K zO
 cc : ∃ f,ExF K zO f "at"
 cd:W.exmOne K (.ref qA) (.ref qA)=some true
 ce:W.exmOne K (.ref zO) (.ref je)=some true
 k5:W.kitAny K (.ref zO) [.ref jJ,.ref yw,.ref xU,.ref ji,.ref jg]=some false
 kv:W.kitOne K (.ref zO) (.type "ValueError")=some true
 kf:W.kitOne K (.ref zO) (.ref zO)=some true
section
variable {P : Program} {w : World} {K : W.Frag} {mg : Str -> Option Value} {base : Heap} {je jJ qA ji jg xU yw zO Z3 zJ zV zU zL qY jY Q4 jO : Addr} {wW jV : Tok} (Z : Zs w K mg je jJ qA ji jg xU yw zO Z3 zJ zV zU zL qY jY Q4 jO wW jV)
local macro_rules | `(tactic| walk_at "sd")=>`(tactic| first | omega | (unfold zLW;omega) | (unfold CNn;omega) | (unfold CNz;omega) | (unfold zHw GL;omega) | (unfold zKt GL;omega) | (unfold zHr zJx;first | exact .inl (.inl ⟨by omega,by omega⟩) | exact .inl (.inr ⟨by omega,by omega⟩) | (unfold zA3 GL;omega)))
local macro_rules | `(tactic| walk_at "hp")=>`(tactic| first | assumption | (refine zc.at (by assumption) ?_;walk_at "hp") | exact zK)
local macro_rules | `(tactic| walk_at "sq")=>`(tactic| first | assumption | (refine zc.seq (by assumption) ?_;walk_at "sq") | exact SqL.of (by walk_at "hp"))
local macro_rules | `(tactic| walk_at "sm")=>`(tactic| first | assumption | exact zc.refl _ | (refine zc.trans ?_ (by assumption);walk_at "sm"))
local macro_rules | `(tactic| walk_at "rdc")=>`(tactic| fail "no callee")
local macro_rules | `(tactic| walk_at "rd1")=>`(tactic| first
 | (with_reducible first | apply Wz | apply zDb | apply zK5 | apply zLE | apply zJ5 | apply VI)
 | ((with_reducible refine' zIX ?e ?_);(case e=>rfl))
 | (with_reducible first | apply r_c | apply zL3 | apply zL7)
 | ((with_reducible refine' r_I ?hc ?_);(case hc=>walk_at "sd"))
 | (with_reducible first | apply zIu | apply zMD | apply zJc | apply zKi | apply zKM | apply zMF | apply zMS | apply zMT | apply zMQ)
 | ((with_reducible refine' zL5 ?hc ?_);(case hc=>omega))
 | ((with_reducible refine' zMB ?hc ?_);(case hc=>omega))
 | ((with_reducible refine' zKx ?hc ?_);(case hc=>omega))
 | (with_reducible first | refine i_d (fun hc=>?_) (fun hc=>?_) | refine zLr (fun hc=>?_) (fun hc=>?_) | refine i_b (fun hc=>?_) (fun hc=>?_) | apply zJf | apply Ki | apply zIq | apply zME | apply zMM | apply r_U | apply zKm | apply zML | apply zLI | apply zJR | apply zKk | apply zHc | apply zFd | apply zLD | apply zDU)
 | ((with_reducible refine' zH3 ?hz ?_);(case hz=>exact qz (by simp only [length_cons,length_nil];decide));intro p' H' g' e')
 | ((with_reducible refine' zJ3 ?hz ?_);(case hz=>exact qz (by simp only [length_cons,length_nil];decide));intro p' H' g' e')
 | (with_reducible first | apply zET | apply zEL)
 | ((with_reducible refine' zC8 ?h ?_);(case h=>walk_at "hp"))
 | ((with_reducible refine' zLA ?h ?e ?_);(case h=>walk_at "hp");(case e=>rfl))
 | ((with_reducible refine' zKg ?h ?hi (fun hi'=>?_) (fun hi'=>?_));(case h=>walk_at "hp");(case hi=>omega))
 | (with_reducible first | refine zIv (fun k' hk'=>?_) | refine zGI (fun k' hk'=>?_) | refine zGC (fun k' hk'=>?_) | refine zGY (fun hc=>?_) (fun hc=>?_) | apply KY)
 | ((with_reducible refine' zGF ?h ?_);(case h=>walk_at "hp"))
 | ((with_reducible refine' zJr ?h ?_);(case h=>walk_at "sq"))
 | (with_reducible first | apply zKj | apply zI2 | apply zIi)
 | ((with_reducible refine' zH4 ?h ?n ?_);(case h=>walk_at "hp");(case n=>rfl))
 | (with_reducible first | apply zGb | apply zJG | apply zID)
 | walk_at "rdc"
 | fail "rd stops")
local macro_rules | `(tactic| walk_at "rd")=>`(tactic| repeat' walk_at "rd1")
local macro_rules | `(tactic| walk_at "st")=>`(tactic| dsimp only [L2.start,List.map,List.length,List.replicate,List.append,HAppend.hAppend,Append.append,Nat.reduceAdd,Nat.reduceSub])
local macro_rules | `(tactic| walk_at "rdc")=>`(tactic| first
 | (with_reducible first | apply zFv | apply zEP | apply zJh | apply zFr | apply zGe | apply zGt | apply zHm | apply zKl)
 | ((with_reducible refine' zK4 ?h ?_);(case h=>walk_at "sq");intro p' H' g' e')
 | ((with_reducible refine' zAL (b:=true) ?e ?_);(case e=>exact decide_eq_true rfl))
 | ((with_reducible refine' zAL (b:=false) ?e ?_);(case e=>exact (by decide +kernel)))
 | fail "rd2 stops")
local macro_rules | `(tactic| walk_at "odd")=>`(tactic| first | assumption | exact .non | exact .bl _ | exact .str _ | exact .lst (by walk_at "hp") | exact .tup (by walk_at "hp") | exact .dct (by walk_at "hp") | (refine Odd.same ?_ (by assumption);walk_at "odd"))
local macro_rules | `(tactic| walk_at "rdc")=>`(tactic| first
 | (with_reducible first | refine ZD (XC _) ?_ | refine ZD (Q7 _) ?_ | refine ZD (kit_int_tuple _) ?_ | refine kS (Qx _) ?_ | refine kS (kit_bool_bool _) ?_ | refine kS (kit_bool_tuple _) ?_ | refine ZC (Jg _) ?_ | refine ZC (kit_str_tuple _) ?_ | refine ZJ (kI _) ?_ | refine ZJ (kit_NoneType_tuple _) ?_)
 | ((with_reducible refine' ZE ?h (Q8 _) ?_);(case h=>walk_at "hp"))
 | ((with_reducible refine' ZE ?h (kit_list_tuple _) ?_);(case h=>walk_at "hp"))
 | ((with_reducible refine' ZL ?h (QF _) ?_);(case h=>walk_at "hp"))
 | ((with_reducible refine' ZL ?h (kc _) ?_);(case h=>walk_at "hp"))
 | ((with_reducible refine' ZH ?h (Q5 _) ?_);(case h=>walk_at "hp"))
 | ((with_reducible refine' ZH ?h (kit_dict_tuple _) ?_);(case h=>walk_at "hp"))
 | (with_reducible refine zBl ?_)
 | ((with_reducible refine zKR ?_);intro p' H' g' e')
 | (with_reducible refine zG5 ?_)
 | ((with_reducible refine' zFH ?h ?_);(case h=>walk_at "sq"))
 | fail "rd3 stops")
local macro_rules | `(tactic| walk_at "tl")=>`(tactic| first | omega | (simp only [Xr,length_append,List.length_replicate,length_cons,length_nil,length_take,length_drop];first | (with_reducible refine le_trans (Nat.add_le_add (Nat.add_le_add (Nat.min_le_right _ _) (Nat.le_refl _)) (sub_le _ _)) ?_;omega) | (with_reducible refine le_trans (sub_le _ _) (le_trans (Nat.min_le_right _ _) ?_);omega) | (with_reducible refine le_trans (sub_le _ _) ?_;omega) | (with_reducible refine le_trans (Nat.min_le_right _ _) ?_;omega) | omega) | (with_unfolding_all decide))
local macro_rules | `(tactic| walk_at "rdc")=>`(tactic| first
 | ((with_reducible refine' zGM ?hz ?_);(case hz=>walk_at "tl"))
 | ((with_reducible refine' zCL ?hz ?_);(case hz=>walk_at "tl"))
 | ((with_reducible refine' zCl ?hz ?_);(case hz=>walk_at "tl"))
 | ((with_reducible refine' zFf ?hz ?_);(case hz=>walk_at "tl"))
 | ((with_reducible refine' zE1 ?hz ?_);(case hz=>walk_at "tl"))
 | ((with_reducible refine' zCU (z:=Str.ofString _) 94 ?hn ?hz ?h0 ?h1 ?_);(case hn=>decide +kernel);(case hz=>decide);(case h0|h1=>omega);intro c' hc')
 | ((with_reducible refine' zCU (z:=Str.ofString _) 16 ?hn ?hz ?h0 ?h1 ?_);(case hn=>decide +kernel);(case hz=>decide);(case h0|h1=>omega);intro c' hc')
 | ((with_reducible refine' zCU (z:=Str.ofString _) 13 ?hn ?hz ?h0 ?h1 ?_);(case hn=>decide +kernel);(case hz=>decide);(case h0|h1=>omega);intro c' hc')
 | ((with_reducible refine' zIH ?hz ?h0 ?h1 ?_);(case hz=>walk_at "tl");(case h0=>omega);(case h1=>walk_at "tl"))
 | ((with_reducible refine' zC6 ?hz ?h0 ?h1 ?_);(case hz=>walk_at "tl");(case h0=>omega);(case h1=>walk_at "tl"))
 | ((with_reducible refine' zFo ?hz ?h1 ?_);(case hz|h1=>walk_at "tl"))
 | ((with_reducible refine' zGn ?hz ?h0 ?_);(case hz=>walk_at "tl");(case h0=>omega))
 | ((with_reducible refine' zGP ?hz ?h0 ?_);(case hz=>walk_at "tl");(case h0=>omega))
 | ((with_reducible refine' zD8 ?hz ?h0 ?h1 ?_);(case hz=>walk_at "tl");(case h0|h1=>omega))
 | ((with_reducible refine' zGz ?h0 ?h1 ?_);(case h0|h1=>omega))
 | (with_reducible refine zDF ?_)
 | ((with_reducible refine' zAL (b:=true) ?e ?_);(case e=>exact decide_eq_true rfl))
 | ((with_reducible refine' zAL (b:=false) ?e ?_);(case e=>exact (by decide +kernel)))
 | (with_reducible first | apply zFI | apply zFD | apply zFO | apply zEm | apply zG5 | apply zHe | apply zBR)
 | fail "rd4 stops")
local macro_rules | `(tactic| walk_at "rdc")=>`(tactic| first
 | (with_reducible refine zI7 ?_)
 | ((with_reducible refine' zAL (x:=T _) (b:=true) ?e ?_);(case e=>exact decide_eq_true rfl))
 | (with_reducible first | apply zFI | apply zFD)
 | fail "rd5 stops")
local macro_rules | `(tactic| walk_at "rdc")=>`(tactic| first
 | (with_reducible refine zJ6 ?_)
 | ((with_reducible refine' zJE ?h ?h0 ?h1 ?_);(case h=>walk_at "sq");(case h0|h1=>omega))
 | fail "rd6 stops")
local macro_rules | `(tactic| walk_at "asc")=>`(tactic| first | assumption | exact Asc.nil | exact Asc.one (by omega) | exact Asc.app (by walk_at "asc") (by walk_at "asc") | exact Asc.take (by walk_at "asc") _ | exact Asc.drop (by walk_at "asc") _ | exact Asc.rep (by walk_at "asc") _)
local macro_rules | `(tactic| walk_at "rdc")=>`(tactic| first
 | (with_reducible refine ZC (J0 _) ?_)
 | ((with_reducible refine' zEU ?h ?_);(case h=>assumption))
 | fail "rd7 stops")
local macro_rules | `(tactic| walk_at "rdc")=>`(tactic| first
 | ((with_reducible refine' zFb ?h ?_);(case h=>walk_at "sq"))
 | ((with_reducible refine' zFk ?h ?h0 ?_);(case h=>walk_at "sq");(case h0=>omega))
 | ((with_reducible refine' K6 ?h ?_);(case h=>walk_at "sq");intro l' H' g' n' e')
 | (with_reducible refine zDX ?_)
 | ((with_reducible refine' zFH ?h ?_);(case h=>walk_at "sq"))
 | (with_reducible refine zJ6 ?_)
 | fail "rd12 stops")
local macro_rules | `(tactic| walk_at "rdc")=>`(tactic| first
 | fail "rd8 stops")
local macro_rules | `(tactic| walk_at "sqt")=>`(tactic| first | assumption | exact SqT.same (by assumption) (by assumption) | exact SqT.same (SqT.same (by assumption) (by assumption)) (by assumption) | exact SqT.of (by walk_at "hp"))
local macro_rules | `(tactic| walk_at "rdc")=>`(tactic| first
 | ((with_reducible refine' zFp ?h ?e ?_);(case h=>walk_at "sqt");(case e=>rfl))
 | fail "rd9 stops")
local macro_rules | `(tactic| walk_at "rdc")=>`(tactic| first
 | fail "rd10 stops")
local macro_rules | `(tactic| walk_at "rdc")=>`(tactic| first
 | ((with_reducible refine' zKX ?h0 ?h1 ?_);(case h0|h1=>omega))
 | fail "rd11 stops")
local macro_rules | `(tactic| walk_at "rdc")=>`(tactic| first
 | (with_reducible refine zKP ?_)
 | fail "rd13 stops")
local macro_rules | `(tactic| walk_at "fm")=>`(tactic| first | assumption | (refine' zp.same (by assumption) ?_;walk_at "fm"))
local macro_rules | `(tactic| walk_at "fld2")=>`(tactic| fail "no own field")
local macro_rules | `(tactic| walk_at "fld")=>`(tactic| first | (exact zp.width (by walk_at "fm")) | (exact zp.fill (by walk_at "fm")) | (exact zp.side (by walk_at "fm")) | (exact zp.strict (by walk_at "fm")) | walk_at "fld2")
local macro_rules | `(tactic| walk_at "wk")=>`(tactic| repeat (first | exact Wk.nil | refine Wk.one ?_ | refine Wk.any ?_))
local macro_rules | `(tactic| walk_at "rdc")=>`(tactic| first
 | (with_reducible first | apply zLL | apply zBl)
 | ((with_reducible refine' zIN ?h ?_);(case h=>walk_at "fld"))
 | (with_reducible refine K7 ?_)
 | ((with_reducible refine' XE ?h ?_);(case h=>walk_at "ins"))
 | (with_reducible refine zF7 ?_)
 | ((with_reducible refine' zL9 ?h ?_);(case h=>walk_at "wk"))
 | (with_reducible first | apply zIJ | apply zJF | apply zFa | apply zE3)
 | ((with_reducible refine' zK8 ?h ?_);(case h=>walk_at "sq"))
 | fail "rd14 stops")
local macro_rules | `(tactic| walk_at "rd1")=>`(tactic| first | ((with_reducible refine' zAm ?h ?e ?_);(case h=>walk_at "sq");(case e=>rfl)) | fail "no written place")
variable {g:Int}
theorem zDR {l:Int} (hg:0<=g) (hl:0 < l):Int.gcd l (g % l)=Int.gcd g l:=by
 rw [Int.gcd_comm g l]
 have e:g % l=g+l*(-(g / l)):=by
  have:=Int.emod_add_mul_ediv g l
  rw [Int.mul_neg];omega
 rw [e,Int.gcd_add_mul_left_right]
variable {a:Int}
theorem zG6 {b l:Int} (h1:(0<=a/\g=a)\/(a < 0/\g = -a)) (h2:(0<=b/\l=b)\/(b < 0/\l = -b)):0<=g/\0<=l/\Int.gcd g l=Int.gcd a b:=by
 rcases h1 with ⟨h,rfl⟩ | ⟨h,rfl⟩ <;> rcases h2 with ⟨h',rfl⟩ | ⟨h',rfl⟩ <;> simp only [Int.gcd_neg,Int.neg_gcd,and_true] <;> omega
theorem zHs {x y L M:Int} (h1 : -L < x) (h2:x < L) (h3:0 < y) (h4:y < M) : -(L*M) < x*y/\x*y < L*M:=by
 have hL:0 < L:=by omega
 have hM:0 < M:=by omega
 have e : ∀ z:Int,0<=z->z < L->z*y < L*M:=fun z p q =>
  Int.lt_of_le_of_lt (Int.mul_le_mul_of_nonneg_right (Int.le_of_lt q) (Int.le_of_lt h3)) (Int.mul_lt_mul_of_pos_left h4 hL)
 rcases Int.lt_or_le x 0 with p | p
 ·have a1:=e (-x) (by omega) (by omega)
  have a2:=Int.mul_pos hL hM
  have a3:=Int.mul_nonneg (show 0 <= -x by omega) (Int.le_of_lt h3)
  rw [Int.neg_mul] at a1 a3;omega
 ·have a1:=e x p h2
  have a2:=Int.mul_pos hL hM
  have a3:=Int.mul_nonneg p (Int.le_of_lt h3)
  omega
def Ze (K:W.Frag):Sp:=fun vs H Q _=>∃ (a:Addr) (ns:List Int) (k:Int),vs=[.ref a,.int k]/\SqL K H a (ns.map V.int)/\0<=k /\ ∀ v:Int,Q (.int v) H
variable {k:Int} {H:Hp} {Q:VK} {E:XK}
theorem zI3 {a:Addr} {ns:List Int} (h1:SqL K H a (ns.map V.int)) (h2:0<=k) (q : ∀ v:Int,Q (.int v) H):Ze K ([.ref a,.int k]++[]) H Q E:=⟨a,ns,k,rfl,h1,h2,q⟩
def pkA (c t:Int):Int:=(c % 1000000007+314159265+104729*t) % 998244353*((c % 1000000007+314159265+104729*t) % 998244353) % 998244353
def pk (c t m:Int):Int:=if 1000000000000000000 < c/\0 < c / 2 ^ (20*t).toNat then c / 2 ^ (20*t).toNat % 1048576 % m else (pkA c t+271828183)*(pkA c t / 1024+48271+t) % 2147483629 / 128 % m
def Zn (K:W.Frag):Sp:=fun vs H Q _=>∃ c t m:Int,vs=[.int c,.int t,.int m]/\0<=t/\0 < m/\(0<=pk c t m->pk c t m < m->Q (.int (pk c t m)) H)
variable {c t:Int}
theorem zF2 {m:Int} (h1:0<=t) (h2:0 < m) (q:0<=pk c t m->pk c t m < m->Q (.int (pk c t m)) H):Zn K ([.int c,.int t,.int m]++[]) H Q E:=⟨c,t,m,rfl,h1,h2,q⟩
theorem zEe {m:Int} (h1:0<=t) (h2:0 < m) (q : ∀ v:Int,0<=v->v < m->Q (.int v) H):Zn K ([.int c,.int t,.int m]++[]) H Q E:=⟨c,t,m,rfl,h1,h2,q _⟩
local macro_rules | `(tactic| walk_at "rdc")=>`(tactic| ((with_reducible refine' zEe ?h1 ?h2 ?_);(case h1|h2=>omega);intro v' h0' h1'))
local macro_rules | `(tactic| walk_at "rdc")=>`(tactic| ((with_reducible refine' zI3 ?h1 ?h2 ?_);(case h1=>walk_at "sq");(case h2=>omega);intro v'))
def GrB (a b:Int):Prop:=-10000000000000000000000000000000000000000000000000000000000000000000000000000000000000000000000000000000000000000000000000000000000000000000000000000000000000000000000000000000000000000000000 < a/\a < 10000000000000000000000000000000000000000000000000000000000000000000000000000000000000000000000000000000000000000000000000000000000000000000000000000000000000000000000000000000000000000000000/\0 < b/\b < 10000000000000000000000000000000000000000000000000000000000000000000000000000000000000000000000000000000000000000000000000000000000000000000000000000000000000000000000000000000000000000000000
def Way (w:Str):Prop:=w = "down" \/ w = "up" \/ w = "cut" \/ w = "near" \/ w = "even"
def upB (w:Str) (be re bo:Int):Bool:=if w = "down" then false else if w = "up" then true else if w = "cut" then decide (be < 0) else if 2*re=bo then (decide (w = "near") || decide (be % 2=1)) else decide (2*re > bo)
def zHV (w:Str) (a b P:Int):Int:=if 0 < a*P % b/\upB w (a*P / b) (a*P % b) b=true then a*P / b+1 else a*P / b
variable {be re bo:Int}
theorem zGf:upB "down" be re bo=false:=by unfold upB;rw [if_pos rfl]
theorem zLJ:upB "up" be re bo=true:=by unfold upB;rw [if_neg (by decide +kernel),if_pos rfl]
theorem zIB:upB "cut" be re bo=decide (be < 0):=by unfold upB;rw [if_neg (by decide +kernel),if_neg (by decide +kernel),if_pos rfl]
theorem zG7 (h:2*re=bo):upB "near" be re bo=true:=by unfold upB;rw [if_neg (by decide +kernel),if_neg (by decide +kernel),if_neg (by decide +kernel),if_pos h,decide_eq_true rfl];rfl
theorem zDC (h : ¬ 2*re=bo):upB "near" be re bo=decide (2*re > bo):=by unfold upB;rw [if_neg (by decide +kernel),if_neg (by decide +kernel),if_neg (by decide +kernel),if_neg h]
theorem zGq (h:2*re=bo):upB "even" be re bo=decide (be % 2=1):=by unfold upB;rw [if_neg (by decide +kernel),if_neg (by decide +kernel),if_neg (by decide +kernel),if_pos h,decide_eq_false (by decide +kernel)];rfl
theorem zDo (h : ¬ 2*re=bo):upB "even" be re bo=decide (2*re > bo):=by unfold upB;rw [if_neg (by decide +kernel),if_neg (by decide +kernel),if_neg (by decide +kernel),if_neg h]
theorem zDt {b:Int} (h1:2<=b) (h2:b<=16) : ∀ n:Nat,1<=b ^ n/\b ^ n<=16 ^ n
 | 0=>by simp
 | n+1=>by
  obtain ⟨p,q⟩:=zDt h1 h2 n
  rw [pow_succ,pow_succ]
  have a1:=Int.mul_le_mul p (show 1<=b by omega) (by decide) (by omega)
  have a2:=Int.mul_le_mul q h2 (by omega) (by omega)
  omega
theorem zCJ (h:n<=m):(16:Int) ^ n<=16 ^ m:=by
 induction h with
 | refl=>exact Int.le_refl _
 | step h ih =>
  rename_i m
  have:=(zDt (b:=16) (by decide) (by decide) m).1
  rw [pow_succ];omega
theorem pw6 {b:Int} (h1:2<=b) (h2:b<=16) (h3:t<=6):1<=b ^ t.toNat/\b ^ t.toNat<=16777216:=by
 have a:=zDt h1 h2 t.toNat
 have b:=zCJ (n:=t.toNat) (m:=6) (by omega)
 have c:(16:Int) ^ 6=16777216:=by decide
 omega
theorem zMC {b:Int} (h1:2<=b) (h2:b<=16) (h3:n<=60):1<=b ^ n/\b ^ n<=1766847064778384329583297500742918515827483896875618958121606201292619776:=by
 have a:=zDt h1 h2 n
 have b:=zCJ (n:=n) (m:=60) (by omega)
 have c:(16:Int) ^ 60=1766847064778384329583297500742918515827483896875618958121606201292619776:=by decide +kernel
 omega
theorem zLF (t:Int) {b:Int} (h:0 < b):t / b*b<=t/\t < (t / b+1)*b/\t / b*b=t - t % b/\0<=t % b/\t % b < b:=by
 have e:=Int.emod_add_mul_ediv t b
 have m0:=emod_nonneg t (show b≠0 by omega)
 have m1:=emod_lt_of_pos t h
 rw [Int.add_mul,Int.one_mul,Int.mul_comm (t / b) b]
 omega
def XJ (K:W.Frag):Sp:=fun vs H Q _=>∃ b t:Int,vs=[.int b,.int t]/\2<=b/\b<=16/\0<=t/\t<=60/\Q (.int (b ^ t.toNat)) H
theorem zAd {b:Int} (h1:2<=b) (h2:b<=16) (h3:0<=t) (h4:t<=60) (q:Q (.int (b ^ t.toNat)) H):XJ K ([.int b,.int t]++[]) H Q E:=⟨b,t,rfl,h1,h2,h3,h4,q⟩
def X3 (K:W.Frag):Sp:=fun vs H Q _=>∃ (be re bo:Int) (w:Str),vs=[.int be,.int re,.int bo,.str w]/\Way w/\0<=re/\re < 10000000000000000000000000000000000000000000000000000000000000000000000000000000000000000000000000000000000000000000000000000000000000000000000000000000000000000000000000000000000000000000000/\Q (.bl (upB w be re bo)) H
theorem zBN {w:Str} (h1:Way w) (h2:0<=re) (h3:re < 10000000000000000000000000000000000000000000000000000000000000000000000000000000000000000000000000000000000000000000000000000000000000000000000000000000000000000000000000000000000000000000000) (q:Q (.bl (upB w be re bo)) H):X3 K ([.int be,.int re,.int bo,.str w]++[]) H Q E:=⟨be,re,bo,w,rfl,h1,h2,h3,q⟩
def Xt (K:W.Frag):Sp:=fun vs H Q _=>∃ (p:Addr) (a b B t:Int) (w:Str),vs=[.ref p,.int B,.int t,.str w]/\H p=some (.tup [.int a,.int b])/\GrB a b/\2<=B/\B<=16/\0<=t/\t<=6/\Way w/\Q (.int (zHV w a b (B ^ t.toNat))) H
theorem zBD {p:Addr} {b B:Int} {w:Str} (h1:H p=some (.tup [.int a,.int b])) (h2:GrB a b) (h3:2<=B) (h4:B<=16) (h5:0<=t) (h6:t<=6) (h7:Way w) (q:Q (.int (zHV w a b (B ^ t.toNat))) H):Xt K ([.ref p,.int B,.int t,.str w]++[]) H Q E:=⟨p,a,b,B,t,w,rfl,h1,h2,h3,h4,h5,h6,h7,q⟩
theorem zFU {c:Nat} (h:c < 127) (q:Q (.int (fv c)) H):zCv (.str "0123456789abcdef") [.str (T [c])] H Q:=zBR (by rw [zGk h];exact q)
theorem zLB {i:Int} (h0:0<=i) (h1:i < 16) (q:Q (.str (T [fc i.toNat])) H):zEx (.str "0123456789abcdef") (.int i) H Q:=by
 have e:(Lt "0123456789abcdef").length=16:=by decide +kernel
 exact zC6 (by omega) h0 (by omega) q
local macro_rules | `(tactic| walk_at "rdc")=>`(tactic| ((with_reducible refine' zFU ?h1 ?_);(case h1=>first | omega | assumption)))
local macro_rules | `(tactic| walk_at "rdc")=>`(tactic| ((with_reducible refine' zLB ?h1 ?h2 ?_);(case h1|h2=>omega)))
def QO (K:W.Frag):Sp:=fun vs H Q _=>∃ n b:Int,vs=[.int n,.int b]/\0<=n/\2<=b/\b<=16/\n < 1766847064778384329583297500742918515827483896875618958121606201292619776/\(∀ l,l=QS b.toNat n.toNat->xG b l->val b l=n->0 < l.length->l.length<=240->(l.getD 0 0=48->l=[48])->Q (.str (T l)) H)
theorem Y9 {n b:Int} (h1:0<=n) (h2:2<=b) (h3:b<=16) (h4:n < 1766847064778384329583297500742918515827483896875618958121606201292619776) (q:(∀ l,l=QS b.toNat n.toNat->xG b l->val b l=n->0 < l.length->l.length<=240->(l.getD 0 0=48->l=[48])->Q (.str (T l)) H)):QO K ([.int n,.int b]++[]) H Q E:=⟨n,b,rfl,h1,h2,h3,h4,q⟩
local macro_rules | `(tactic| walk_at "rdc")=>`(tactic| ((with_reducible refine' Y9 ?h1 ?h2 ?h3 ?h4 ?_);(case h1|h2|h3|h4=>omega);intro l' el' f1' f2' f3' f4' f5'))
def Va (K:W.Frag):Sp:=fun vs H Q E=>∃ (l:List Nat) (b:Int),vs=[.str (T l),.int b]/\Asc l/\l.length<=240/\2<=b/\b<=16/\(xG b l->1<=l.length->Q (.int (val b l)) H)/\((xG b l->l.length=0) -> ∀ C,Nm K "NoFigures" C->E (.ref C) none H)
def Ju (K:W.Frag):Sp:=fun vs H Q _=>∃ (a:List Nat) (z g:Int),vs=[.str (T a),.int z,.int g]/\0 < z/\z<=9/\0<=g/\g<=1/\a.length<=400 /\ ∀ p H',zc H H'->H' p=some (.lst ((pcs a z.toNat g.toNat a.length).map fun l=>V.str (T l)))->Q (.ref p) H'
theorem zAG {a:List Nat} (h1:0 < z) (h2:z<=9) (h3:0<=g) (h4:g<=1) (h5:a.length<=400) (q : ∀ p H',zc H H'->H' p=some (.lst ((pcs a z.toNat g.toNat a.length).map fun l=>V.str (T l)))->Q (.ref p) H'):Ju K ([.str (T a),.int z,.int g]++[]) H Q E:=⟨a,z,g,rfl,h1,h2,h3,h4,h5,q⟩
local macro_rules | `(tactic| walk_at "rdc")=>`(tactic| ((with_reducible refine' zAG ?h1 ?h2 ?h3 ?h4 ?h5 ?_);(case h1|h2|h3|h4|h5=>omega);intro p' H' g' e'))
def YM (K:W.Frag):Sp:=fun vs H Q _=>∃ (a:List Nat) (z:Int) (m:Nat),vs=[.str (T a),.int z,.str (T [m])]/\0<=z/\z<=9/\a.length<=400 /\ ∀ H',zc H H'->Q (.str (T (gr z.toNat m a))) H'
theorem zBH {a:List Nat} (h1:0<=z) (h2:z<=9) (h5:a.length<=400) (q : ∀ H',zc H H'->Q (.str (T (gr z.toNat m a))) H'):YM K ([.str (T a),.int z,.str (T [m])]++[]) H Q E:=⟨a,z,m,rfl,h1,h2,h5,q⟩
local macro_rules | `(tactic| walk_at "rdc")=>`(tactic| ((with_reducible refine' zBH ?h1 ?h2 ?h5 ?_);(case h1|h2|h5=>omega);intro H' g'))
def zHW (n b p:Int):Prop:=0<=n/\2<=b/\b<=16/\0<=p/\p<=6/\n.toNat < b.toNat ^ (40+p.toNat)
def bdI (n b p:Int) (pt:Nat) (z:Int) (m:Nat):List Nat:=bdy b.toNat p.toNat pt z.toNat m n.toNat
theorem zHW.big {n b p:Int} (h:zHW n b p):n < 1766847064778384329583297500742918515827483896875618958121606201292619776:=by
 obtain ⟨h1,h2,h3,h4,h5,h6⟩:=h
 have e1:b.toNat ^ (40+p.toNat)<=16 ^ (40+p.toNat):=Nat.pow_le_pow_left (by omega) _
 have e2:(16:Nat) ^ (40+p.toNat)<=16 ^ 46:=Nat.pow_le_pow_right (by decide) (by omega)
 have e3:(16:Nat) ^ 46 < 1766847064778384329583297500742918515827483896875618958121606201292619776:=by decide +kernel
 omega
def YA (K:W.Frag):Sp:=fun vs H Q _=>∃ (n b p z:Int) (pt m:Nat),vs=[.int n,.int b,.int p,.str (T [pt]),.int z,.str (T [m])]/\zHW n b p/\0<=z/\z<=9 /\ ∀ H',zc H H'->Q (.str (T (bdI n b p pt z m))) H'
theorem VA {n b p:Int} {pt:Nat} (h1:zHW n b p) (h2:0<=z) (h3:z<=9) (q : ∀ H',zc H H'->Q (.str (T (bdI n b p pt z m))) H'):YA K ([.int n,.int b,.int p,.str (T [pt]),.int z,.str (T [m])]++[]) H Q E:=⟨n,b,p,z,pt,m,rfl,h1,h2,h3,q⟩
local macro_rules | `(tactic| walk_at "rdc")=>`(tactic| ((with_reducible refine' VA ?h1 ?h2 ?h3 ?_);(case h1=>assumption);(case h2|h3=>omega);intro H' g'))
def YJ (K:W.Frag):Sp:=fun vs H Q _=>∃ (x:Str) (b:Bool),vs=[.str x,.bl b]/\Qj x /\ ∀ p,SqT K H p [.str (T (stL x b)),.str (T (stT x b))]->Q (.ref p) H
theorem zC0 {x:Str} {b:Bool} (h:Qj x) (q : ∀ p,SqT K H p [.str (T (stL x b)),.str (T (stT x b))]->Q (.ref p) H):YJ K ([.str x,.bl b]++[]) H Q E:=⟨x,b,rfl,h,q⟩
local macro_rules | `(tactic| walk_at "rdc")=>`(tactic| ((with_reducible refine' zC0 ?h ?_);(case h=>assumption);intro p' e'))
def sg (x:Str) (b:Bool) (l:List Nat):List Nat:=stL x b++l++stT x b
theorem zFF {x:Str} (h:Qj x) (b:Bool) (l:List Nat):l.length<=(sg x b l).length/\(sg x b l).length<=l.length+2:=by
 have:=zFS h b
 unfold sg;simp only [length_append];omega
def Vn (K:W.Frag):Sp:=fun vs H Q _=>∃ (l:List Nat) (x:Str) (b:Bool),vs=[.str (T l),.str x,.bl b]/\Qj x/\l.length<=1000/\Q (.str (T (sg x b l))) H
variable {l:List Nat}
theorem zDW {x:Str} {b:Bool} (h:Qj x) (h2:l.length<=1000) (q:Q (.str (T (sg x b l))) H):Vn K ([.str (T l),.str x,.bl b]++[]) H Q E:=⟨l,x,b,rfl,h,h2,q⟩
local macro_rules | `(tactic| walk_at "rdc")=>`(tactic| ((with_reducible refine' zDW ?h ?h2 ?_);(case h=>assumption);(case h2=>omega)))
def Jn (K:W.Frag):Sp:=fun vs H Q _=>∃ i:Int,vs=[.int i]/\Q (.bl true) H
theorem zAZ {i:Int} (q:Q (.bl true) H):Jn K ([.int i]++[]) H Q E:=⟨i,rfl,q⟩
def yf (K:W.Frag):Sp:=fun vs H Q _=>∃ a b:Int,vs=[.int a,.int b]/\Q (.int (Int.gcd a b)) H
theorem JM {b:Int} (q:Q (.int (Int.gcd a b)) H):yf K ([.int a,.int b]++[]) H Q E:=⟨a,b,rfl,q⟩
local macro_rules | `(tactic| walk_at "rdc")=>`(tactic| (with_reducible refine zAZ ?_))
local macro_rules | `(tactic| walk_at "rdc")=>`(tactic| (with_reducible refine JM ?_))
def ZV (K:W.Frag):Sp:=fun vs H Q _=>∃ (p:Addr) (a b:Int),vs=[.ref p]/\H p=some (.tup [.int a,.int b])/\1<=b/\Int.gcd a b=1/\Q (.bl true) H
theorem YO {p:Addr} {b:Int} (h1:H p=some (.tup [.int a,.int b])) (h2:1<=b) (h3:Int.gcd a b=1) (q:Q (.bl true) H):ZV K ([.ref p]++[]) H Q E:=⟨p,a,b,rfl,h1,h2,h3,q⟩
local macro_rules | `(tactic| walk_at "rdc")=>`(tactic| ((with_reducible refine' YO ?h1 ?h2 ?h3 ?_);(case h1=>walk_at "hp");(case h2=>omega);(case h3=>assumption)))
def zAO (x:Str):Prop:=zC4 x\/x = "inside"
structure zCZ (fg pl b:Int) (sn:Str) (z:Int) (m pt:Nat) (wy:Str) (wd:Int) (f:Nat) (x:Str):Prop where
 fg1:1<=fg
 fg2:fg<=12
 pl1:0<=pl
 pl2:pl<=6
 b1:2<=b
 b2:b<=16
 sn:Qj sn
 z1:0<=z
 z2:z<=9
 m:m < 127
 pt:pt < 127
 wy:Way wy
 wd1:0<=wd
 wd2:wd<=40
 f:f < 127
 x:zAO x
def xo (fg pl b:Int) (sn:Str) (z:Int) (m pt:Nat) (wy:Str):List (Str × V):=[("figures", .int fg),("places", .int pl),("base", .int b),("sign", .str sn),("size", .int z),("mark", .str (T [m])),("point", .str (T [pt])),("way", .str wy)]
def nns:List Str:=["figures", "places", "base", "sign", "size", "mark", "point", "way"]
section
variable {H : Hp} {a C : Addr} {wd : Int} {f : Nat} {x : Str} {st : Bool} {fg pl b : Int} {sn : Str} {z : Int} {m pt : Nat} {wy : Str}
theorem zGT {g:Str} (h:g ∉ nns):(xo fg pl b sn z m pt wy).lookup g=none:=by
 simp only [nns,mem_cons,not_mem_nil,or_false,not_or] at h
 obtain ⟨h1,h2,h3,h4,h5,h6,h7,h8⟩:=h
 exact (qH h1).trans ((qH h2).trans ((qH h3).trans ((qH h4).trans ((qH h5).trans ((qH h6).trans ((qH h7).trans ((qH h8).trans rfl)))))))
theorem Q0 {g:Str} {v:V} (F:zp K H a C wd f x st (xo fg pl b sn z m pt wy)) (h:g ∉ bns) (l:(xo fg pl b sn z m pt wy).lookup g=some v) (n:g ∈ nns):jf K H a g v:=F.own h l n
theorem zAQ (F:zp K H a C wd f x st (xo fg pl b sn z m pt wy)):jf K H a "figures" (.int fg):=Q0 F (by decide +kernel) yc (by decide +kernel)
theorem zAh (F:zp K H a C wd f x st (xo fg pl b sn z m pt wy)):jf K H a "places" (.int pl):=Q0 F (by decide +kernel) ((qH (by decide +kernel)).trans yc) (by decide +kernel)
theorem zGE (F:zp K H a C wd f x st (xo fg pl b sn z m pt wy)):jf K H a "base" (.int b):=Q0 F (by decide +kernel) ((qH (by decide +kernel)).trans ((qH (by decide +kernel)).trans yc)) (by decide +kernel)
theorem zFj (F:zp K H a C wd f x st (xo fg pl b sn z m pt wy)):jf K H a "sign" (.str sn):=Q0 F (by decide +kernel) ((qH (by decide +kernel)).trans ((qH (by decide +kernel)).trans ((qH (by decide +kernel)).trans yc))) (by decide +kernel)
theorem zGa (F:zp K H a C wd f x st (xo fg pl b sn z m pt wy)):jf K H a "size" (.int z):=Q0 F (by decide +kernel) ((qH (by decide +kernel)).trans ((qH (by decide +kernel)).trans ((qH (by decide +kernel)).trans ((qH (by decide +kernel)).trans yc)))) (by decide +kernel)
theorem zHF (F:zp K H a C wd f x st (xo fg pl b sn z m pt wy)):jf K H a "mark" (.str (T [m])):=Q0 F (by decide +kernel) ((qH (by decide +kernel)).trans ((qH (by decide +kernel)).trans ((qH (by decide +kernel)).trans ((qH (by decide +kernel)).trans ((qH (by decide +kernel)).trans yc))))) (by decide +kernel)
theorem zDa (F:zp K H a C wd f x st (xo fg pl b sn z m pt wy)):jf K H a "point" (.str (T [pt])):=Q0 F (by decide +kernel) ((qH (by decide +kernel)).trans ((qH (by decide +kernel)).trans ((qH (by decide +kernel)).trans ((qH (by decide +kernel)).trans ((qH (by decide +kernel)).trans ((qH (by decide +kernel)).trans yc)))))) (by decide +kernel)
theorem zIp (F:zp K H a C wd f x st (xo fg pl b sn z m pt wy)):jf K H a "way" (.str wy):=Q0 F (by decide +kernel) ((qH (by decide +kernel)).trans ((qH (by decide +kernel)).trans ((qH (by decide +kernel)).trans ((qH (by decide +kernel)).trans ((qH (by decide +kernel)).trans ((qH (by decide +kernel)).trans ((qH (by decide +kernel)).trans yc))))))) (by decide +kernel)
theorem zCA {g:Str} (F:zp K H a C wd f x st (xo fg pl b sn z m pt wy)) (h0:g ∉ bns) (h1:g ∉ nns):zD9 H a C g:=F.meth h0 (zGT h1)
end
local macro_rules | `(tactic| walk_at "fld2")=>`(tactic| first | (exact zAQ (by walk_at "fm")) | (exact zAh (by walk_at "fm")) | (exact zGE (by walk_at "fm")) | (exact zFj (by walk_at "fm")) | (exact zGa (by walk_at "fm")) | (exact zHF (by walk_at "fm")) | (exact zDa (by walk_at "fm")) | (exact zIp (by walk_at "fm")))
local macro_rules | `(tactic| walk_at "ins")=>`(tactic| exact zCA (by walk_at "fm") (by decide +kernel) (by decide +kernel))
def kP (K:W.Frag) (C:Addr):Sp:=fun vs H Q _=>∃ (a dx:Addr) (fg pl b:Int) (sn:Str) (z:Int) (m pt:Nat) (wy:Str) (wd:Int) (f:Nat) (x:Str) (st:Bool),vs=[.ref a,.int fg,.int pl,.int b,.str sn,.int z,.str (T [m]),.str (T [pt]),.str wy,.int wd,.str (T [f]),.str x,.bl st]/\H a=some (.ins C dx [])/\Q .non (upd H a (.ins C dx (bfs wd f x st (xo fg pl b sn z m pt wy))))
def jN (K:W.Frag) (C:Addr):Sp:=fun vs H Q _=>∃ (a:Addr) (fg pl b:Int) (sn:Str) (z:Int) (m pt:Nat) (wy:Str) (wd:Int) (f:Nat) (x:Str) (st:Bool) (n:Int),vs=[.ref a,.int n]/\zp K H a C wd f x st (xo fg pl b sn z m pt wy)/\zCZ fg pl b sn z m pt wy wd f x/\Q (.bl (decide (b ^ (fg+pl).toNat<=n))) H
variable {C:Addr} {sn wy:Str}
theorem Ko {a:Addr} {b:Int} {pt:Nat} {x:Str} {n:Int} (h1:zp K H a C wd f x st (xo fg pl b sn z m pt wy)) (h2:zCZ fg pl b sn z m pt wy wd f x) (q:Q (.bl (decide (b ^ (fg+pl).toNat<=n))) H):jN K C (.ref a::([.int n]++[])) H Q E:=⟨a,fg,pl,b,sn,z,m,pt,wy,wd,f,x,st,n,rfl,h1,h2,q⟩
local macro_rules | `(tactic| walk_at "rdc")=>`(tactic| ((with_reducible refine' Ko ?h1 ?h2 ?_);(case h1=>walk_at "fm");(case h2=>assumption)))
def XU (pl b:Int) (sn:Str) (z:Int) (m pt:Nat) (k:Int):List Nat:=sg sn (decide (k < 0)) (bdI k.natAbs b pl pt z m)
def yP (K:W.Frag) (C:Addr):Sp:=fun vs H Q _=>∃ (o p:Addr) (fg pl b:Int) (sn:Str) (z:Int) (m pt:Nat) (wy:Str) (wd:Int) (f:Nat) (x:Str) (st:Bool),vs=[.ref o,.ref p]/\zp K H o C wd f x st (xo fg pl b sn z m pt wy)/\zCZ fg pl b sn z m pt wy wd f x/\H p=some (.tup [.int 0,.int 1]) /\ ∀ H',zc H H'->Q (.str (T (XU pl b sn z m pt 0))) H'
theorem zHq {o p:Addr} {b:Int} {pt:Nat} {x:Str} (h1:zp K H o C wd f x st (xo fg pl b sn z m pt wy)) (h2:zCZ fg pl b sn z m pt wy wd f x) (h3:H p=some (.tup [.int 0,.int 1])) (q : ∀ H',zc H H'->Q (.str (T (XU pl b sn z m pt 0))) H'):yP K C (.ref o::([.ref p]++[])) H Q E:=⟨o,p,fg,pl,b,sn,z,m,pt,wy,wd,f,x,st,rfl,h1,h2,h3,q⟩
def Isw (sg:List Nat) (lo hi:Int) (t:List Nat):Prop:=(lo<=t.length/\(t.length:Int)<=hi) /\ ∀ c ∈ t,c ∈ sg
instance (sg:List Nat) (lo hi:Int) (t:List Nat):Decidable (Isw sg lo hi t):=by unfold Isw;infer_instance
def Jh (sg:List Nat) (lo hi:Int):List (Str × V):=[("signs", .str (T sg)),("least", .int lo),("most", .int hi)]
theorem zGS {sg:List Nat} {m:Str} (h1:m ≠ "signs") (h2:m ≠ "least") (h3:m ≠ "most"):(Jh sg lo hi).lookup m=none:=(qH h1).trans ((qH h2).trans ((qH h3).trans rfl))
section
variable {H : Hp} {a C : Addr} {wd : Int} {f : Nat} {x : Str} {st : Bool} {sg : List Nat} {lo hi : Int}
theorem zDh (F:zp K H a C wd f x st (Jh sg lo hi)):jf K H a "signs" (.str (T sg)):=F.own (by decide +kernel) yc (mem_cons_self ..)
theorem zDx (F:zp K H a C wd f x st (Jh sg lo hi)):jf K H a "least" (.int lo):=F.own (by decide +kernel) ((qH (by decide +kernel)).trans yc) (mem_cons_of_mem _ (mem_cons_self ..))
theorem zBF {m:Str} (F:zp K H a C wd f x st (Jh sg lo hi)) (h0:m ∉ bns) (h1:m ≠ "signs") (h2:m ≠ "least") (h3:m ≠ "most"):zD9 H a C m:=F.meth h0 (zGS h1 h2 h3)
end
local macro_rules | `(tactic| walk_at "fld2")=>`(tactic| first | (exact zDh (by walk_at "fm")) | (exact zDx (by walk_at "fm")) | (exact wf_most (by walk_at "fm")))
local macro_rules | `(tactic| walk_at "ins")=>`(tactic| exact zBF (by walk_at "fm") (by decide +kernel) (by decide +kernel) (by decide +kernel) (by decide +kernel))
def WkW (w:Wd):Prop:=Asc w/\w.length<=100/\(w.length<=60\/w.head? = some 61)
def Wr (K:W.Frag) (C:Addr) (H:Hp) (a:Addr) (yp:List Wd) (n:Nat):Prop:=∃ (dx L:Addr) (ws:List Wd),H a=some (.ins C dx (wfs L n))/\H L=some (.lst (tsV ws))/\n<=ws.length/\ws.drop n=yp/\ws.length<=100 /\ ∀ w ∈ yp,WkW w
variable {H':Hp}
theorem Wr.same {a:Addr} {yp:List Wd} (g:zc H H') (h:Wr K C H a yp n):Wr K C H' a yp n:=let ⟨d,L,ws,e1,e2,e3⟩:=h;⟨d,L,ws,g.at e1,g.at e2,e3⟩
structure SBW (a:Addr) (H H':Hp):Prop where
 oth:SB a H H'
 own : ∀ C dx L n,H a=some (.ins C dx (wfs L n)) -> ∃ n',H' a=some (.ins C dx (wfs L n'))
section
variable {H H' F : Hp} {a p C L dx : Addr} {n : Nat} {yp : List Wd}
theorem SBW.trans (s:SBW a H H') (t:SBW a H' F):SBW a H F:=⟨s.oth.trans t.oth,fun C dx L n e=>let ⟨n1,e1⟩:=s.own C dx L n e;t.own C dx L n1 e1⟩
theorem SBW.of (g:zc H H'):SBW a H H':=⟨SB.of g,fun C dx L n e=>⟨n,g.at e⟩⟩
theorem SBW.then (s:SBW a H H') (g:zc H' F):SBW a H F:=s.trans (.of g)
theorem SBW.refl:SBW a H H:=⟨SB.refl,fun C dx L n e=>⟨n,e⟩⟩
theorem SBW.tup {xs:List V} (s:SBW a H H') (w:Wr K C H a yp n) (h:H p=some (.tup xs)):H' p=some (.tup xs):=let ⟨_,_,_,e1,_⟩:=w;s.oth p _ (fun z=>by subst z;rw [e1] at h;cases h) h
theorem SBW.lst {xs:List V} (s:SBW a H H') (w:Wr K C H a yp n) (h:H p=some (.lst xs)):H' p=some (.lst xs):=let ⟨_,_,_,e1,_⟩:=w;s.oth p _ (fun z=>by subst z;rw [e1] at h;cases h) h
theorem KZ {L':Addr} {n':Nat} (h:wfs L n=wfs L' n'):L=L':=by
 unfold wfs at h
 simp only [List.cons.injEq,Prod.mk.injEq,V.ref.injEq,and_true,true_and] at h
 exact h.1
theorem SBW.step (e:H a=some (.ins C dx (wfs L n))):SBW a H (upd H a (.ins C dx (wfs L m))):=⟨fun b o nb e'=>by rw [zf nb];exact e',fun C' dx' L' n' e'=>by
 rw [e] at e'
 simp only [Option.some.injEq,HO.ins.injEq] at e'
 obtain ⟨rfl,rfl,e3⟩:=e'
 rw [KZ e3]
 exact ⟨m,zK⟩⟩
theorem Wr.lt {t:Wd} (h:Wr K C H a (t::yp) n) : ∃ dx L ws,H a=some (.ins C dx (wfs L n))/\H L=some (.lst (tsV ws)) /\ ∃ lt:n < ws.length,ws[n]=t/\ws.drop (n+1)=yp/\ws.length<=100:=by
 obtain ⟨dx,L,ws,e,hl,hn,hd,hz,_⟩:=h
 have lt:n < ws.length:=by
  rcases lt_or_ge n ws.length with z | z
  ·exact z
  ·rw [drop_eq_nil_of_le z] at hd;cases hd
 rw [List.drop_eq_getElem_cons lt,List.cons.injEq] at hd
 exact ⟨dx,L,ws,e,hl,lt,hd.1,hd.2,hz⟩
theorem Wr.wk {t:Wd} (h:Wr K C H a (t::yp) n):WkW t:=let ⟨_,_,_,_,_,_,_,_,k⟩:=h;k t (mem_cons_self ..)
end
def Er (cX a:Addr) (H:Hp) (E:XK) (k:Int):Prop:=∀ H' dx,SB a H H'->H' dx=some (.ext (XD dx [("at", .int k)]))->E (.ref cX) (some dx) H'
variable {cX:Addr} {H1:Hp}
theorem Er.mono {a:Addr} (s:SB a H H1) (e:Er cX a H E k):Er cX a H1 E k:=fun H' dx s'=>e H' dx (s.trans s')
def x0 (K:W.Frag) (C:Addr):Sp:=fun vs H Q _=>∃ (y:Addr) (k:Int),vs=[.ref y,.int k]/\H y=some (.ext (WT y C))/\0<=k/\k < 1000000 /\ ∀ H' d,SB y H H'->H' y=some (.ext (zAf y C d))->d≠y->H' d=some (.ext (XD d [("at", .int k)]))->Q .non H'
def ErS (cX:Addr) (H:Hp) (E:XK) (k:Int):Prop:=∀ H' dx,zc H H'->H' dx=some (.ext (XD dx [("at", .int k)]))->E (.ref cX) (some dx) H'
theorem Er.s {a:Addr} (e:Er cX a H E k):ErS cX H E k:=fun H' dx g=>e H' dx (SB.of g)
theorem QW {H₀:Hp} {E':XK} (xt : ∃ f,ExF K cX f "at") (h0 : ∀ y,H y=none->H₀ y=none) (k0:0<=k) (k1:k < 1000000) (er:ErS cX H E k):zKD cX (x0 K cX) E' (KR K H₀ E) [.int k] H:=by
 refine ⟨by show 1<=1000;decide,fun y fy=>⟨y,k,rfl,zK,k0,k1,fun H2 d sb ey nd ed=>⟨rfl,?_⟩⟩⟩
 obtain ⟨fx,ex⟩:=xt
 refine ⟨y,cX,fx,d,rfl,ex.ex,ey,h0 y fy,er _ d (fun b o e=>?_) (by rw [QD nd];exact ed)⟩
 have ny:b≠y:=fun z=>by rw [z,fy] at e;cases e
 rw [QD ny];exact sb b o ny (by rw [zf ny];exact e)
local macro_rules | `(tactic| walk_at "rdc")=>`(tactic| first
 | (with_reducible first | apply zGD | apply zFw | apply zLH | apply zG1 | apply zC9 | apply zKh)
 | fail "k53 stops")
local macro_rules | `(tactic| walk_at "fld2")=>`(tactic| first | assumption | (refine jf.same (by assumption) ?_;walk_at "fld2"))
include Z in
theorem qp:Gx P w K mg base CX0 "__init__" [zO] 1 ["self", "at"] (x0 K zO):=by
 have xt : ∃ f,ExF K zO f "at" := Z.cc
 refine VP Z.f0 (l2N (by intros;rfl)) fun fq fd F=>?_
 refine F.ok QP (fun vs H Q E=>?_) (fun _ _ _ s H vs Q E hr h=>?_)
 ·walk_at "ln"
 obtain ⟨y,k,rfl,hy,k0,k1,q⟩:=h
 refine ⟨_,zD (jE (zDr Z.pi rfl Z.ab (zA (pv 0) (zA (zIj (pv 1) (by decide +kernel) (by decide +kernel)) (zC)))))
  (zF (zGU (pv 0) (pv 1) rfl)),?_⟩
 walk_at "st"
 walk_at "rd"
 refine ⟨k,rfl,k0,k1,fun z=>?_⟩
 walk_at "rd"
 refine zC7 hy xt ?_
 walk_at "rd"
 refine zJb hy xt fun d fr=>?_
 have nd:d≠y:=(zg hy fr).symm
 walk_at "rd"
 exact q _ d (fun b o nb e=>by rw [zf nb,zf (zg e fr)];exact e) zK nd (by rw [zf nd,zK])
def Qb (K:W.Frag) (C:Addr):Sp:=fun vs H Q _=>∃ (a dx L:Addr),vs=[.ref a,.ref L]/\H a=some (.ins C dx [])/\Q .non (upd H a (.ins C dx (wfs L 0)))
def Z1 (K:W.Frag) (C cX:Addr):Sp:=fun vs H Q E=>∃ (a:Addr) (r:List Wd) (n:Nat),vs=[.ref a]/\Wr K C H a r n/\(∀ t r',r=t::r'->Q (.str (T t)) H)/\(r=[]->Er cX a H E n)
def xK (K:W.Frag) (C cX:Addr):Sp:=fun vs H Q E=>∃ (a:Addr) (b:Bool) (t:Wd) (r:List Wd) (n:Nat),vs=[.ref a,.bl b]/\Wr K C H a (t::r) n/\(b=true -> ∀ H',SBW a H H'->Wr K C H' a r (n+1)->Q .non H')/\(b=false->Er cX a H E n)
def xq (K:W.Frag) (C cX:Addr):Sp:=fun vs H Q E=>∃ (a:Addr) (k:Wd) (r:List Wd) (n:Nat),vs=[.ref a,.str (T k)]/\Wr K C H a r n/\(∀ r',r=k::r' -> ∀ H',SBW a H H'->Wr K C H' a r' (n+1)->Q (.bl true) H')/\(r.head? ≠ some k->Q (.bl false) H)
theorem Xs {a:Addr} {r:List Wd} (h:Wr K C H a r n) (q : ∀ t r',r=t::r'->Q (.str (T t)) H) (e:r=[]->Er cX a H E n):Z1 K C cX (.ref a::([]++[])) H Q E:=⟨a,r,n,rfl,h,q,e⟩
theorem zL8 {a:Addr} {b:Bool} {t:Wd} {r:List Wd} (h:Wr K C H a (t::r) n) (q:b=true -> ∀ H',SBW a H H'->Wr K C H' a r (n+1)->Q .non H') (e:b=false->Er cX a H E n):xK K C cX (.ref a::([.bl b]++[])) H Q E:=⟨a,b,t,r,n,rfl,h,q,e⟩
theorem zBc {a:Addr} {r:List Wd} {m:Str} (h:Wr K C H a r n) (h1:m ≠ "words") (h2:m ≠ "at"):zD9 H a C m:=let ⟨dx,L,ws,e,_⟩:=h;⟨dx,_,e,zHC h1 h2⟩
include Z in
theorem JQ:Gx P w K mg base CX0 "__init__" [zL] 1 ["self", "words"] (Qb K zL):=by
 have cl:Cls K zL:=Z.b3
 have na:qg K zL ["words", "at"]:=Z.b4
 refine VP Z.f1 (l2N (by intros;rfl)) fun fq fd F=>?_
 refine F.ok Qa (fun vs H Q E=>?_) (fun _ _ _ s H vs Q E hr h=>?_)
 ·walk_at "ln"
 obtain ⟨a,dx,L,rfl,e0,q⟩:=h
 refine ⟨_,zD (jd (pv 0) (pv 1) rfl)
  (zF (jd (pv 0) (zB) rfl)),?_⟩
 walk_at "st"
 walk_at "rd"
 refine jb e0 cl (na.at (by decide +kernel)) (by decide) ?_
 rw [qc]
 walk_at "rd"
 refine jb zK cl (na.at (by decide +kernel)) (by show 1 < 1000;decide) ?_
 rw [qo,zh (by decide +kernel),qc]
 walk_at "rd"
 exact q
include Z in
theorem jZ:Gx P w K mg base (Xc P w) "peek" [zL] 3 ["self"] (Z1 K zL zO):=by
 have cl:Cls K zL:=Z.b3
 have na:qg K zL ["words", "at"]:=Z.b4
 have xt : ∃ f,ExF K zO f "at" := Z.cc
 refine VP Z.f2 (l1N (by intros;rfl)) fun fq fd F=>?_
 refine F.okX4 Yr (fun vs H Q E=>?_) (fun _ _ _ s H vs Q E hr h td pp=>?_)
 ·walk_at "ln"
 refine ⟨_,zD (z5 (zT qJ (qa (pv 0) rfl) (zR qh Z.ao rfl qy (zA (qa (pv 0) rfl) (zC))) (zS _)) (zF (k8 td rfl (QG (zIK (qp Z) Z.cb) xA hr rfl Z.ai (zA (qa (pv 0) rfl) (zC))))) (zX))
  (zF (zQ (za zi (qa (pv 0) rfl) (qa (pv 0) rfl) (fun _ _=>rfl)))),?_⟩
 obtain ⟨a,r,n,rfl,W,q,er⟩:=h
 all_goals walk_at "st"
 obtain ⟨dx,L,ws,e,hl0,hn,hd,hz,_⟩:=W
 have hl:SqL K H L (tsV ws):=SqL.of hl0
 have fA:jf K H a "at" (.int n):=⟨zL,dx,_,e,cl,na.at (by decide +kernel),zEJ⟩
 have fW:jf K H a "words" (.ref L):=⟨zL,dx,_,e,cl,na.at (by decide +kernel),YR⟩
 have tl:(tsV ws).length=ws.length:=length_map _
 walk_at "rd"
 ·rename_i hc
  refine QW xt (fun _ h=>h) (by omega) (by omega) (er ?_).s
  rw [<- hd];exact drop_eq_nil_of_le (by omega)
 ·rename_i hc
  have lt:n < ws.length:=by omega
  rw [List.drop_eq_getElem_cons lt] at hd
  have e2:(ws.getD n [])=ws[n]:=by rw [getD_eq_getElem?_getD,getElem?_eq_getElem lt];rfl
  rw [toNat_natCast,e2]
  exact q _ _ hd.symm
include Z in
theorem jF:Gx P w K mg base (Xc P w) "go_past" [zL] 3 ["self", "can_stand"] (xK K zL zO):=by
 have cl:Cls K zL:=Z.b3
 have na:qg K zL ["words", "at"]:=Z.b4
 have xt : ∃ f,ExF K zO f "at" := Z.cc
 refine VP Z.f3 (l2N (by intros;rfl)) fun fq fd F=>?_
 refine F.okX4 JG (fun vs H Q E=>?_) (fun _ _ _ s H vs Q E hr h td pp=>?_)
 ·walk_at "ln"
 refine ⟨_,zD (z5 (xb (qd (pv 1))) (zF (k8 td rfl (QG (zIK (qp Z) Z.cb) xA hr rfl Z.ai (zA (qa (pv 0) rfl) (zC))))) (zX))
  (zF (jd (pv 0) (zP z9 (qa (pv 0) rfl) (zB)) rfl)),?_⟩
 obtain ⟨a,b,t,r,n,rfl,W,q,er⟩:=h
 all_goals walk_at "st"
 obtain ⟨dx,L,ws,e,hl0,hn,hd,hz,hk⟩:=W
 have fA:jf K H a "at" (.int n):=⟨zL,dx,_,e,cl,na.at (by decide +kernel),zEJ⟩
 have lt:n < ws.length:=by
  rcases lt_or_ge n ws.length with z | z
  ·exact z
  ·rw [drop_eq_nil_of_le z] at hd;cases hd
 cases b with
 | false =>
  walk_at "rd"
  exact QW xt (fun _ h=>h) (by omega) (by omega) (er rfl).s
 | true =>
  walk_at "rd"
  refine jb e cl (na.at (by decide +kernel)) (by show 2 < 1000;decide) ?_
  rw [show ((n:Int)+1)=((n+1:Nat):Int) from by omega,zEY]
  walk_at "rd"
  refine q rfl _ (SBW.step e) ⟨dx,L,ws,zK,(by rw [zf (fun z=>by subst z;rw [e] at hl0;cases hl0)];exact hl0),lt,?_,hz,fun w hw=>hk w (mem_cons_of_mem _ hw)⟩
  rw [List.drop_eq_getElem_cons lt,List.cons.injEq] at hd
  exact hd.2
include Z in
theorem zm:Gx P w K mg base (Xc P w) "has_clause" [zL] 4 ["self", "word"] (xq K zL zO):=by
 have cl:Cls K zL:=Z.b3
 have na:qg K zL ["words", "at"]:=Z.b4
 refine VP Z.f4 (l2N (by intros;rfl)) fun fq fd F=>?_
 refine F.okX4 Zq (fun vs H Q E=>?_) (fun _ _ _ s H vs Q E hr h td pp=>?_)
 ·walk_at "ln"
 refine ⟨_,zD (z5 (PW.pt (kz (zT qJ (qa (pv 0) rfl) (zR qh Z.ao rfl qy (zA (qa (pv 0) rfl) (zC))) (zS _)) (j8 (zT kg (qQ (xT (jZ Z) in0) Z.b3 pp hr (pv 0)) (pv 1) (zS _))))) (zF (zQ (Qm))) (zX))
  (zD (jd (pv 0) (zP z9 (qa (pv 0) rfl) (zB)) rfl)
  (zF (zQ (Qm)))),?_⟩
 obtain ⟨a,k,r,n,rfl,W,q1,q2⟩:=h
 all_goals walk_at "st"
 have W0:=W
 obtain ⟨dx,L,ws,e,hl0,hn,hd,hz,hw⟩:=W
 have hl:SqL K H L (tsV ws):=SqL.of hl0
 have fA:jf K H a "at" (.int n):=⟨zL,dx,_,e,cl,na.at (by decide +kernel),zEJ⟩
 have fW:jf K H a "words" (.ref L):=⟨zL,dx,_,e,cl,na.at (by decide +kernel),YR⟩
 have tl:(tsV ws).length=ws.length:=length_map _
 walk_at "rd"
 ·rename_i hc
  refine q2 ?_
  have:n=ws.length:=by omega
  rw [<- hd,this,List.drop_length];intro z;cases z
 ·rename_i hc
  have lt:n < ws.length:=by omega
  have hd':=hd
  rw [List.drop_eq_getElem_cons lt] at hd'
  refine XE (zBc W0 (by decide +kernel) (by decide +kernel)) ?_
  walk_at "rd"
  refine Xs W0 (fun t r' er=>?_) (fun er=>by rw [er] at hd';cases hd')
  have et:t=ws[n]/\r'=ws.drop (n+1):=by rw [er,List.cons.injEq] at hd';exact ⟨hd'.1.symm,hd'.2.symm⟩
  obtain ⟨rfl,rfl⟩:=et
  walk_at "rd"
  ·rename_i hk
   refine jb e cl (na.at (by decide +kernel)) (by show 2 < 1000;decide) ?_
   rw [show ((n:Int)+1)=((n+1:Nat):Int) from by omega,zEY]
   walk_at "rd"
   have hk':ws[n]=k:=by
    first | exact hk | exact Classical.not_not.mp hk
   refine q1 (ws.drop (n+1)) (by rw [<- hd',hk']) _ (SBW.step e) ⟨dx,L,ws,zK,(by rw [zf (fun z=>by subst z;rw [e] at hl0;cases hl0)];exact hl0),lt,rfl,hz,fun w hw'=>hw w (by rw [er];exact mem_cons_of_mem _ hw')⟩
  ·rename_i hk
   refine q2 ?_
   rw [<- hd',List.head?_cons]
   intro z
   exact hk (Option.some.inj z)
local macro_rules | `(tactic| walk_at "ins")=>`(tactic| exact zBc (by walk_at "wr") (by decide +kernel) (by decide +kernel))
local macro_rules | `(tactic| walk_at "wr")=>`(tactic| first | assumption | (refine Wr.same (by assumption) ?_;walk_at "wr"))
include Z in
theorem JE:Has P w K mg base "figures_of" 1 ["number", "base"] (QO K):=by
 refine xz Z.kn Z.f5 (l2N (by intros;rfl)) fun fq fd F=>?_
 refine F.ok ju (fun vs H Q E=>?_) (fun _ _ _ s H vs Q E hr h=>?_)
 ·walk_at "ln"
 obtain ⟨n,b,rfl,h1,h2,h3,h4,q⟩:=h
 refine ⟨_,zD (zI (i:=2) ju.nd rfl (Or.inl rfl) (za kG (qq rfl Z.aD (v:=.str "0123456789abcdef") ⟨_,rfl⟩) (zP qE (pv 0) (pv 1)) (fun _ _=>rfl)))
  (zD (zI (i:=3) ju.nd rfl (Or.inl rfl) (zP qb (pv 0) (pv 1)))
  (zD (Yg PassesOwn.never (zT Zp (pv 3) (zB) (zS _)) (zD (zI (i:=2) ju.nd rfl (Or.inl rfl) (zP jR (za kG (qq rfl Z.aD (v:=.str "0123456789abcdef") ⟨_,rfl⟩) (zP qE (pv 3) (pv 1)) (fun _ _=>rfl)) (pv 2)))
  (zF (zI (i:=3) ju.nd rfl (Or.inl rfl) (zP qb (pv 3) (pv 1))))))
  (zF (zQ (pv 2))))),?_⟩
 walk_at "st"
 obtain ⟨N,rfl⟩:=Int.eq_ofNat_of_zero_le h1
 obtain ⟨m,rfl⟩:=Int.eq_ofNat_of_zero_le (show 0<=b by omega)
 have hz:=zDd (b:=m) (n:=N) (by omega) (by omega)
 have em : ∀ k:Nat,(k:Int) % (m:Int)=((k % m:Nat):Int):=fun k=>(Int.natCast_emod k m).symm
 have ed : ∀ k:Nat,(k:Int) / (m:Int)=((k / m:Nat):Int):=fun k=>(Int.natCast_ediv k m).symm
 have lm : ∀ k:Nat,k % m < m:=fun k=>Nat.mod_lt k (by omega)
 have sp:=XM (b:=m) (by omega) (by omega) N N (Nat.le_refl _)
 replace q:=q _ rfl (by simp only [toNat_natCast];exact sp.1) (by simp only [toNat_natCast];exact sp.2.1) (by simp only [toNat_natCast];exact List.length_pos_iff.mpr sp.2.2.1) (by simp only [toNat_natCast];exact hz) (by
  simp only [toNat_natCast];intro z;rw [sp.2.2.2 z,xM (by omega)];decide +kernel)
 simp only [toNat_natCast] at q
 have l0:=lm N
 have e0:=em N
 walk_at "rd"
 rw [ed N,em N,toNat_natCast]
 refine V5 (fun k σ H'=>H'=H /\ ∃ l:List Nat,σ=[some (.int N),some (.int m),some (.str (T l)),some (.int k)]/\QS m N=if k=0 then l else QS m k++l) ⟨N / m,rfl,[fc (N % m)],rfl,?_⟩ ?_
 ·have t:=VU (b:=m) (m:=N) (by omega) []
  rw [append_nil] at t;exact t
 ·rintro k σ H' ⟨rfl,l,rfl,e⟩
  have lk:=lm k
  have ek:=em k
  have ll:l.length<=240:=by
   have z:=congrArg List.length e
   split at z
   ·omega
   ·rw [length_append] at z;omega
  walk_at "rd"
  ·rename_i hc
   refine ⟨k / m,Nat.div_lt_self (by omega) (by omega),rfl,fc (k % m)::l,?_,?_⟩
   ·rw [em k,ed k,toNat_natCast];rfl
   ·rw [<- VU (by omega) l,e,if_neg (by omega)]
  ·rename_i hc
   rw [if_pos (by omega)] at e
   rw [<- e];exact q
include Z in
theorem KG:zLv P w K mg base "number_of" 1 ["text", "base"] (Va K):=by
 have Zj:Nm K "NoFigures" qA:=Z.bT
 refine xz Z.kn Z.f6 (l2N (by intros;rfl)) fun fq fd F=>?_
 refine F.okX xD (fun vs H Q E=>?_) (fun _ _ _ s H vs Q E hr h tk=>?_)
 ·walk_at "ln"
 refine ⟨_,zD (z5 (PW.pt (kz (xb (qd (zR ZI Z.aq rfl qI (zA (pv 0) (zA (ki rfl Z.ar y7 (v:=.ty "str") rfl) (zC)))))) (j8 (xb (zDH V3 V3 (zB) (zR jG Z.ao rfl qy (zA (pv 0) (zC))) (qq rfl Z.aE (v:=.int 240) ⟨_,rfl⟩)))))) (zF (WL tk rfl Z.bS rfl Z.ad (zA (zZ) (zC)))) (zX))
  (zD (zI (i:=2) xD.nd rfl (Or.inl rfl) (zB))
  (zD (J8 PassesOwn.leaving rfl (zBB (pv 0)) (qF (i:=3) xD.nd rfl (Or.inl rfl)) (zD (zI (i:=4) xD.nd rfl (Or.inl rfl) (yx PySem.F.plainAttrs_str PySem.F.slot_str_find PySem.F.type_str_find zDe (qq rfl Z.aD (v:=.str "0123456789abcdef") ⟨_,rfl⟩) (zA (pv 3) (zC))))
  (zD (z5 (PW.pt (kz (zT zB4 (pv 4) (zB) (zS _)) (j8 (zT zGl (pv 4) (pv 1) (zS _))))) (zF (WL tk rfl Z.bS rfl Z.ad (zA (zZ) (zC)))) (zX))
  (zF (zI (i:=2) xD.nd rfl (Or.inl rfl) (zP z9 (zP jk (pv 2) (pv 1)) (pv 4)))))))
  (zF (zQ (pv 2))))),?_⟩
 obtain ⟨l,b,rfl,al,h2,h3,h4,q1,q2⟩:=h
 all_goals walk_at "st"
 have q2':=fun n=>q2 n qA Zj
 rcases Nat.eq_zero_or_pos l.length with h0 | h0
 ·walk_at "rd"
  exact ⟨qz (by decide),q2' (fun _=>h0)⟩
 walk_at "rd"
 refine zGv (fun i σ H'=>H'=H/\xG b (l.take i) /\ ∃ r1 r2:Option V,σ=[some (.str (T l)),some (.int b),some (.int (val b (l.take i))),r1,r2]) ⟨rfl,by rw [List.take_zero];exact fun _ z=>(nomatch z),none,none,rfl⟩ ?_ ?_
 ·rintro i c σ H' hi ⟨rfl,hf,r1,r2,rfl⟩
  have hm:=mem_of_getElem? hi
  have hc1:=al c hm
  walk_at "rd"
  ·exact ⟨qz (by decide),q2' (fun z=>by have:=(z c hm).2.1;omega)⟩
  ·exact ⟨qz (by decide),q2' (fun z=>by have:=(z c hm).2.2;omega)⟩
  ·refine ⟨rfl,hf.snoc hi hc1 (by omega) (by omega),some (.str (T [c])),some (.int (fv c)),?_⟩
   rw [List.take_succ,hi,show (some c).toList=[c] from rfl,Qp];rfl
 ·rintro σ H' ⟨rfl,hf,r1,r2,rfl⟩
  rw [take_length] at hf
  walk_at "rd"
  rw [take_length];exact q1 hf h0
def oI:Option Int->V
 | some n=>.int n
 | none=>.non
def oT:Option Wd->V
 | some s=>.str (T s)
 | none=>.non
theorem WV {w:Wd} (f:xG 10 w) (h1:1<=w.length) {l:Wd} (fl:xG 10 l) (vl:val 10 l=val 10 w) (l1:0 < l.length) (h48:l.getD 0 0=48->l=[48]):l=w↔(w.getD 0 0≠48\/w.length=1):=by
 constructor
 ·rintro rfl
  by_cases z:l.getD 0 0=48
  ·right;rw [h48 z];rfl
  ·exact .inl z
 ·intro h
  have bw:=zAx (b:=10) (by decide) w f
  have bl:=zAx (b:=10) (by decide) l fl
  have pw : ∀ {i j:Nat},i<=j->(10:Int) ^ i<=10 ^ j:=fun {i j} hij=>by
   have:=Nat.pow_le_pow_right (n:=10) (by decide) hij
   exact_mod_cast this
  have len:l.length=w.length:=by
   rcases Nat.lt_trichotomy l.length w.length with q | q | q
   ·exfalso
    rcases h with h | h
    ·have lo:=zEt (b:=10) (by decide) w f h1 h
     have:=pw (i:=l.length) (j:=w.length - 1) (by omega)
     omega
    ·omega
   ·exact q
   ·exfalso
    by_cases z:l.getD 0 0=48
    ·have:=congrArg List.length (h48 z);simp at this;omega
    ·have lo:=zEt (b:=10) (by decide) l fl l1 z
     have:=pw (i:=w.length) (j:=l.length - 1) (by omega)
     omega
  exact zGj (b:=10) (by decide) l w fl f len vl
theorem zIc {w:Wd} (f:xG 10 w) (h1:1<=w.length):tn w=if w.getD 0 0≠48\/w.length=1 then some (val 10 w) else none:=by
 unfold tn
 rw [Kk f,decide_eq_true h1]
 by_cases z:w.getD 0 0≠48\/w.length=1
 ·rw [if_pos z,if_pos]
  rcases z with z | z
  ·rw [decide_eq_true z];rfl
  ·rw [decide_eq_true z];simp
 ·rw [if_neg z,if_neg]
  rw [not_or] at z
  rw [decide_eq_false z.1,decide_eq_false z.2];simp
theorem zGQ {w:Wd} (h:xG 10 w->w.length=0):tn w=none:=by
 unfold tn
 rw [if_neg]
 intro z
 simp only [Bool.and_eq_true,decide_eq_true_eq] at z
 have:=h (zFm z.1.1)
 omega
def Zc (K:W.Frag):Sp:=fun vs H Q _=>∃ w:Wd,vs=[.str (T w)]/\WkW w/\Q (oI (tn w)) H
theorem zHj {w:Wd} (h:WkW w) (q:Q (oI (tn w)) H):Zc K ([.str (T w)]++[]) H Q E:=⟨w,rfl,h,q⟩
include Z in
theorem YW:Has P w K mg base "told_number" 2 ["word"] (Zc K):=by
 have Zj:Nm K "NoFigures" qA:=Z.bT
 have xf:W.exmOne K (.ref qA) (.ref qA)=some true:=Z.cd
 refine xz Z.kn Z.f7 (l1N (by intros;rfl)) fun fq fd F=>?_
 refine F.ok Zg (fun vs H Q E=>?_) (fun _ _ _ s H vs Q E hr h=>?_)
 ·walk_at "ln"
 obtain ⟨w,rfl,wk,q⟩:=h
 refine ⟨_,zD (zHM rfl rfl (fun _ _ _=>zF (zI (i:=1) Zg.nd rfl (Or.inl rfl) (zD3 (KG Z) hr rfl (zA (pv 0) (zA (zB) (zC)))))) (zGN rfl Z.ad (fun _=>zF (zQ (Jl))) (zJq)))
  (zF (zQ (xV (zT qJ (zH (JE Z) hr rfl (zA (pv 1) (zA (zB) (zC)))) (pv 0) (zS _)) (pv 1) (Jl)))),?_⟩
 walk_at "st"
 obtain ⟨wa,wl,wh⟩:=wk
 walk_at "rd"
 refine zJv [some (.str (T w)),none] ?_
 walk_at "rd"
 refine ⟨w,10,rfl,wa,by omega,by decide,by decide,fun f h1=>?_,fun h C nC=>?_⟩
 ·have bd:=zAx (b:=10) (by decide) w f
  have l60:w.length<=60:=by
   rcases wh with h | h
   ·exact h
   ·exfalso
    match w,h with
    | c::r,h =>
     cases h
     exact absurd (f 61 (mem_cons_self ..)).2.1 (by decide)
  have b72:(10:Int) ^ w.length<=10 ^ 60:=by
   have:=Nat.pow_le_pow_right (n:=10) (by decide) l60
   exact_mod_cast this
  have b73:(10:Int) ^ 60 < 1766847064778384329583297500742918515827483896875618958121606201292619776:=by decide +kernel
  have tf:=zIc f h1
  walk_at "rd"
  ·rename_i l' el f1 f2 f3 f4 f5 hc
   rw [tf,if_pos ((WV f h1 f1 f2 f3 f5).mp hc)] at q
   exact q
  ·rename_i l' el f1 f2 f3 f4 f5 hc
   rw [tf,if_neg fun z=>hc ((WV f h1 f1 f2 f3 f5).mpr z)] at q
   exact q
 ·have eC:C=qA:=by
   have:=nC.symm.trans Zj
   cases this;rfl
  subst eC
  refine ⟨_,rfl,zMJ xf ?_⟩
  rw [if_pos rfl]
  rw [zGQ h] at q
  walk_at "rd"
  exact q
theorem zGo {a b:Nat}:ltT [a] [b]=decide (a < b):=by
 unfold ltT
 by_cases h:a < b
 ·rw [decide_eq_true h];exact decide_eq_true (List.cons_lt_cons_iff.mpr (.inl h))
 ·rw [decide_eq_false h]
  refine decide_eq_false fun z=>?_
  rcases List.cons_lt_cons_iff.mp z with q | ⟨_,q⟩
  ·exact h q
  ·cases q
theorem Wc : ∀ l:Wd,((List.range (l.length - 1)).map fun j=>decide (l.getD j 0 < l.getD (j+1) 0)).all id=Ky l
 | []=>rfl
 | [a]=>rfl
 | a::b::r=>by
  have ih:=Wc (b::r)
  rw [show (a::b::r).length - 1=((b::r).length - 1)+1 from rfl,List.range_succ_eq_map,map_cons,map_map,List.all_cons,Ky]
  show (id (decide (a < b)) && _)=_
  rw [<- ih];rfl
def JF (K:W.Frag):Sp:=fun vs H Q _=>∃ l:List Nat,vs=[.str (T l)]/\1<=l.length/\l.length<=200 /\ ∀ H',zc H H'->Q (.bl (Ky l)) H'
theorem zED (h1:1<=l.length) (h2:l.length<=200) (q : ∀ H',zc H H'->Q (.bl (Ky l)) H'):JF K ([.str (T l)]++[]) H Q E:=⟨l,rfl,h1,h2,q⟩
local macro_rules | `(tactic| walk_at "rdc")=>`(tactic| (with_reducible refine zKe ?_))
include Z in
theorem KO:Has P w K mg base "is_rising" 1 ["signs"] (JF K):=by
 refine xz Z.kn Z.f8 (l1N (by intros;rfl)) fun fq fd F=>?_
 refine F.ok Vj (fun vs H Q E=>?_) (fun _ _ _ s H vs Q E hr h=>?_)
 ·walk_at "ln"
 obtain ⟨l,rfl,h1,h2,q⟩:=h
 refine ⟨_,zF (zQ (zR (VF rfl) Z.aB rfl zE9 (zA (yq (cl:=[("signs", s.heap.objs.size+1+0)]) (fr:=["signs"]) (is:=[0]) rfl rfl ⟨rfl,trivial⟩ rfl ⟨⟨rfl,rfl,Or.inl rfl⟩,trivial⟩ (by decide) (by decide +kernel) rfl (by decide +kernel) rfl (xp rfl Z.ap (zA (zP k7 (zR jG Z.ao rfl qy (zA (pv 0) (zC))) (zB)) (zC))) (fun _ _ _ _=>j7) (fun _ _ _ _=>zy zHk (za kG (pv 1) (pv 0) (fun _ _=>rfl)) (za kG (pv 1) (zP z9 (pv 0) (zB)) (fun _ _=>rfl)) (zS _))) (zC)))),?_⟩
 walk_at "st"
 walk_at "rd"
 refine Kw (by omega) (by omega) (Nat.le_of_lt (jl (by omega))) (fun i ys H'=>H'=H/\ys=((List.range i).map fun j=>decide (l.getD j 0 < l.getD (j+1) 0)).map V.bl) ⟨rfl,rfl⟩ (fun i ys H' _ h=>by rw [h.2];simp) ?_ ?_
 ·rintro i ys H' hi ⟨rfl,rfl⟩
  walk_at "rd"
  rw [show (0+(i:Int)).toNat=i by omega,show (0+(i:Int)+1).toNat=i+1 by omega,zGo]
  exact nxC hi ⟨rfl,by rw [range_succ,map_append,map_append];rfl⟩
 ·rintro ys H' ⟨rfl,rfl⟩ p1 H1 g1 e1
  walk_at "rd"
  rw [show ((l.length:Int) - 1).toNat=l.length - 1 by omega,Wc]
  exact q _ g1
def QE (K:W.Frag):Sp:=fun vs H Q _=>∃ w:Wd,vs=[.str (T w)]/\w.length<=100 /\ ∀ H',zc H H'->Q (oT (tsg w)) H'
theorem zDi {w:Wd} (h:w.length<=100) (q : ∀ H',zc H H'->Q (oT (tsg w)) H'):QE K ([.str (T w)]++[]) H Q E:=⟨w,rfl,h,q⟩
theorem YX {n v:Str} (h:Zw n v):tsg (Lt n)=some (Lt v):=by
 rcases h with ⟨rfl,rfl⟩ | ⟨rfl,rfl⟩ | ⟨rfl,rfl⟩ | ⟨rfl,rfl⟩ <;> decide +kernel
theorem YU {w:Wd} (h : ∀ n v,Zw n v->w≠Lt n):tsg w=if decide (w.getD 0 0=61) && decide (2<=w.length) && Ky (w.drop 1) then some (w.drop 1) else none:=by
 unfold tsg
 rw [if_neg (h "lower" _ (.inl ⟨rfl,rfl⟩)),if_neg (h "upper" _ (.inr (.inl ⟨rfl,rfl⟩))),if_neg (h "figures" _ (.inr (.inr (.inl ⟨rfl,rfl⟩)))),if_neg (h "all" _ (.inr (.inr (.inr ⟨rfl,rfl⟩))))]
theorem zCf (w:Wd):(∃ n v,Zw n v/\w=Lt n) \/ ∀ n v,Zw n v->w≠Lt n:=by
 rcases Classical.em (∃ n v,Zw n v/\w=Lt n) with h | h
 ·exact .inl h
 ·exact .inr fun n v hk e=>h ⟨n,v,hk,e⟩
include Z in
theorem Vf:Has P w K mg base "told_signs" 2 ["word"] (QE K):=by
 have ss:WF w K qY:=Z.ss
 refine xz Z.kn Z.f9 (l1N (by intros;rfl)) fun fq fd F=>?_
 refine F.ok QC (fun vs H Q E=>?_) (fun _ _ _ s H vs Q E hr h=>?_)
 ·walk_at "ln"
 obtain ⟨u,rfl,hl,q⟩:=h
 refine ⟨_,zD (z5 (zT zHp (pv 0) (qq rfl Z.aF (v:=.ref qY) rfl) (by with_unfolding_all rfl)) (zF (zQ (za zFR (qq rfl Z.aF (v:=.ref qY) rfl) (pv 0) (fun _ _=>rfl)))) (zX))
  (zD (zI (i:=1) QC.nd rfl (Or.inl rfl) (zt xl (pv 0) (zx (zB)) (qL)))
  (zD (z5 (PW.pt (kz (xb (qd (yx PySem.F.plainAttrs_str PySem.F.slot_str_startswith PySem.F.type_str_startswith Xj (pv 0) (zA (zE (l:=[61]) (by decide +kernel)) (zC))))) (j8 (zT qJ (pv 1) (zE (l:=[]) (by decide +kernel)) (zS _))))) (zF (zQ (Jl))) (zX))
  (zF (zQ (xV (qd (zH (KO Z) hr rfl (zA (pv 1) (zC)))) (pv 1) (Jl)))))),?_⟩
 walk_at "st"
 rcases zCf u with ⟨n,v,hk,rfl⟩ | hn
 ·rw [YX hk] at q
  rw [ZY] at *
  walk_at "rd"
  refine zIA (ss.has n v hk) ?_
  walk_at "rd"
  refine zE8 (ss.get n v hk) ?_
  have h:Q (.str (T (Lt v))) H:=q _ (zc.refl _)
  rw [ZY] at h
  exact h
 ·rw [YU hn] at q
  have tk:u.take 1=[61]↔u.getD 0 0=61:=by
   cases u with
   | nil=>simp
   | cons c r=>simp
  walk_at "rd"
  refine zIA (ss.no u hn) ?_
  walk_at "rd"
  ·rename_i c1 c2
   have c3:u.drop 1=[]:=of_decide_eq_true c2
   have l1 : ¬ 2<=u.length:=fun h=>by have:=congrArg List.length c3;rw [length_drop] at this;simp at this;omega
   rw [decide_eq_false l1,Bool.and_false,Bool.false_and,if_neg Bool.false_ne_true] at q
   exact q _ (zc.refl _)
  ·rename_i c1 c2
   have c3:u.drop 1≠[]:=of_decide_eq_false c2
   have l1:2<=u.length:=by have:=List.length_pos_iff.mpr c3;rw [length_drop] at this;omega
   rw [decide_eq_true (tk.mp c1),decide_eq_true l1] at q
   refine zED (l:=u.drop 1) (by rw [length_drop];omega) (by rw [length_drop];omega) fun H1 g1=>⟨_,rfl,?_⟩
   have q':=q _ g1
   cases hr:Ky (u.drop 1) with
   | true =>
    rw [hr] at q'
    walk_at "rd"
    exact q'
   | false =>
    rw [hr] at q'
    walk_at "rd"
    exact q'
  ·rename_i c1
   rw [decide_eq_false (fun h=>c1 (tk.mpr h)),Bool.false_and,Bool.false_and,if_neg Bool.false_ne_true] at q
   exact q _ (zc.refl _)
theorem zGc (q:Q (.bl false) H):zDv .non .non H Q:=⟨rfl,by rw [decide_eq_true rfl];exact q⟩
theorem zGg {z:Str} (q:Q (.bl true) H):zDv (.str z) .non H Q:=⟨rfl,by rw [decide_eq_false (fun z=>nomatch z)];exact q⟩
local macro_rules | `(tactic| walk_at "rdc")=>`(tactic| first | (with_reducible refine zGc ?_) | (with_reducible refine zGg ?_) | fail "k53t stops")
def Tk (K:W.Frag) (C cX a:Addr) (H:Hp) (E:XK) (can:Wd->Bool) (go:Wd->Au) (q:Wd->Hp->Prop):Prop:=∃ (r:List Wd) (n:Nat) (R:Int),Wr K C H a r n/\Au.run r (.need can go) n=R/\Er cX a H E R /\ ∀ t r' H',can t=true->WkW t->SBW a H H'->Wr K C H' a r' (n+1)->Au.run r' (go t) ((n+1:Nat):Int)=R->q t H'
variable {R:Int}
theorem XW {K:PySem.W.Frag} {a:Addr} {can:Wd->Bool} {go:Wd->Au} {t:Wd} {r:List Wd} {b:Bool} (W:Wr K C H a (t::r) n) (hb:b=can t) (hR:Au.run (t::r) (.need can go) n=R) (er:Er cX a H E R) (q : ∀ H',can t=true->SBW a H H'->Wr K C H' a r (n+1)->Au.run r (go t) ((n+1:Nat):Int)=R->Q .non H'):xK K C cX (.ref a::([.bl b]++[])) H Q E:=by
 refine zL8 W (fun h H' s W'=>q H' (hb ▸ h) s W' (by rw [<- hR,zKK (hb ▸ h)];rfl)) fun h=>?_
 have e:R=n:=by rw [<- hR,zK9 (hb ▸ h)]
 rw [<- e];exact er
def xO (K:W.Frag) (C cX:Addr):Sp:=fun vs H Q E=>∃ (a:Addr) (lo hi:Int) (g:Int->Au),vs=[.ref a,.int lo,.int hi]/\Tk K C cX a H E (Qc lo hi) (fun w=>g ((tn w).getD 0)) fun w H'=>∀ k,tn w=some k->lo<=k->k<=hi->Q (.int k) H'
include Z in
theorem zv:Gx P w K mg base (Xc P w) "take_number" [zL] 4 ["self", "least", "most"] (xO K zL zO):=by
 refine VP Z.aU (l3N (by intros;rfl)) fun fq fd F=>?_
 refine F.okX4 xR (fun vs H Q E=>?_) (fun _ _ _ s H vs Q E hr h td pp=>?_)
 ·walk_at "ln"
 refine ⟨_,zD (zI (i:=3) xR.nd rfl (Or.inl rfl) (zH (YW Z) hr rfl (zA (qQ (xT (jZ Z) in0) Z.b3 pp hr (pv 0)) (zC))))
  (zD (jE (zj (xT (jF Z) in0) Z.b3 pp hr (pv 0) (zA (Qt (zy K4 (pv 3) (Jl) (zS _)) (ku (WM V3 V3 (pv 1) (pv 3) (pv 2)))) (zC))))
  (zF (zQ (pv 3)))),?_⟩
 obtain ⟨a,lo,hi,g,rfl,r,n,R,W,hR,er,q⟩:=h
 all_goals walk_at "st"
 walk_at "rd"
 refine Xs W (fun t r' e=>?_) (fun e=>by subst e;subst hR;exact er)
 subst e
 walk_at "rd"
 refine zHj W.wk ?_
 cases ht:tn t with
 | none =>
  unfold oI
  walk_at "rd"
  refine XW W (by rw [Za ht]) hR er fun H' h=>?_
  rw [Za ht] at h;cases h
 | some k =>
  unfold oI
  by_cases h1:lo<=k
  ·walk_at "rd"
   refine XW W (by unfold Qc;rw [ht];show decide (k<=hi)=(decide (lo<=k) && decide (k<=hi));rw [decide_eq_true h1,Bool.true_and]) hR er fun H' h s W' hR'=>?_
   walk_at "rd"
   refine q t _ _ h W.wk s W' hR' k ht h1 ?_
   unfold Qc at h;rw [ht] at h
   have h2:(decide (lo<=k) && decide (k<=hi))=true:=h
   rw [decide_eq_true h1,Bool.true_and] at h2
   exact of_decide_eq_true h2
  ·walk_at "rd"
   refine XW W (by rw [Jc ht (.inl (by omega))]) hR er fun H' h=>?_
   rw [Jc ht (.inl (by omega))] at h;cases h
def yN (K:W.Frag) (C cX:Addr):Sp:=fun vs H Q E=>∃ (a:Addr) (g:Nat->Au),vs=[.ref a]/\Tk K C cX a H E (fun w=>decide (w=jT) || decide (w.length=1)) (fun w=>g (sgV w)) fun w H'=>Q (.str (T [sgV w])) H'
include Z in
theorem j4:Gx P w K mg base (Xc P w) "take_sign" [zL] 4 ["self"] (yN K zL zO):=by
 refine VP Z.aV (l1N (by intros;rfl)) fun fq fd F=>?_
 refine F.okX4 yQ (fun vs H Q E=>?_) (fun _ _ _ s H vs Q E hr h td pp=>?_)
 ·walk_at "ln"
 refine ⟨_,zD (zI (i:=1) yQ.nd rfl (Or.inl rfl) (qQ (xT (jZ Z) in0) Z.b3 pp hr (pv 0)))
  (zD (jE (zj (xT (jF Z) in0) Z.b3 pp hr (pv 0) (zA (zHN (zy qJ (pv 1) (zE (l:=[98,108,97,110,107]) (by decide +kernel)) (zS _)) (ku (zy qJ (zR jG Z.ao rfl qy (zA (pv 1) (zC))) (zB) (zS _)))) (zC))))
  (zF (zQ (xV (zT qJ (pv 1) (zE (l:=[98,108,97,110,107]) (by decide +kernel)) (zS _)) (zE (l:=[32]) (by decide +kernel)) (pv 1))))),?_⟩
 obtain ⟨a,g,rfl,r,n,R,W,hR,er,q⟩:=h
 all_goals walk_at "st"
 walk_at "rd"
 refine Xs W (fun t r' e=>?_) (fun e=>by subst e;subst hR;exact er)
 subst e
 have tl:=W.wk.2.1
 by_cases hb:t=jT
 ·subst hb
  walk_at "rd"
  refine XW W rfl hR er fun H' h s W' hR'=>?_
  walk_at "rd"
  exact q _ _ _ h W.wk s W' hR'
 ·walk_at "rd"
  refine XW W (by rw [decide_eq_false hb,Bool.false_or];exact decide_eq_decide.mpr (by omega)) hR er fun H' h s W' hR'=>?_
  have l1:t.length=1:=by rw [decide_eq_false hb,Bool.false_or] at h;exact of_decide_eq_true h
  obtain ⟨c,rfl⟩:=List.length_eq_one_iff.mp l1
  walk_at "rd"
  have h2:Q (.str (T [sgV [c]])) H':=q _ _ _ h W.wk s W' hR'
  rw [show sgV [c]=c from if_neg hb] at h2
  exact h2
def xN (K:W.Frag) (C cX:Addr):Sp:=fun vs H Q E=>∃ (a p:Addr) (ts:List Wd) (g:Wd->Au),vs=[.ref a,.ref p]/\(SqL K H p (tsV ts)\/SqT K H p (tsV ts))/\Tk K C cX a H E (fun w=>decide (w ∈ ts)) g fun w H'=>w ∈ ts->Q (.str (T w)) H'
include Z in
theorem qs:Gx P w K mg base (Xc P w) "take_one_of" [zL] 4 ["self", "choices"] (xN K zL zO):=by
 refine VP Z.aW (l2N (by intros;rfl)) fun fq fd F=>?_
 refine F.okX4 xS (fun vs H Q E=>?_) (fun _ _ _ s H vs Q E hr h td pp=>?_)
 ·walk_at "ln"
 refine ⟨_,zD (zI (i:=2) xS.nd rfl (Or.inl rfl) (qQ (xT (jZ Z) in0) Z.b3 pp hr (pv 0)))
  (zD (jE (zj (xT (jF Z) in0) Z.b3 pp hr (pv 0) (zA (zy XR (pv 2) (pv 1) (by with_unfolding_all rfl)) (zC))))
  (zF (zQ (pv 2)))),?_⟩
 obtain ⟨a,p,ts,g,rfl,hs,r,n,R,W,hR,er,q⟩:=h
 all_goals walk_at "st"
 walk_at "rd"
 refine Xs W (fun t r' e=>?_) (fun e=>by subst e;subst hR;exact er)
 subst e
 walk_at "rd"
 refine ⟨p,_,rfl,hs,rfl,zBL ts,?_⟩
 rw [show (if false=true then !inV (.str (T t)) (tsV ts) else inV (.str (T t)) (tsV ts))=decide (t ∈ ts) from by rw [if_neg (by decide),Wa]]
 walk_at "rd"
 refine XW W rfl hR er fun H' h s W' hR'=>?_
 walk_at "rd"
 exact q _ _ _ h W.wk s W' hR' (of_decide_eq_true h)
def xZ (K:W.Frag) (C cX:Addr):Sp:=fun vs H Q E=>∃ (a:Addr) (g:Wd->Au),vs=[.ref a]/\Tk K C cX a H E (fun w=>(tsg w).isSome) (fun w=>g ((tsg w).getD [])) fun w H'=>∀ sg,tsg w=some sg->Q (.str (T sg)) H'
include Z in
theorem QK:Gx P w K mg base (Xc P w) "take_signs" [zL] 4 ["self"] (xZ K zL zO):=by
 refine VP Z.aX (l1N (by intros;rfl)) fun fq fd F=>?_
 refine F.okX4 xn (fun vs H Q E=>?_) (fun _ _ _ s H vs Q E hr h td pp=>?_)
 ·walk_at "ln"
 refine ⟨_,zD (zI (i:=1) xn.nd rfl (Or.inl rfl) (zH (Vf Z) hr rfl (zA (qQ (xT (jZ Z) in0) Z.b3 pp hr (pv 0)) (zC))))
  (zD (jE (zj (xT (jF Z) in0) Z.b3 pp hr (pv 0) (zA (zy K4 (pv 1) (Jl) (zS _)) (zC))))
  (zF (zQ (pv 1)))),?_⟩
 obtain ⟨a,g,rfl,r,n,R,W,hR,er,q⟩:=h
 all_goals walk_at "st"
 walk_at "rd"
 refine Xs W (fun t r' e=>?_) (fun e=>by subst e;subst hR;exact er)
 subst e
 walk_at "rd"
 refine zDi W.wk.2.1 fun H1 g1=>?_
 have W1:=W.same g1
 have er1:=er.mono (SB.of g1)
 cases ht:tsg t with
 | none =>
  unfold oT
  walk_at "rd"
  refine XW W1 (by rw [ht];rfl) hR er1 fun H' h=>?_
  rw [ht] at h;cases h
 | some sg =>
  unfold oT
  walk_at "rd"
  refine XW W1 (by rw [ht];rfl) hR er1 fun H' h s W' hR'=>?_
  walk_at "rd"
  exact q _ _ _ h W.wk ((SBW.of g1).trans s) W' hR' sg ht
def yF (K:W.Frag) (C cX:Addr):Sp:=fun vs H Q E=>∃ (a L:Addr) (ns:List Wd) (g:Wd->Au),vs=[.ref a,.ref L]/\SqL K H L (tsV ns)/\Tk K C cX a H E (Kj ns) g fun w H'=>1<=w.length->w.length<=12->w ∉ ns->Q (.str (T w)) H'
include Z in
theorem Ql:Gx P w K mg base (Xc P w) "take_name" [zL] 4 ["self", "names"] (yF K zL zO):=by
 refine VP Z.aY (l2N (by intros;rfl)) fun fq fd F=>?_
 refine F.okX4 yA (fun vs H Q E=>?_) (fun _ _ _ s H vs Q E hr h td pp=>?_)
 ·walk_at "ln"
 refine ⟨_,zD (zI (i:=2) yA.nd rfl (Or.inl rfl) (qQ (xT (jZ Z) in0) Z.b3 pp hr (pv 0)))
  (zD (jE (zj (xT (jF Z) in0) Z.b3 pp hr (pv 0) (zA (Qt (WM V3 V3 (zB) (zR jG Z.ao rfl qy (zA (pv 2) (zC))) (zB)) (ku (zy Y4 (pv 2) (pv 1) (by with_unfolding_all rfl)))) (zC))))
  (zF (zQ (pv 2)))),?_⟩
 obtain ⟨a,L,ns,g,rfl,hL,r,n,R,W,hR,er,q⟩:=h
 all_goals walk_at "st"
 walk_at "rd"
 refine Xs W (fun t r' e=>?_) (fun e=>by subst e;subst hR;exact er)
 subst e
 have tl:=W.wk.2.1
 by_cases h1:1<=t.length
 ·by_cases h2:t.length<=12
  ·walk_at "rd"
   refine XW W (by unfold Kj;rw [decide_eq_true h1,decide_eq_true h2,Bool.true_and,Bool.true_and];simp) hR er fun H' h s W' hR'=>?_
   walk_at "rd"
   refine q _ _ _ h W.wk s W' hR' h1 h2 ?_
   unfold Kj at h
   rw [decide_eq_true h1,decide_eq_true h2,Bool.true_and,Bool.true_and] at h
   exact of_decide_eq_true h
  ·walk_at "rd"
   refine XW W (by unfold Kj;rw [decide_eq_false h2];simp) hR er fun H' h=>?_
   unfold Kj at h;rw [decide_eq_false h2] at h;simp at h
 ·walk_at "rd"
  refine XW W (by unfold Kj;rw [decide_eq_false h1];simp) hR er fun H' h=>?_
  unfold Kj at h;rw [decide_eq_false h1] at h;simp at h
local macro_rules | `(tactic| walk_at "rdc")=>`(tactic| ((with_reducible refine' zAd ?h1 ?h2 ?h3 ?h4 ?_);(case h1|h2|h3|h4=>omega)))
local macro_rules | `(tactic| walk_at "rdc")=>`(tactic| ((with_reducible refine' zBN ?h1 ?h2 ?h3 ?_);(case h1=>assumption);(case h2|h3=>omega)))
local macro_rules | `(tactic| walk_at "rdc")=>`(tactic| ((with_reducible refine' zBD ?h1 ?h2 ?h3 ?h4 ?h5 ?h6 ?h7 ?_);(case h1=>walk_at "hp");(case h2=>assumption);(case h3|h4|h5|h6=>omega);(case h7=>first | assumption | exact .inl rfl | exact .inr (.inl rfl) | exact .inr (.inr (.inl rfl)) | exact .inr (.inr (.inr (.inl rfl))) | exact .inr (.inr (.inr (.inr rfl))))))
include Z in
theorem X2:Has P w K mg base "power_of" 1 ["base", "times"] (XJ K):=by
 refine xz Z.kn Z.aZ (l2N (by intros;rfl)) fun fq fd F=>?_
 refine F.ok yo (fun vs H Q E=>?_) (fun _ _ _ s H vs Q E hr h=>?_)
 ·walk_at "ln"
 obtain ⟨b,t,rfl,h1,h2,h3,h4,q⟩:=h
 refine ⟨_,zD (zI (i:=2) yo.nd rfl (Or.inl rfl) (zB))
  (zD (J8 PassesOwn.never rfl (xp rfl Z.ap (zA (pv 1) (zC))) (qF (i:=3) yo.nd rfl (Or.inl rfl)) (zF (zI (i:=2) yo.nd rfl (Or.inl rfl) (zP jk (pv 2) (pv 0)))))
  (zF (zQ (pv 2)))),?_⟩
 walk_at "st"
 walk_at "rd"
 refine Jv (by omega) (by omega) (fun i σ H'=>H'=H /\ ∃ r,σ=[some (.int b),some (.int t),some (.int (b ^ i)),r]) ⟨rfl,none,by rw [Int.pow_zero];rfl⟩ ?_ ?_
 ·rintro i σ H' hi ⟨rfl,r,rfl⟩
  have z:=zMC (n:=i) h1 h2 (by omega)
  walk_at "rd"
  exact ⟨rfl,some (.int (0+i)),by rw [pow_succ];rfl⟩
 ·rintro σ H' ⟨rfl,r,rfl⟩
  walk_at "rd"
  exact q
include Z in
theorem zBe:Has P w K mg base "goes_up" 1 ["below", "rest", "bottom", "way"] (X3 K):=by
 refine xz Z.kn Z.a0 (l4N (by intros;rfl)) fun fq fd F=>?_
 refine F.ok zAE (fun vs H Q E=>?_) (fun _ _ _ s H vs Q E hr h=>?_)
 ·walk_at "ln"
 obtain ⟨be,re,bo,w,rfl,h1,h2,h3,q⟩:=h
 refine ⟨_,zD (z5 (zT qJ (pv 3) (zZ) (zS _)) (zF (zQ (Qm))) (zX))
  (zD (z5 (zT qJ (pv 3) (zZ) (zS _)) (zF (zQ (Qm))) (zX))
  (zD (z5 (zT qJ (pv 3) (zZ) (zS _)) (zF (zQ (zy zB4 (pv 0) (zB) (zS _)))) (zX))
  (zD (z5 (zT kg (zP jk (zB) (pv 1)) (pv 2) (zS _)) (zF (zQ (zy Zp (zP jk (zB) (pv 1)) (pv 2) (zS _)))) (zX))
  (zF (zQ (zHN (zy qJ (pv 3) (zZ) (zS _)) (ku (zy qJ (zP qE (pv 0) (zB)) (zB) (zS _))))))))),?_⟩
 walk_at "st"
 rcases h1 with rfl | rfl | rfl | rfl | rfl
 all_goals walk_at "rd"
 ·rw [zGf] at q;exact q
 ·rw [zLJ] at q;exact q
 ·rw [zIB] at q;exact q
 ·rw [zG7 (by assumption)] at q;exact q
 ·rw [zDC (by assumption)] at q;exact q
 ·rw [zGq (by assumption)] at q;exact q
 ·rw [zDo (by assumption)] at q;exact q
include Z in
theorem zA9:Has P w K mg base "gridded" 2 ["value", "base", "places", "way"] (Xt K):=by
 refine xz Z.kn Z.a1 (l4N (by intros;rfl)) fun fq fd F=>?_
 refine F.ok yk (fun vs H Q E=>?_) (fun _ _ _ s H vs Q E hr h=>?_)
 ·walk_at "ln"
 obtain ⟨p,a,b,c,t,w,rfl,h1,⟨g1,g2,g3,g4⟩,h3,h4,h5,h6,h7,q⟩:=h
 refine ⟨_,zD (zI (i:=4) yk.nd rfl (Or.inl rfl) (zP jk (za zl (pv 0) (zB) (fun _ _=>rfl)) (zH (X2 Z) hr rfl (zA (pv 1) (zA (pv 2) (zC))))))
  (zD (zI (i:=5) yk.nd rfl (Or.inl rfl) (za zl (pv 0) (zB) (fun _ _=>rfl)))
  (zD (zI (i:=6) yk.nd rfl (Or.inl rfl) (zP qb (pv 4) (pv 5)))
  (zD (zI (i:=7) yk.nd rfl (Or.inl rfl) (zP qE (pv 4) (pv 5)))
  (zD (z5 (PW.pt (Ji (zT Zp (pv 7) (zB) (zS _)) (Zv (qd (zH (zBe Z) hr rfl (zA (pv 6) (zA (pv 7) (zA (pv 5) (zA (pv 3) (zC)))))))))) (zF (zQ (zP z9 (pv 6) (zB)))) (zX))
  (zF (zQ (pv 6))))))),?_⟩
 walk_at "st"
 have z:=pw6 (t:=t) h3 h4 h6
 have m:=zHs (M:=16777217) g1 g2 (show 0 < c ^ t.toNat by omega) (by omega)
 have n:=zLF (a*c ^ t.toNat) g3
 unfold zHV at q
 walk_at "rd"
 ·rw [if_pos ⟨by assumption,by assumption⟩] at q;exact q
 ·rename_i hc1 hc2
  rw [if_neg (fun z=>by rw [hc2] at z;exact Bool.false_ne_true z.2)] at q;exact q
 ·rename_i hc1
  rw [if_neg (fun z=>hc1 z.1)] at q;exact q
include Z in
theorem zAH:Has P w K mg base "parts_of" 1 ["text", "size", "between"] (Ju K):=by
 refine xz Z.kn Z.a2 (l3N (by intros;rfl)) fun fq fd F=>?_
 refine F.ok y2 (fun vs H Q E=>?_) (fun _ _ _ s H vs Q E hr h=>?_)
 ·walk_at "ln"
 obtain ⟨a,z,g,rfl,h1,h2,h3,h4,h5,q⟩:=h
 refine ⟨_,zD (zI (i:=3) y2.nd rfl (Or.inl rfl) (zd (zC)))
  (zD (zI (i:=4) y2.nd rfl (Or.inl rfl) (zR jG Z.ao rfl qy (zA (pv 0) (zC))))
  (zD (Yg PassesOwn.never (zT Zp (pv 4) (zB) (zS _)) (zD (jE (yx PySem.F.plainAttrs_list PySem.F.slot_list_append PySem.F.type_list_append yb (pv 3) (zA (zt xl (pv 0) (zx (zR (YB rfl) Z.au rfl zA4 (zA (zB) (zA (zP k7 (pv 4) (pv 1)) (zC))))) (zx (pv 4))) (zC))))
  (zF (zI (i:=4) y2.nd rfl (Or.inl rfl) (zP k7 (zP k7 (pv 4) (pv 1)) (pv 2))))))
  (zD (jE (zFQ PySem.F.plainAttrs_list PySem.F.slot_list_reverse PySem.F.type_list_reverse zAC (pv 3)))
  (zF (zQ (pv 3)))))),?_⟩
 walk_at "st"
 refine Wz (zDb (zDU (Ki (KM (by decide) fun l hl=>?_))))
 walk_at "rd"
 refine V5 (fun k σ H'=>∃ (e:Int) (ps:List (List Nat)),σ=[some (.str (T a)),some (.int z),some (.int g),some (.ref l),some (.int e)]/\H'=upd H l (.lst (ps.map fun l=>V.str (T l)))/\k=e.toNat/\ps.length+e.toNat<=a.length/\e<=a.length/\pcs a z.toNat g.toNat a.length=pcs a z.toNat g.toNat e.toNat++ps.reverse) ⟨_,a.length,[],rfl,rfl,rfl,by simp,Int.le_refl _,by simp⟩ ?_
 rintro k σ H' ⟨e,ps,rfl,rfl,rfl,b1,b2,ep⟩
 walk_at "rd"
 ·rename_i hc k' hk'
  refine ZG zK (jl (by rw [length_map];omega)) ?_
  rw [qo]
  walk_at "rd"
  refine ⟨(e - z - g).toNat,by omega,e - z - g,ps++[(a.take e.toNat).drop k'.toNat],rfl,by rw [map_append];rfl,rfl,by rw [length_append,List.length_singleton];omega,by omega,?_⟩
  rw [ep,Yb (by omega) (by omega),List.reverse_append,show (e - z - g).toNat=e.toNat - z.toNat - g.toNat by omega,show k'.toNat=e.toNat - z.toNat by omega]
  simp
 ·rename_i hc
  refine zCc zK ?_
  rw [qo]
  walk_at "rd"
  refine q _ _ (qO (zc.refl _) hl) ?_
  rw [zK,ep,show e.toNat=0 by omega,ZQ,nil_append,List.map_reverse]
include Z in
theorem zBA:Has P w K mg base "grouped" 2 ["text", "size", "mark"] (YM K):=by
 refine xz Z.kn Z.a3 (l3N (by intros;rfl)) fun fq fd F=>?_
 refine F.ok zAD (fun vs H Q E=>?_) (fun _ _ _ s H vs Q E hr h=>?_)
 ·walk_at "ln"
 obtain ⟨a,z,m,rfl,h1,h2,h5,q⟩:=h
 refine ⟨_,zD (z5 (zT qJ (pv 1) (zB) (zS _)) (zF (zQ (pv 0))) (zX))
  (zF (zQ (yx PySem.F.plainAttrs_str PySem.F.slot_str_join PySem.F.type_str_join Z2 (pv 2) (zA (zH (zAH Z) hr rfl (zA (pv 0) (zA (pv 1) (zA (zB) (zC))))) (zC))))),?_⟩
 walk_at "st"
 have bd:=fun hz:0 < z.toNat=>zEX (a:=a) (g:=0) hz a.length a.length (Nat.le_refl _)
 walk_at "rd"
 ·rename_i hc
  subst hc
  have q':=q _ (zc.refl _)
  rw [show Int.toNat 0=0 from rfl,XN] at q'
  exact q'
 ·rename_i hc p' H' g' e'
  have b:=bd (by omega)
  refine XI e' (by rw [Xr,List.length_singleton,show Int.toNat 0=0 from rfl];omega) ?_
  rw [Xr,show Int.toNat 0=0 from rfl,zKv (by omega)]
  exact q _ g'
include Z in
theorem zBp:Has P w K mg base "body_of" 3 ["number", "base", "places", "point", "size", "mark"] (YA K):=by
 refine xz Z.kn Z.a4 (l6N (by intros;rfl)) fun fq fd F=>?_
 refine F.ok ZO (fun vs H Q E=>?_) (fun _ _ _ s H vs Q E hr h=>?_)
 ·walk_at "ln"
 obtain ⟨n,b,p,z,pt,m,rfl,hn,h2,h3,q⟩:=h
 refine ⟨_,zD (zI (i:=6) ZO.nd rfl (Or.inl rfl) (yx PySem.F.plainAttrs_str PySem.F.slot_str_rjust PySem.F.type_str_rjust zBa (zH (JE Z) hr rfl (zA (pv 0) (zA (pv 1) (zC)))) (zA (zP z9 (pv 2) (zB)) (zA (zE (l:=[48]) (by decide +kernel)) (zC)))))
  (zD (zI (i:=7) ZO.nd rfl (Or.inl rfl) (zP k7 (zR jG Z.ao rfl qy (zA (pv 6) (zC))) (pv 2)))
  (zD (zI (i:=8) ZO.nd rfl (Or.inl rfl) (zH (zBA Z) hr rfl (zA (zt xl (pv 6) (qL) (zx (pv 7))) (zA (pv 4) (zA (pv 5) (zC))))))
  (zD (z5 (zT qJ (pv 2) (zB) (zS _)) (zF (zQ (pv 8))) (zX))
  (zF (zQ (zP jR (zP jR (pv 8) (pv 3)) (zt xl (pv 6) (zx (pv 7)) (qL)))))))),?_⟩
 walk_at "st"
 have big:=hn.big
 have hn':=hn
 obtain ⟨n1,n2,n3,n4,n5,n6⟩:=hn'
 have ds:=YQ (b:=b.toNat) (p:=p.toNat) (n:=n.toNat) (by omega) (by omega) (by omega) n6
 have ws:=WK (b:=b.toNat) (p:=p.toNat) (n:=n.toNat) (by omega) (by omega) (by omega) n6
 have gl:=zB9 (z:=z.toNat) (m:=m) (a:=whl b.toNat p.toNat n.toNat)
 walk_at "rd"
 rename_i l el f1 f2 f3 f4 f5
 have ed:List.replicate ((p+1).toNat - l.length) 48++l=dgs b.toNat p.toNat n.toNat:=by
  rw [el];unfold dgs;rw [show (p+1).toNat=p.toNat+1 by omega]
 have ew:(dgs b.toNat p.toNat n.toNat).take (((dgs b.toNat p.toNat n.toNat).length:Int) - p).toNat=whl b.toNat p.toNat n.toNat:=by
  unfold whl;rw [show (((dgs b.toNat p.toNat n.toNat).length:Int) - p).toNat=(dgs b.toNat p.toNat n.toNat).length - p.toNat by omega]
 have er:(dgs b.toNat p.toNat n.toNat).drop (((dgs b.toNat p.toNat n.toNat).length:Int) - p).toNat=rst b.toNat p.toNat n.toNat:=by
  unfold rst;rw [show (((dgs b.toNat p.toNat n.toNat).length:Int) - p).toNat=(dgs b.toNat p.toNat n.toNat).length - p.toNat by omega]
 rw [ed]
 walk_at "rd"
 rw [ew]
 walk_at "rd"
 ·rename_i H1 g1 hc
  have e:bdI n b p pt z m=gr z.toNat m (whl b.toNat p.toNat n.toNat):=by unfold bdI bdy;rw [if_pos (by omega)]
  have q':=q _ g1
  rw [e] at q';exact q'
 ·rename_i H1 g1 hc
  have e:bdI n b p pt z m=gr z.toNat m (whl b.toNat p.toNat n.toNat)++[pt]++rst b.toNat p.toNat n.toNat:=by unfold bdI bdy;rw [if_neg (by omega)]
  have q':=q _ g1
  rw [e] at q'
  rw [er];first|exact q'|(rw [ew];exact q')
include Z in
theorem zCg:Has P w K mg base "ends_of" 1 ["style", "below"] (YJ K):=by
 have sty:Sty w K jY:=Z.aJ
 refine xz Z.kn Z.a5 (l2N (by intros;rfl)) fun fq fd F=>?_
 refine F.ok Wj (fun vs H Q E=>?_) (fun _ _ _ s H vs Q E hr h=>?_)
 ·walk_at "ln"
 obtain ⟨x,b,rfl,hx,q⟩:=h
 refine ⟨_,zD (z5 (qd (pv 1)) (zF (zQ (za zl (za zJa (qq rfl Z.aG (v:=.ref jY) rfl) (pv 0) (fun _ _=>rfl)) (zB) (fun _ _=>rfl)))) (zX))
  (zF (zQ (za zl (za zJa (qq rfl Z.aG (v:=.ref jY) rfl) (pv 0) (fun _ _=>rfl)) (zB) (fun _ _=>rfl)))),?_⟩
 walk_at "st"
 obtain ⟨p,a,c,kd,sq⟩:=sty x hx
 cases b with
 | true =>
  walk_at "rd"
  refine zI4 kd ?_
  walk_at "rd"
  exact zFp (sq H).1 rfl (q _ (sq H).2.2)
 | false =>
  walk_at "rd"
  refine zI4 kd ?_
  walk_at "rd"
  exact zFp (sq H).1 rfl (q _ (sq H).2.1)
include Z in
theorem zDl:Has P w K mg base "signed" 2 ["body", "style", "below"] (Vn K):=by
 refine xz Z.kn Z.a6 (l3N (by intros;rfl)) fun fq fd F=>?_
 refine F.ok VY (fun vs H Q E=>?_) (fun _ _ _ s H vs Q E hr h=>?_)
 ·walk_at "ln"
 obtain ⟨l,x,b,rfl,hx,hl,q⟩:=h
 refine ⟨_,zD (zI (i:=3) VY.nd rfl (Or.inl rfl) (zH (zCg Z) hr rfl (zA (pv 1) (zA (pv 2) (zC)))))
  (zF (zQ (zP jR (zP jR (za zl (pv 3) (zB) (fun _ _=>rfl)) (pv 0)) (za zl (pv 3) (zB) (fun _ _=>rfl))))),?_⟩
 walk_at "st"
 have ln:=zFS hx b
 walk_at "rd"
 exact q
include Z in
theorem Xy:Has P w K mg base "is_whole" 1 ["thing"] (Jn K):=by
 refine xz Z.kn Z.a7 (l1N (by intros;rfl)) fun fq fd F=>?_
 refine F.ok Kh (fun vs H Q E=>?_) (fun _ _ _ s H vs Q E hr h=>?_)
 ·walk_at "ln"
 obtain ⟨i,rfl,q⟩:=h
 refine ⟨_,zF (zQ (Qt (zR ZI Z.aq rfl qI (zA (pv 0) (zA (ki rfl Z.aw QN (v:=.ty "int") rfl) (zC)))) (ku (zBx (zR ZI Z.aq rfl qI (zA (pv 0) (zA (ki rfl Z.ax zBz (v:=.ty "bool") rfl) (zC)))))))),?_⟩
 walk_at "st"
 walk_at "rd"
 exact q
include Z in
theorem JN:Has P w K mg base "common_divisor" 1 ["one", "other"] (yf K):=by
 refine xz Z.kn Z.a8 (l2N (by intros;rfl)) fun fq fd F=>?_
 refine F.ok qW (fun vs H Q E=>?_) (fun _ _ _ s H vs Q E hr h=>?_)
 ·walk_at "ln"
 obtain ⟨a,b,rfl,q⟩:=h
 refine ⟨_,zD (zI (i:=2) qW.nd rfl (Or.inl rfl) (zR Z8 Z.ay rfl Kv (zA (pv 0) (zC))))
  (zD (zI (i:=3) qW.nd rfl (Or.inl rfl) (zR Z8 Z.ay rfl Kv (zA (pv 1) (zC))))
  (zD (Yg PassesOwn.never (zT kg (pv 3) (zB) (zS _)) (zD (zI (i:=4) qW.nd rfl (Or.inl rfl) (zP qE (pv 2) (pv 3)))
  (zD (zI (i:=2) qW.nd rfl (Or.inl rfl) (pv 3))
  (zF (zI (i:=3) qW.nd rfl (Or.inl rfl) (pv 4))))))
  (zF (zQ (pv 2))))),?_⟩
 walk_at "st"
 walk_at "rd"
 rename_i k1 hk1 k2 hk2
 have ha:=zG6 hk1 hk2
 refine V5 (fun m σ H'=>H'=H /\ ∃ (g l:Int) (r:Option V),σ=[some (.int a),some (.int b),some (.int g),some (.int l),r]/\0<=g/\0<=l/\Int.gcd g l=Int.gcd a b/\m=l.toNat) ⟨_,rfl,k1,k2,none,rfl,ha.1,ha.2.1,ha.2.2,rfl⟩ ?_
 rintro m σ H' ⟨rfl,g,l,r,rfl,hg,hl,hgl,rfl⟩
 walk_at "rd"
 ·rename_i hc
  have:l=0:=by omega
  subst this
  have e:g=((Int.gcd a b:Nat):Int):=by rw [<- hgl];simp;omega
  rw [e];exact q
 ·rename_i hc
  have hc':0 < l:=by omega
  have h1:=emod_nonneg g (show l≠0 by omega)
  have h2:=emod_lt_of_pos g hc'
  exact ⟨_,by omega,rfl,_,_,_,rfl,by omega,h1,by rw [zDR hg hc'];exact hgl,rfl⟩
include Z in
theorem YS:Has P w K mg base "is_fraction" 2 ["thing"] (ZV K):=by
 refine xz Z.kn Z.a9 (l1N (by intros;rfl)) fun fq fd F=>?_
 refine F.ok Xi (fun vs H Q E=>?_) (fun _ _ _ s H vs Q E hr h=>?_)
 ·walk_at "ln"
 obtain ⟨p,a,b,rfl,hp,h1,h2,q⟩:=h
 refine ⟨_,zD (z5 (PW.pt (kz (xb (qd (zR ZI Z.aq rfl qI (zA (pv 0) (zA (ki rfl Z.aA zDK (v:=.ty "tuple") rfl) (zC)))))) (j8 (zT kg (zR qh Z.ao rfl qy (zA (pv 0) (zC))) (zB) (zS _))))) (zF (zQ (Qm))) (zX))
  (zD (z5 (PW.pt (kz (xb (qd (zH (Xy Z) hr rfl (zA (za zl (pv 0) (zB) (fun _ _=>rfl)) (zC))))) (j8 (xb (qd (zH (Xy Z) hr rfl (zA (za zl (pv 0) (zB) (fun _ _=>rfl)) (zC)))))))) (zF (zQ (Qm))) (zX))
  (zF (zQ (Qt (zy zGl (za zl (pv 0) (zB) (fun _ _=>rfl)) (zB) (zS _)) (ku (zy qJ (zH (JN Z) hr rfl (zA (za zl (pv 0) (zB) (fun _ _=>rfl)) (zA (za zl (pv 0) (zB) (fun _ _=>rfl)) (zC)))) (zB) (zS _))))))),?_⟩
 walk_at "st"
 have h3:((Int.gcd a b:Nat):Int)=1:=by rw [h2];rfl
 walk_at "rd"
 rw [decide_eq_true h3]
 exact q
def zAV (L:Addr):List (Str × V):=[("names", .ref L)]
def wns:List Str:=["signs", "least", "most"]
def cns:List Str:=["names"]
variable {L:Addr}
theorem zGi {m:Str} (h1:m ≠ "names"):(zAV L).lookup m=none:=(qH h1).trans rfl
section
variable {H : Hp} {a C L : Addr} {wd : Int} {f : Nat} {x : Str} {st : Bool}
theorem zDM (F:zp K H a C wd f x st (zAV L)):jf K H a "names" (.ref L):=F.own (by decide +kernel) yc (mem_cons_self ..)
theorem zBh {m:Str} (F:zp K H a C wd f x st (zAV L)) (h0:m ∉ bns) (h1:m ≠ "names"):zD9 H a C m:=F.meth h0 (zGi h1)
end
local macro_rules | `(tactic| walk_at "fld2")=>`(tactic| (exact zDM (by walk_at "fm")))
local macro_rules | `(tactic| walk_at "ins")=>`(tactic| exact zBh (by walk_at "fm") (by decide +kernel) (by decide +kernel))
def JR (K:W.Frag):Sp:=fun vs H Q _=>∃ (C a dx:Addr) (wd:Int) (f:Nat) (x:Str) (st:Bool),vs=[.ref a,.int wd,.str (T [f]),.str x,.bl st]/\Cls K C/\qg K C bns/\H a=some (.ins C dx [])/\Q .non (upd H a (.ins C dx (bfs wd f x st [])))
include Z in
theorem xm:zKC P w K mg base CX0 Z3 "__init__" 1 ["self", "width", "fill", "side", "strict"] (JR K):=by
 refine zLy Z.ba (l5N (by intros;rfl)) fun fq fd F=>?_
 refine F.ok JO (fun vs H Q E=>?_) (fun _ _ _ s H vs Q E hr h=>?_)
 ·walk_at "ln"
 obtain ⟨C,a,dx,wd,f,x,st,rfl,cl,na,e0,q⟩:=h
 refine ⟨_,zD (jd (pv 0) (pv 1) rfl)
  (zD (jd (pv 0) (pv 2) rfl)
  (zD (jd (pv 0) (pv 3) rfl)
  (zF (jd (pv 0) (pv 4) rfl)))),?_⟩
 walk_at "st"
 walk_at "rd"
 refine jb e0 cl (na.at (by decide +kernel)) (by decide) ?_
 rw [qc]
 walk_at "rd"
 refine jb zK cl (na.at (by decide +kernel)) (by show 1 < 1000;decide) ?_
 rw [qo,zh (by decide +kernel),qc]
 walk_at "rd"
 refine jb zK cl (na.at (by decide +kernel)) (by show 2 < 1000;decide) ?_
 rw [qo,zh (by decide +kernel),zh (by decide +kernel),qc]
 walk_at "rd"
 refine jb zK cl (na.at (by decide +kernel)) (by show 3 < 1000;decide) ?_
 rw [qo,zh (by decide +kernel),zh (by decide +kernel),zh (by decide +kernel),qc]
 walk_at "rd"
 exact q
def xQ (K:W.Frag) (C:Addr):Sp:=fun vs H Q _=>∃ (a dx:Addr) (sg:List Nat) (lo hi wd:Int) (f:Nat) (x:Str) (st:Bool),vs=[.ref a,.str (T sg),.int lo,.int hi,.int wd,.str (T [f]),.str x,.bl st]/\H a=some (.ins C dx [])/\Q .non (upd H a (.ins C dx (bfs wd f x st (Jh sg lo hi))))
include Z in
theorem Zr:Gx P w K mg base CX0 "__init__" [zV] 2 ["self", "signs", "least", "most", "width", "fill", "side", "strict"] (xQ K zV):=by
 have cl:Cls K zV:=Z.bX
 have na:qg K zV (bns++wns):=Z.bY
 refine zFi Z.bb (l4N fun _ _ _ _=>l8N fun _ _ _ _ _ _ _ _ _ _ _ _ _ _ _=>⟨_,rfl,rfl⟩) fun fq fd F=>?_
 refine F.ok ZR (fun vs H Q E=>?_) (fun _ _ _ s H vs Q E hr h=>?_)
 ·walk_at "ln"
 obtain ⟨a,dx,sg,lo,hi,wd,f,x,st,rfl,e0,q⟩:=h
 refine ⟨_,zD (jE (Jb (xm Z) xA hr rfl Z.aj (zA (pv 0) (zA (pv 4) (zA (pv 5) (zA (pv 6) (zA (pv 7) (zC))))))))
  (zD (jd (pv 0) (pv 1) rfl)
  (zD (jd (pv 0) (pv 2) rfl)
  (zF (jd (pv 0) (pv 3) rfl)))),?_⟩
 walk_at "st"
 have na0:qg K zV bns:=⟨na.1,na.2.1,na.2.2.1,na.2.2.2.1,trivial⟩
 walk_at "rd"
 refine ⟨zV,a,dx,wd,f,x,st,rfl,cl,na0,e0,?_⟩
 walk_at "rd"
 refine jb zK cl (na.at (by decide +kernel)) (by show 4 < 1000;decide) ?_
 rw [qo,xI (by decide +kernel),qc]
 walk_at "rd"
 refine jb zK cl (na.at (by decide +kernel)) (by show 5 < 1000;decide) ?_
 rw [qo,xI (by decide +kernel),zh (by decide +kernel),qc]
 walk_at "rd"
 refine jb zK cl (na.at (by decide +kernel)) (by show 6 < 1000;decide) ?_
 rw [qo,xI (by decide +kernel),zh (by decide +kernel),zh (by decide +kernel),qc]
 walk_at "rd"
 exact q
def kQ (K:W.Frag) (C:Addr):Sp:=fun vs H Q _=>∃ (a dx p:Addr) (ns:List (List Nat)) (wd:Int) (f:Nat) (x:Str) (st:Bool),vs=[.ref a,.ref p,.int wd,.str (T [f]),.str x,.bl st]/\H a=some (.ins C dx [])/\H p=some (.lst (tsV ns)) /\
 ∀ L H',SB a H H'->H L=none->H' L=some (.lst (tsV ns))->H' a=some (.ins C dx (bfs wd f x st (zAV L)))->Q .non H'
include Z in
theorem ZA:Gx P w K mg base CX0 "__init__" [zU] 2 ["self", "names", "width", "fill", "side", "strict"] (kQ K zU):=by
 have cl:Cls K zU:=Z.b0
 have na:qg K zU (bns++cns):=Z.b1
 refine zFi Z.bc (l4N fun _ _ _ _=>l6N fun _ _ _ _ _ _ _ _ _ _ _ _ _=>⟨_,rfl,rfl⟩) fun fq fd F=>?_
 refine F.ok kN (fun vs H Q E=>?_) (fun _ _ _ s H vs Q E hr h=>?_)
 ·walk_at "ln"
 obtain ⟨a,dx,p,ns,wd,f,x,st,rfl,e0,hp,q⟩:=h
 refine ⟨_,zD (jE (Jb (xm Z) xA hr rfl Z.aj (zA (pv 0) (zA (pv 2) (zA (pv 3) (zA (pv 4) (zA (pv 5) (zC))))))))
  (zF (jd (pv 0) (qC KI rfl Z.az zA5 (zA (pv 1) (zC))) rfl)),?_⟩
 walk_at "st"
 have na0:qg K zU bns:=⟨na.1,na.2.1,na.2.2.1,na.2.2.2.1,trivial⟩
 walk_at "rd"
 refine ⟨zU,a,dx,wd,f,x,st,rfl,cl,na0,e0,?_⟩
 walk_at "rd"
 have nap:p≠a:=fun z=>by rw [z,e0] at hp;cases hp
 refine K6 (SqL.of (show upd H a (.ins zU dx (bfs wd f x st [])) p=some (.lst (tsV ns)) by rw [zf nap];exact hp)) fun l H1 g1 n1 e1=>?_
 have nla:l≠a:=fun z=>by rw [z,zK] at n1;cases n1
 rw [zf nla] at n1
 walk_at "rd"
 refine jb (g1.at zK) cl (na.at (by decide +kernel)) (by show 4 < 1000;decide) ?_
 rw [xI (by decide +kernel),qc]
 walk_at "rd"
 refine q l _ (fun b o hb e=>?_) n1 (by rw [zf nla];exact e1) zK
 rw [zf hb]
 exact g1.at (by rw [zf hb];exact e)
structure WdS (sg:List Nat) (lo hi wd:Int) (f:Nat) (x:Str):Prop where
 s1:1<=sg.length
 s2:sg.length<=200
 lo1:0<=lo
 lo2:lo<=hi
 hi2:hi<=24
 wd1:0<=wd
 wd2:wd<=40
 f:f < 127
 x:zC4 x
structure ChS (ns:List (List Nat)) (wd:Int) (f:Nat) (x:Str):Prop where
 n1:1<=ns.length
 n2:ns.length<=12
 len : ∀ t ∈ ns,1<=t.length/\t.length<=12
 nd:ns.Nodup
 wd1:0<=wd
 wd2:wd<=40
 f:f < 127
 x:zC4 x
def yS (K:W.Frag) (C:Addr):Sp:=fun vs H Q _=>∃ (o:Addr) (sg:List Nat) (lo hi wd:Int) (f:Nat) (x:Str) (st:Bool),vs=[.ref o]/\zp K H o C wd f x st (Jh sg lo hi)/\WdS sg lo hi wd f x /\ ∀ t:List Nat,(t.length:Int)=lo->Q (.str (T t)) H
def xX (K:W.Frag) (C:Addr):Sp:=fun vs H Q _=>∃ (o L:Addr) (ns:List (List Nat)) (wd:Int) (f:Nat) (x:Str) (st:Bool),vs=[.ref o]/\zp K H o C wd f x st (zAV L)/\SqL K H L (tsV ns)/\ChS ns wd f x /\ ∀ t:List Nat,t ∈ ns->(∀ u ∈ ns,t.length<=u.length)->Q (.str (T t)) H
include Z in
theorem yg:Gx P w K mg base CX0 "shortest_core" [zV] 1 ["self"] (yS K zV):=by
 refine VP Z.be (l1N (by intros;rfl)) fun fq fd F=>?_
 refine F.ok yR (fun vs H Q E=>?_) (fun _ _ _ s H vs Q E hr h=>?_)
 ·walk_at "ln"
 obtain ⟨o,sg,lo,hi,wd,f,x,st,rfl,F0,ok,q⟩:=h
 refine ⟨_,zF (zQ (zP zBI (za kG (qa (pv 0) rfl) (zB) (fun _ _=>rfl)) (qa (pv 0) rfl))),?_⟩
 walk_at "st"
 have o1:=ok.s1;have o2:=ok.s2;have o3:=ok.lo1;have o4:=ok.lo2;have o5:=ok.hi2
 walk_at "rd"
 exact q _ (by rw [List.length_replicate];omega)
include Z in
theorem xw:Gx P w K mg base CX0 "shortest_core" [zU] 1 ["self"] (xX K zU):=by
 refine VP Z.bf (l1N (by intros;rfl)) fun fq fd F=>?_
 refine F.ok xk (fun vs H Q E=>?_) (fun _ _ _ s H vs Q E hr h=>?_)
 ·walk_at "ln"
 obtain ⟨o,L,ns,wd,f,x,st,rfl,F0,hL,ok,q⟩:=h
 refine ⟨_,zF (zQ (zCa rfl rfl Z.av rfl Z.ao (zA (qa (pv 0) rfl) (zC)))),?_⟩
 walk_at "st"
 walk_at "rd"
 exact ⟨_,rfl,L,ns,rfl,hL,(by have:=ok.n1;intro h;rw [h] at this;simp at this),fun t ht=>by have:=(ok.len t ht).2;omega,fun t ht hm=>q t ht hm⟩
def xj (K:W.Frag):Sp:=fun vs H Q _=>∃ (a C:Addr) (wd:Int) (f:Nat) (x:Str) (st:Bool) (more:List (Str × V)) (t:List Nat),vs=[.ref a,.str (T t)]/\zp K H a C wd f x st more/\t.length<=400/\Q (.bl (st && decide (wd < t.length))) H
theorem Qr {a:Addr} {x:Str} {more:List (Str × V)} {t:List Nat} (h1:zp K H a C wd f x st more) (h2:t.length<=400) (q:Q (.bl (st && decide (wd < t.length))) H):xj K (.ref a::([.str (T t)]++[])) H Q E:=⟨a,C,wd,f,x,st,more,t,rfl,h1,h2,q⟩
include Z in
theorem jh:Gx P w K mg base CX0 "is_too_wide" [zJ,zV,zU] 1 ["self", "core"] (xj K):=by
 refine VP Z.bg (l2N (by intros;rfl)) fun fq fd F=>?_
 refine F.ok Zt (fun vs H Q E=>?_) (fun _ _ _ s H vs Q E hr h=>?_)
 ·walk_at "ln"
 obtain ⟨a,C,wd,f,x,st,more,t,rfl,F0,h0,q⟩:=h
 refine ⟨_,zF (zQ (Qt (qa (pv 0) rfl) (ku (zy Zp (zR jG Z.ao rfl qy (zA (pv 1) (zC))) (qa (pv 0) rfl) (zS _))))),?_⟩
 walk_at "st"
 walk_at "rd"
 ·rename_i hc;rw [hc] at q;exact q
 ·rename_i hc;rw [hc] at q;exact q
def xi (K:W.Frag) (C:Addr):Sp:=fun vs H Q _=>∃ (o:Addr) (fg pl b:Int) (sn:Str) (z:Int) (m pt:Nat) (wy:Str) (wd:Int) (f:Nat) (x:Str) (st:Bool),vs=[.ref o]/\zp K H o C wd f x st (xo fg pl b sn z m pt wy)/\zCZ fg pl b sn z m pt wy wd f x /\ ∀ H',zc H H'->Q (.str (T (XU pl b sn z m pt 0))) H'
include Z in
theorem kR:Gx P w K mg base CX0 "__init__" [zJ] 2 ["self", "figures", "places", "base", "sign", "size", "mark", "point", "way", "width", "fill", "side", "strict"] (kP K zJ):=by
 have cl:Cls K zJ:=Z.bU
 have na:qg K zJ (bns++nns):=Z.bV
 refine zFi Z.bd (zLs fun _ _ _ _ _ _ _ _ _ _=>zMK fun _ _ _ _ _ _ _ _ _ _ _ _ _ _ _ _ _ _ _ _=>⟨_,rfl,rfl⟩) fun fq fd F=>?_
 refine F.ok kO (fun vs H Q E=>?_) (fun _ _ _ s H vs Q E hr h=>?_)
 ·walk_at "ln"
 obtain ⟨a,dx,fg,pl,b,sn,z,m,pt,wy,wd,f,x,st,rfl,e0,q⟩:=h
 refine ⟨_,zD (jE (Jb (xm Z) xA hr rfl Z.aj (zA (pv 0) (zA (pv 9) (zA (pv 10) (zA (pv 11) (zA (pv 12) (zC))))))))
  (zD (jd (pv 0) (pv 1) rfl)
  (zD (jd (pv 0) (pv 2) rfl)
  (zD (jd (pv 0) (pv 3) rfl)
  (zD (jd (pv 0) (pv 4) rfl)
  (zD (jd (pv 0) (pv 5) rfl)
  (zD (jd (pv 0) (pv 6) rfl)
  (zD (jd (pv 0) (pv 7) rfl)
  (zF (jd (pv 0) (pv 8) rfl))))))))),?_⟩
 walk_at "st"
 walk_at "rd"
 refine ⟨zJ,a,dx,wd,f,x,st,rfl,cl,⟨na.1,na.2.1,na.2.2.1,na.2.2.2.1,trivial⟩,e0,?_⟩
 walk_at "rd"
 refine jb zK cl (na.at (by decide +kernel)) (by show 4 < 1000;decide) ?_
 rw [qo,xI (by decide +kernel),qc]
 walk_at "rd"
 refine jb zK cl (na.at (by decide +kernel)) (by show 5 < 1000;decide) ?_
 rw [qo,xI (by decide +kernel),zh (by decide +kernel),qc]
 walk_at "rd"
 refine jb zK cl (na.at (by decide +kernel)) (by show 6 < 1000;decide) ?_
 rw [qo,xI (by decide +kernel),zh (by decide +kernel),zh (by decide +kernel),qc]
 walk_at "rd"
 refine jb zK cl (na.at (by decide +kernel)) (by show 7 < 1000;decide) ?_
 rw [qo,xI (by decide +kernel),zh (by decide +kernel),zh (by decide +kernel),zh (by decide +kernel),qc]
 walk_at "rd"
 refine jb zK cl (na.at (by decide +kernel)) (by show 8 < 1000;decide) ?_
 rw [qo,xI (by decide +kernel),zh (by decide +kernel),zh (by decide +kernel),zh (by decide +kernel),zh (by decide +kernel),qc]
 walk_at "rd"
 refine jb zK cl (na.at (by decide +kernel)) (by show 9 < 1000;decide) ?_
 rw [qo,xI (by decide +kernel),zh (by decide +kernel),zh (by decide +kernel),zh (by decide +kernel),zh (by decide +kernel),zh (by decide +kernel),qc]
 walk_at "rd"
 refine jb zK cl (na.at (by decide +kernel)) (by show 10 < 1000;decide) ?_
 rw [qo,xI (by decide +kernel),zh (by decide +kernel),zh (by decide +kernel),zh (by decide +kernel),zh (by decide +kernel),zh (by decide +kernel),zh (by decide +kernel),qc]
 walk_at "rd"
 refine jb zK cl (na.at (by decide +kernel)) (by show 11 < 1000;decide) ?_
 rw [qo,xI (by decide +kernel),zh (by decide +kernel),zh (by decide +kernel),zh (by decide +kernel),zh (by decide +kernel),zh (by decide +kernel),zh (by decide +kernel),zh (by decide +kernel),qc]
 walk_at "rd"
 exact q
include Z in
theorem yV:Gx P w K mg base CX0 "is_too_great" [zJ] 2 ["self", "number"] (jN K zJ):=by
 refine VP Z.bh (l2N (by intros;rfl)) fun fq fd F=>?_
 refine F.ok xy (fun vs H Q E=>?_) (fun _ _ _ s H vs Q E hr h=>?_)
 ·walk_at "ln"
 obtain ⟨a,fg,pl,b,sn,z,m,pt,wy,wd,f,x,st,n,rfl,F0,ok,q⟩:=h
 refine ⟨_,zF (zQ (zy zGl (pv 1) (zH (X2 Z) hr rfl (zA (qa (pv 0) rfl) (zA (zP z9 (qa (pv 0) rfl) (qa (pv 0) rfl)) (zC)))) (zS _))),?_⟩
 walk_at "st"
 have o1:=ok.fg1;have o2:=ok.fg2;have o3:=ok.pl1;have o4:=ok.pl2;have o5:=ok.b1;have o6:=ok.b2
 walk_at "rd"
 exact q
theorem Ku {b:Int} {pt:Nat} {x:Str} (ok:zCZ fg pl b sn z m pt wy wd f x) (h:k.natAbs < b.toNat ^ (fg+pl).toNat):zHW k.natAbs b pl/\Sgd sn (decide (k < 0)) (XU pl b sn z m pt k)/\Asc (XU pl b sn z m pt k)/\(XU pl b sn z m pt k).length<=400:=by
 have o1:=ok.fg1;have o2:=ok.fg2;have o3:=ok.pl1;have o4:=ok.pl2;have o5:=ok.b1;have o6:=ok.b2
 have e1:b.toNat ^ (fg+pl).toNat<=b.toNat ^ (40+pl.toNat):=Nat.pow_le_pow_right (by omega) (by omega)
 have nb:zHW k.natAbs b pl:=⟨by omega,o5,o6,o3,o4,by omega⟩
 have bs:=zDm (z:=z.toNat) (b:=b.toNat) (p:=pl.toNat) (n:=(k.natAbs:Int).toNat) (by omega) (by omega) (by omega) nb.2.2.2.2.2 ok.pt ok.m
 have e:bod sn (decide (k < 0)) (XU pl b sn z m pt k)=bdI k.natAbs b pl pt z m:=zJM
 have sl:=zFF ok.sn (decide (k < 0)) (bdI k.natAbs b pl pt z m)
 have sa:=zIx ok.sn (decide (k < 0))
 refine ⟨nb,⟨by rw [e];exact bs.1,by rw [e];rfl⟩,(sa.1.app bs.2.1).app sa.2,?_⟩
 have:=bs.2.2
 unfold XU
 unfold bdI at sl ⊢
 omega
theorem zHn {P:Int} (hP:0 < P):zHV wy 0 1 P=0:=by
 unfold zHV
 simp
include Z in
theorem Qo:Gx P w K mg base CX0 "core" [zJ] 4 ["self", "value"] (yP K zJ):=by
 refine VP Z.bi (l2N (by intros;rfl)) fun fq fd F=>?_
 refine F.ok jt (fun vs H Q E=>?_) (fun _ _ _ s H vs Q E hr h=>?_)
 ·walk_at "ln"
 obtain ⟨o,p,fg,pl,b,sn,z,m,pt,wy,wd,f,x,st,rfl,F0,ok,hp,q⟩:=h
 refine ⟨_,zD (z5 (xb (qd (zH (YS Z) hr rfl (zA (pv 1) (zC))))) (zF (WZ)) (zX))
  (zD (zI (i:=2) jt.nd rfl (Or.inl rfl) (zH (zA9 Z) hr rfl (zA (pv 1) (zA (qa (pv 0) rfl) (zA (qa (pv 0) rfl) (zA (qa (pv 0) rfl) (zC)))))))
  (zD (z5 (qd (zj (xT (yV Z) in0) Z.bU xA hr (pv 0) (zA (zR Z8 Z.ay rfl Kv (zA (pv 2) (zC))) (zC)))) (zF (WZ)) (zX))
  (zD (zI (i:=3) jt.nd rfl (Or.inl rfl) (zH (zBp Z) hr rfl (zA (zR Z8 Z.ay rfl Kv (zA (pv 2) (zC))) (zA (qa (pv 0) rfl) (zA (qa (pv 0) rfl) (zA (qa (pv 0) rfl) (zA (qa (pv 0) rfl) (zA (qa (pv 0) rfl) (zC)))))))))
  (zF (zQ (zH (zDl Z) hr rfl (zA (pv 3) (zA (qa (pv 0) rfl) (zA (zy zB4 (pv 2) (zB) (zS _)) (zC)))))))))),?_⟩
 walk_at "st"
 have o1:=ok.fg1;have o2:=ok.fg2;have o3:=ok.pl1;have o4:=ok.pl2;have o5:=ok.b1;have o6:=ok.b2;have o7:=ok.sn;have o8:=ok.wy;have o9:=ok.z1;have o10:=ok.z2
 have gc:Int.gcd 0 1=1:=by decide
 have P0:0 < b ^ pl.toNat:=Int.pow_pos (by omega)
 have L0:0 < b ^ (fg+pl).toNat:=Int.pow_pos (by omega)
 have L1:0 < b.toNat ^ (fg+pl).toNat:=Nat.pow_pos (by omega)
 have gr:GrB 0 1:=⟨by decide +kernel,by decide +kernel,by decide,by decide +kernel⟩
 obtain ⟨nb,n2,n3,n4⟩:=Ku (k:=0) ok (by show 0 < _;exact L1)
 unfold XU at q n4
 have sl:=zFF o7 (decide ((0:Int) < 0)) (bdI (0:Int).natAbs b pl pt z m)
 have g0:zHV wy 0 1 (b ^ pl.toNat)=0:=zHn P0
 walk_at "rd"
 rename_i k1 hk1 k0 hk0
 rw [g0]
 have hk:k0=(((0:Int).natAbs:Nat):Int):=by show k0=0;omega
 subst hk
 refine VA nb o9 o10 fun H1 g1=>?_
 have F1:=F0.same g1
 walk_at "rd"
 exact q _ g1
include Z in
theorem xv:Gx P w K mg base CX0 "shortest_core" [zJ] 5 ["self"] (xi K zJ):=by
 refine VP Z.bj (l1N (by intros;rfl)) fun fq fd F=>?_
 refine F.ok xu (fun vs H Q E=>?_) (fun _ _ _ s H vs Q E hr h=>?_)
 ·walk_at "ln"
 obtain ⟨o,fg,pl,b,sn,z,m,pt,wy,wd,f,x,st,rfl,F0,ok,q⟩:=h
 refine ⟨_,zF (zQ (zj (xT (Qo Z) in0) Z.bU xA hr (pv 0) (zA (zo (zA (zB) (zA (zB) (zC)))) (zC)))),?_⟩
 walk_at "st"
 walk_at "rd"
 rename_i p1 H1 g1 e1
 refine zHq (F0.same g1) ok e1 fun H2 g2=>?_
 exact q _ (g1.trans g2)
theorem zAi {b:Int} {pt:Nat} (h2:2<=b) (hs:Qj sn):((XU pl b sn z m pt 0).length:Int)=1+(if 0 < pl then pl+1 else 0)+(if Lt sn=Lt "plus" \/ Lt sn=Lt "blank" then 1 else 0):=by
 have f0:QS b.toNat 0=[48]:=by rw [xM (by omega)];rfl
 have d0:dgs b.toNat pl.toNat 0=List.replicate pl.toNat 48++[48]:=by unfold dgs;rw [f0];rfl
 have dl:(dgs b.toNat pl.toNat 0).length=pl.toNat+1:=by rw [d0];simp
 have w0:whl b.toNat pl.toNat 0=[48]:=by
  unfold whl
  rw [dl,show pl.toNat+1 - pl.toNat=1 by omega,d0]
  cases pl.toNat with
  | zero=>rfl
  | succ n=>rw [List.replicate_succ];rfl
 have r0:(rst b.toNat pl.toNat 0).length=pl.toNat:=by unfold rst;rw [length_drop,dl];omega
 have g0:gr z.toNat m [48]=[48]:=by
  unfold gr
  rcases Nat.eq_zero_or_pos z.toNat with h | h
  ·rw [h,XF];rfl
  ·rw [kY (show ([48]:List Nat).reverse.length<=z.toNat from h)];rfl
 have bl:((bdI 0 b pl pt z m).length:Int)=1+(if 0 < pl then pl+1 else 0):=by
  unfold bdI bdy
  rw [show (0:Int).toNat=0 from rfl,w0,g0]
  by_cases h:0 < pl
  ·rw [if_neg (by omega),if_pos h,length_append,length_append,r0]
   show (((1+1+pl.toNat:Nat)):Int)=_;omega
  ·rw [if_pos (by omega),if_neg h];rfl
 have sl:(((stL sn false).length:Nat):Int)+((stT sn false).length:Nat)=(if Lt sn=Lt "plus" \/ Lt sn=Lt "blank" then 1 else 0):=by
  rcases hs with rfl | rfl | rfl | rfl | rfl <;> decide +kernel
 have e:XU pl b sn z m pt 0=stL sn false++bdI 0 b pl pt z m++stT sn false:=rfl
 rw [e,length_append,length_append,Int.natCast_add,Int.natCast_add,bl,<- sl]
 generalize (if 0 < pl then pl+1 else 0)=X
 omega
theorem V8 : ∀ {ns:List Wd} {t:Wd},t ∈ ns->(∀ u ∈ ns,t.length<=u.length)->Vz ns=t.length
 | [u],t,ht,_=>by
  rw [List.mem_singleton.mp ht];rfl
 | u::v::r,t,ht,hm=>by
  rw [Vz]
  have hu:=hm u (mem_cons_self ..)
  rcases List.mem_cons.mp ht with rfl | ht'
  ·have le : ∀ (l:List Wd),l≠[]->(∀ w ∈ l,t.length<=w.length)->(t.length:Int)<=Vz l:=by
    intro l
    induction l with
    | nil=>intro h;exact absurd rfl h
    | cons a l ih =>
     intro _ hl
     cases l with
     | nil=>have:=hl a (mem_cons_self ..);show (t.length:Int)<=(a.length:Int);omega
     | cons b l' =>
      rw [Vz]
      split
      ·have:=hl a (mem_cons_self ..);omega
      ·exact ih (by simp) fun w hw=>hl w (mem_cons_of_mem _ hw)
   rw [if_pos (le _ (by simp) fun w hw=>hm w (mem_cons_of_mem _ hw))]
  ·have ih:=V8 (ns:=v::r) ht' fun w hw=>hm w (mem_cons_of_mem _ hw)
   rw [ih]
   by_cases z:(u.length:Int)<=t.length
   ·rw [if_pos z];omega
   ·rw [if_neg z]
def PsN (K:W.Frag) (H:Hp) (o CN:Addr) (ok:Bool):Prop:=∃ (fg pl b:Int) (sn:Str) (z:Int) (m pt:Nat) (wy:Str) (wd:Int) (f:Nat) (x:Str) (st:Bool),zp K H o CN wd f x st (xo fg pl b sn z m pt wy)/\zCZ fg pl b sn z m pt wy wd f x/\ok=okB (jp pl (Lt sn)) wd st
def PsW (K:W.Frag) (H:Hp) (o CW:Addr) (ok:Bool):Prop:=∃ (sg:List Nat) (lo hi wd:Int) (f:Nat) (x:Str) (st:Bool),zp K H o CW wd f x st (Jh sg lo hi)/\WdS sg lo hi wd f x/\ok=okB lo wd st
def PsC (K:W.Frag) (H:Hp) (o CC:Addr) (ok:Bool):Prop:=∃ (L:Addr) (ns:List (List Nat)) (wd:Int) (f:Nat) (x:Str) (st:Bool),zp K H o CC wd f x st (zAV L)/\SqL K H L (tsV ns)/\ChS ns wd f x/\ok=okB (Vz ns) wd st
def PsO (K:W.Frag) (H:Hp) (o CN CW CC:Addr) (ok:Bool):Prop:=PsN K H o CN ok\/PsW K H o CW ok\/PsC K H o CC ok
def qr (K:W.Frag) (CN CW CC:Addr):Sp:=fun vs H Q _=>∃ (o:Addr) (ok:Bool),vs=[.ref o]/\PsO K H o CN CW CC ok /\ ∀ H',zc H H'->Q (.bl ok) H'
include Z in
theorem xH:Gx P w K mg base CX0 "puts_some" [zJ,zV,zU] 6 ["self"] (qr K zJ zV zU):=by
 refine VP Z.bk (l1N (by intros;rfl)) fun fq fd F=>?_
 refine F.ok QT (fun vs H Q E=>?_) (fun _ _ _ s H vs Q E hr h=>?_)
 ·walk_at "ln"
 obtain ⟨o,ok',rfl,hp,q⟩:=h
 refine ⟨_,zF (zQ (zBx (K8 (zj (xT (jh Z) in0) Z.bU xA hr (pv 0) (zA (qQ (xT (xv Z) in0) Z.bU xA hr (pv 0)) (zC))) (K8 (zj (xT (jh Z) in1) Z.bX xA hr (pv 0) (zA (qQ (xT (yg Z) in0) Z.bX xA hr (pv 0)) (zC))) (zj (xT (jh Z) in2) Z.b0 xA hr (pv 0) (zA (qQ (xT (xw Z) in0) Z.b0 xA hr (pv 0)) (zC))))))),?_⟩
 walk_at "st"
 rcases hp with ⟨fg,pl,b,sn,z,m,pt,wy,wd,f,x,st,F0,ok,rfl⟩ | ⟨sg,lo,hi,wd,f,x,st,F0,ok,rfl⟩ | ⟨L,ns,wd,f,x,st,F0,hL,ok,rfl⟩
 ·obtain ⟨nb,n2,n3,n4⟩:=Ku (k:=0) ok (by show 0 < b.toNat ^ (fg+pl).toNat;exact Nat.pow_pos (by have:=ok.b1;omega))
  have cl:=zAi (pl:=pl) (z:=z) (m:=m) (pt:=pt) ok.b1 ok.sn
  walk_at "rd"
  refine zDE ?_
  walk_at "rd"
  refine ⟨o,fg,pl,b,sn,z,m,pt,wy,wd,f,x,st,rfl,F0,ok,fun H1 g1=>?_⟩
  have F1:=F0.same g1
  walk_at "rd"
  refine Qr F1 n4 ⟨_,rfl,?_⟩
  rw [cl]
  exact q _ g1
 ·have o1:=ok.lo2;have o2:=ok.hi2
  walk_at "rd"
  refine zAb (zDE ?_)
  walk_at "rd"
  refine ⟨o,sg,lo,hi,wd,f,x,st,rfl,F0,ok,fun t ht=>?_⟩
  walk_at "rd"
  refine Qr F0 (by omega) ⟨_,rfl,?_⟩
  rw [ht]
  exact q _ (zc.refl _)
 ·walk_at "rd"
  refine zAb (zAb ?_)
  walk_at "rd"
  refine ⟨o,L,ns,wd,f,x,st,rfl,F0,hL,ok,fun t ht hm=>?_⟩
  walk_at "rd"
  refine Qr F0 (by have:=(ok.len t ht).2;omega) ⟨_,rfl,?_⟩
  have q':=q _ (zc.refl _)
  rw [V8 ht hm] at q'
  exact q'
theorem Xk {a:Addr} {k:Wd} {r:List Wd} {y m:Au} (h:Wr K C H a r n) (hR:Au.run r (.opt k y m) n=R) (q1 : ∀ H' r',SBW a H H'->Wr K C H' a r' (n+1)->Au.run r' y ((n+1:Nat):Int)=R->Q (.bl true) H') (q2:Au.run r m n=R->Q (.bl false) H):xq K C cX (.ref a::([.str (T k)]++[])) H Q E:=
 ⟨a,k,r,n,rfl,h,fun r' e H' s w=>q1 H' r' s w (by rw [<- hR,e,zGO];rfl),fun e=>q2 (by rw [<- hR,zIz e])⟩
theorem Qv {a:Addr} {g:Int->Au} {r:List Wd} (h:Wr K C H a r n) (hR:Au.run r (num lo hi g) n=R) (er:Er cX a H E R) (q : ∀ k H' r',lo<=k->k<=hi->SBW a H H'->Wr K C H' a r' (n+1)->Au.run r' (g k) ((n+1:Nat):Int)=R->Q (.int k) H'):xO K C cX (.ref a::([.int lo,.int hi]++[])) H Q E:=
 ⟨a,lo,hi,g,rfl,r,n,R,h,hR,er,fun t r' H' _ _ s w e k ek k0 k1=>q k H' r' k0 k1 s w (by have e':Au.run r' (g ((tn t).getD 0)) ((n+1:Nat):Int)=R:=e;rw [ek] at e';exact e')⟩
theorem zJL {w:Wd} (k:WkW w) (h:(decide (w=jT) || decide (w.length=1))=true):sgV w < 127:=by
 unfold sgV
 split
 ·decide
 ·rename_i hb
  rw [decide_eq_false hb,Bool.false_or] at h
  obtain ⟨c,rfl⟩:=List.length_eq_one_iff.mp (of_decide_eq_true h)
  exact k.1 c (mem_cons_self ..)
theorem KB {a:Addr} {g:Nat->Au} {r:List Wd} (h:Wr K C H a r n) (hR:Au.run r (sgn g) n=R) (er:Er cX a H E R) (q : ∀ c H' r',c < 127->SBW a H H'->Wr K C H' a r' (n+1)->Au.run r' (g c) ((n+1:Nat):Int)=R->Q (.str (T [c])) H'):yN K C cX (.ref a::([]++[])) H Q E:=
 ⟨a,g,rfl,r,n,R,h,hR,er,fun t r' H' hc k s w e=>q _ H' r' (zJL k hc) s w e⟩
theorem K2 {a p:Addr} {ts:List Wd} {g:Wd->Au} {r:List Wd} (h:Wr K C H a r n) (hp:SqL K H p (tsV ts)\/SqT K H p (tsV ts)) (hR:Au.run r (Xp ts g) n=R) (er:Er cX a H E R) (q : ∀ t H' r',t ∈ ts->SBW a H H'->Wr K C H' a r' (n+1)->Au.run r' (g t) ((n+1:Nat):Int)=R->Q (.str (T t)) H'):xN K C cX (.ref a::([.ref p]++[])) H Q E:=
 ⟨a,p,ts,g,rfl,hp,r,n,R,h,hR,er,fun t r' H' _ _ s w e ht=>q t H' r' ht s w e⟩
theorem zJW {a:Addr} {g:Wd->Au} {r:List Wd} (h:Wr K C H a r n) (hR:Au.run r (zKS g) n=R) (er:Er cX a H E R) (q : ∀ t sg H' r',WkW t->tsg t=some sg->SBW a H H'->Wr K C H' a r' (n+1)->Au.run r' (g sg) ((n+1:Nat):Int)=R->Q (.str (T sg)) H'):xZ K C cX (.ref a::([]++[])) H Q E:=
 ⟨a,g,rfl,r,n,R,h,hR,er,fun t r' H' _ k s w e sg es=>q t sg H' r' k es s w (by have e':Au.run r' (g ((tsg t).getD [])) ((n+1:Nat):Int)=R:=e;rw [es] at e';exact e')⟩
theorem zG2 {a:Addr} {ns:List Wd} {g:Wd->Au} {r:List Wd} (h:Wr K C H a r n) (hL:SqL K H L (tsV ns)) (hR:Au.run r (.need (Kj ns) g) n=R) (er:Er cX a H E R) (q : ∀ t H' r',1<=t.length->t.length<=12->t ∉ ns->SBW a H H'->Wr K C H' a r' (n+1)->Au.run r' (g t) ((n+1:Nat):Int)=R->Q (.str (T t)) H'):yF K C cX (.ref a::([.ref L]++[])) H Q E:=
 ⟨a,L,ns,g,rfl,hL,r,n,R,h,hR,er,fun t r' H' _ _ s w e h1 h2 h3=>q t H' r' h1 h2 h3 s w e⟩
variable {xs:List V}
theorem VV {a p:Addr} {r:List Wd} (s:SBW a H H') (w:Wr K C H a r n) (h:SqT K H p xs):SqT K H' p xs:=by
 obtain ⟨d,L,ws,e1,_⟩:=w
 rcases h with (h | ⟨o,h⟩) | h
 ·exact .inl (.inl (s.oth p _ (fun z=>by subst z;rw [e1] at h;cases h) h))
 ·exact .inl (.inr ⟨o,s.oth p _ (fun z=>by subst z;rw [e1] at h;cases h) h⟩)
 ·exact .inr h
structure At (K:W.Frag) (C cX a:Addr) (H:Hp) (E:XK) (n0:Nat) (p:Au) (R:Int) (H':Hp):Prop where
 sb:SBW a H H'
 er:Er cX a H' E R
 st : ∃ r n,n0<=n/\Wr K C H' a r n/\Au.run r p n=R
def Qu (K:W.Frag) (C cX:Addr):Sp:=fun vs H Q E=>∃ (a p:Addr) (ss:List Wd) (d:Str) (g:Int->Bool->Bool) (R:Int) (n0:Nat),vs=[.ref a,.ref p,.str d]/\SqT K H p (tsV ss)/\At K C cX a H E n0 (Xm ss (Lt d) g) R H /\ ∀ pt wd f x st H',0<=wd->wd<=40->f < 127->(x=d\/Lt x ∈ ss)->At K C cX a H E n0 (.done (g wd st)) R H'->H' pt=some (.tup [.int wd,.str (T [f]),.str x,.bl st])->Q (.ref pt) H'
include Z in
theorem Zi:Ys P w K mg base "read_last" 5 ["words", "sides", "side"] (Qu K zL zO):=by
 refine xz Z.kn Z.bl (l3N (by intros;rfl)) fun fq fd F=>?_
 refine F.d.okX4 yE (fun vs H Q E=>?_) (fun _ _ _ s H vs Q E hr h td pp=>?_)
 ·walk_at "ln"
 refine ⟨_,zD (zI (i:=3) yE.nd rfl (Or.inl rfl) (xV (qd (zj (xT (zm Z) in0) Z.b3 pp hr (pv 0) (zA (zE (l:=[119,105,100,116,104]) (by decide +kernel)) (zC)))) (zj (xT (zv Z) in0) Z.b3 pp hr (pv 0) (zA (zB) (zA (zB) (zC)))) (zB)))
  (zD (zI (i:=4) yE.nd rfl (Or.inl rfl) (xV (qd (zj (xT (zm Z) in0) Z.b3 pp hr (pv 0) (zA (zE (l:=[102,105,108,108]) (by decide +kernel)) (zC)))) (qQ (xT (j4 Z) in0) Z.b3 pp hr (pv 0)) (zE (l:=[32]) (by decide +kernel))))
  (zD (z5 (qd (zj (xT (zm Z) in0) Z.b3 pp hr (pv 0) (zA (zE (l:=[115,105,100,101]) (by decide +kernel)) (zC)))) (zF (zI (i:=2) yE.nd rfl (Or.inl rfl) (zj (xT (qs Z) in0) Z.b3 pp hr (pv 0) (zA (pv 1) (zC))))) (zX))
  (zF (zQ (zo (zA (pv 3) (zA (pv 4) (zA (pv 2) (zA (zj (xT (zm Z) in0) Z.b3 pp hr (pv 0) (zA (zE (l:=[115,116,114,105,99,116]) (by decide +kernel)) (zC))) (zC)))))))))),?_⟩
 obtain ⟨a,p,ss,d,g,R,n0,rfl,hp,A0,q⟩:=h
 all_goals walk_at "st"
 refine z7 (fun σ' H'=>∃ wd,σ'=[some (.ref a),some (.ref p),some (.str d),some (.int wd),none]/\0<=wd/\wd<=40/\SqT K H' p (tsV ss)/\At K zL zO a H E n0 (zAu ss (Lt d) (g wd)) R H') (fun σ1 H1 h=>?_) (fun R' hR'=>?_)
 ·obtain ⟨wd,rfl,w0,w1,hp1,A1⟩:=h
  clear A0
  refine z7 (fun σ' H'=>∃ f:Nat,σ'=[some (.ref a),some (.ref p),some (.str d),some (.int wd),some (.str (T [f]))]/\f < 127/\SqT K H' p (tsV ss)/\At K zL zO a H E n0 (zBt ss (Lt d) (g wd)) R H') (fun σ2 H2 h=>?_) (fun R' hR'=>?_)
  ·obtain ⟨f,rfl,hf,hp2,A2⟩:=h
   clear A1 hp1
   refine z7 (fun σ' H'=>∃ x:Str,σ'=[some (.ref a),some (.ref p),some (.str x),some (.int wd),some (.str (T [f]))]/\(x=d\/Lt x ∈ ss)/\At K zL zO a H E n0 (zJ2 (g wd)) R H') (fun σ3 H3 h=>?_) (fun R' hR'=>?_)
   ·obtain ⟨x,rfl,hx,s3,er3,r3,n3,hn3,W3,e3⟩:=h
    clear A2 hp2
    walk_at "rd"
    refine Xk W3 e3 (fun H4 r4 s4 W4 e4=>?_) (fun e4=>?_)
    ·walk_at "rd"
     rename_i p5 H5 g5 e5
     exact q _ _ _ _ _ _ w0 w1 hf hx ⟨(s3.trans s4).then g5,er3.mono (s4.then g5).oth,_,_,by omega,W4.same g5,e4⟩ e5
    ·walk_at "rd"
     rename_i p5 H5 g5 e5
     exact q _ _ _ _ _ _ w0 w1 hf hx ⟨s3.then g5,er3.mono (SB.of g5),_,_,hn3,W3.same g5,e4⟩ e5
   ·obtain ⟨s2,er2,r2,n2,hn2,W2,e2⟩:=A2
    walk_at "rd"
    refine Xk W2 e2 (fun H4 r4 s4 W4 e4=>?_) (fun e4=>?_)
    ·walk_at "rd"
     refine K2 W4 (.inr (VV s4 W2 hp2)) e4 (er2.mono s4.oth) fun t H5 r5 ht s5 W5 e5=>?_
     walk_at "rd"
     exact hR' _ _ ⟨T t,rfl,.inr (by rw [Xr];exact ht),s2.trans (s4.trans s5),er2.mono (s4.trans s5).oth,_,_,by omega,W5,e5⟩
    ·walk_at "rd"
     exact hR' _ _ ⟨d,rfl,.inl rfl,s2,er2,_,_,hn2,W2,e4⟩
  ·obtain ⟨s1,er1,r1,n1,hn1,W1,e1⟩:=A1
   walk_at "rd"
   refine Xk W1 e1 (fun H2 r2 s2 W2 e2=>?_) (fun e2=>?_)
   ·walk_at "rd"
    refine KB W2 e2 (er1.mono s2.oth) fun c H3 r3 hc s3 W3 e3=>?_
    walk_at "rd"
    exact hR' _ _ ⟨c,rfl,hc,VV s3 W2 (VV s2 W1 hp1),s1.trans (s2.trans s3),er1.mono (s2.trans s3).oth,_,_,by omega,W3,e3⟩
   ·walk_at "rd"
    exact hR' _ _ ⟨32,rfl,by decide,hp1,s1,er1,_,_,hn1,W1,e2⟩
 ·obtain ⟨s0,er0,r0,n',hn',W,e0⟩:=A0
  walk_at "rd"
  refine Xk W e0 (fun H1 r1 s1 W1 e1=>?_) (fun e1=>?_)
  ·walk_at "rd"
   refine Qv W1 e1 (er0.mono s1.oth) fun k H2 r2 k0 k1 s2 W2 e2=>?_
   walk_at "rd"
   exact hR' _ _ ⟨k,rfl,by omega,k1,VV s2 W1 (VV s1 W hp),s0.trans (s1.trans s2),er0.mono (s1.trans s2).oth,_,_,by omega,W2,e2⟩
  ·walk_at "rd"
   exact hR' _ _ ⟨0,rfl,by decide,by decide,hp,s0,er0,_,_,hn',W,e1⟩
def Xq (K:W.Frag) (C cX:Addr):Sp:=fun vs H Q E=>∃ (a:Addr) (y:Au) (R:Int) (n0:Nat),vs=[.ref a]/\At K C cX a H E n0 (.opt qt (num 1 9 fun _=>sgn fun _=>y) y) R H /\ ∀ p z m H',0<=z->z<=9->m < 127->At K C cX a H E n0 y R H'->H' p=some (.tup [.int z,.str (T [m])])->Q (.ref p) H'
include Z in
theorem Yy:Ys P w K mg base "read_groups" 5 ["words"] (Xq K zL zO):=by
 refine xz Z.kn Z.bm (l1N (by intros;rfl)) fun fq fd F=>?_
 refine F.d.okX4 Zb (fun vs H Q E=>?_) (fun _ _ _ s H vs Q E hr h td pp=>?_)
 ·walk_at "ln"
 refine ⟨_,zD (z5 (xb (qd (zj (xT (zm Z) in0) Z.b3 pp hr (pv 0) (zA (zE (l:=[103,114,111,117,112,115]) (by decide +kernel)) (zC))))) (zF (zQ (zo (zA (zB) (zA (zE (l:=[44]) (by decide +kernel)) (zC)))))) (zX))
  (zD (zI (i:=1) Zb.nd rfl (Or.inl rfl) (zj (xT (zv Z) in0) Z.b3 pp hr (pv 0) (zA (zB) (zA (zB) (zC)))))
  (zF (zQ (zo (zA (pv 1) (zA (qQ (xT (j4 Z) in0) Z.b3 pp hr (pv 0)) (zC))))))),?_⟩
 obtain ⟨a,y,R,n0,rfl,⟨s0,er0,r0,n',hn',W,e0⟩,q⟩:=h
 all_goals walk_at "st"
 walk_at "rd"
 refine Xk W e0 (fun H1 r1 s1 W1 e1=>?_) (fun e1=>?_)
 ·walk_at "rd"
  refine Qv W1 e1 (er0.mono s1.oth) fun z H2 r2 z0 z1 s2 W2 e2=>?_
  walk_at "rd"
  refine KB W2 e2 (er0.mono (s1.trans s2).oth) fun m H3 r3 hm s3 W3 e3=>?_
  walk_at "rd"
  rename_i p4 H4 g4 e4
  have s14:=(s1.trans (s2.trans s3)).then g4
  exact q _ _ _ _ (by omega) z1 hm ⟨s0.trans s14,er0.mono s14.oth,_,_,by omega,W3.same g4,e3⟩ e4
 ·walk_at "rd"
  rename_i p4 H4 g4 e4
  exact q _ _ _ _ (by decide) (by decide) (by decide) ⟨s0.then g4,er0.mono (SB.of g4),_,_,hn',W.same g4,e1⟩ e4
theorem zJo {t:Wd} (h:t ∈ zDf):Qj (T t):=by
 unfold zDf at h
 simp only [mem_cons,not_mem_nil,or_false] at h
 rcases h with rfl | rfl | rfl | rfl | rfl <;> rw [ZY]
 ·exact .inl rfl
 ·exact .inr (.inl rfl)
 ·exact .inr (.inr (.inl rfl))
 ·exact .inr (.inr (.inr (.inl rfl)))
 ·exact .inr (.inr (.inr (.inr rfl)))
theorem zIR {t:Wd} (h:t ∈ zCN):Way (T t):=by
 unfold zCN at h
 simp only [mem_cons,not_mem_nil,or_false] at h
 rcases h with rfl | rfl | rfl | rfl | rfl <;> rw [ZY]
 ·exact .inl rfl
 ·exact .inr (.inl rfl)
 ·exact .inr (.inr (.inl rfl))
 ·exact .inr (.inr (.inr (.inl rfl)))
 ·exact .inr (.inr (.inr (.inr rfl)))
theorem zEl {x:Str} (h:Lt x ∈ YT):zC4 x:=by
 unfold YT at h
 simp only [mem_cons,not_mem_nil,or_false] at h
 have e : ∀ z:Str,Lt x=Lt z->x=z:=fun z q=>by rw [<- ZY x,q,ZY]
 rcases h with h | h | h
 ·exact .inl (e _ h)
 ·exact .inr (.inl (e _ h))
 ·exact .inr (.inr (e _ h))
theorem zF0 {x:Str} (h:Lt x ∈ zC3):zAO x:=by
 unfold zC3 at h
 simp only [mem_cons,not_mem_nil,or_false] at h
 have e : ∀ z:Str,Lt x=Lt z->x=z:=fun z q=>by rw [<- ZY x,q,ZY]
 rcases h with h | h | h | h
 ·exact .inl (.inl (e _ h))
 ·exact .inl (.inr (.inl (e _ h)))
 ·exact .inl (.inr (.inr (e _ h)))
 ·exact .inr (e _ h)
theorem zHR (l:List Str):l.map V.str=tsV (l.map Lt):=by
 unfold tsV;rw [map_map];exact List.map_congr_left fun z _=>by show V.str z=V.str (T (Lt z));rw [ZY]
theorem At.same {K:PySem.W.Frag} {a:Addr} {H2:Hp} (A:At K C cX a H E n0 p R H1) (g:zc H1 H2):At K C cX a H E n0 p R H2:=by
 obtain ⟨s,er,r,n,hn,W,e⟩:=A
 exact ⟨s.then g,er.mono (SB.of g),r,n,hn,W.same g,e⟩
theorem At.go {K:PySem.W.Frag} {a:Addr} {H2:Hp} {r:List Wd} (s:SBW a H H1) (er:Er cX a H1 E R) (s2:SBW a H1 H2) (hn:n0<=n) (W:Wr K C H2 a r n) (e:Au.run r p n=R):At K C cX a H E n0 p R H2:=⟨s.trans s2,er.mono s2.oth,r,n,hn,W,e⟩
def Zm (K:W.Frag) (C cX CN:Addr):Sp:=fun vs H Q E=>∃ (a:Addr) (R:Int) (n0:Nat),vs=[.ref a]/\At K C cX a H E n0 zHX R H /\ ∀ o ok H',At K C cX a H E n0 (.done ok) R H'->PsN K H' o CN ok->Q (.ref o) H'
include Z in
theorem QQ:Ys P w K mg base "read_number_form" 6 ["words"] (Zm K zL zO zJ):=by
 have cl:Cls K zJ:=Z.bU
 have na:qg K zJ (bns++nns):=Z.bV
 have stk:KDs w K jY ["minus", "plus", "blank", "brackets", "behind"]:=Z.b6
 have hW:SqM K Q4 (tsV zCN):=Z.hW
 have hS:SqM K jO (tsV YT):=Z.hS
 refine xz Z.kn Z.bn (l1N (by intros;rfl)) fun fq fd F=>?_
 refine F.d.okX4 zn (fun vs H Q E=>?_) (fun _ _ _ s H vs Q E hr h td pp=>?_)
 ·walk_at "ln"
 refine ⟨_,zD (zI (i:=1) zn.nd rfl (Or.inl rfl) (zj (xT (zv Z) in0) Z.b3 pp hr (pv 0) (zA (zB) (zA (zB) (zC)))))
  (zD (zI (i:=2) zn.nd rfl (Or.inl rfl) (zj (xT (zv Z) in0) Z.b3 pp hr (pv 0) (zA (zB) (zA (zB) (zC)))))
  (zD (zI (i:=3) zn.nd rfl (Or.inl rfl) (xV (qd (zj (xT (zm Z) in0) Z.b3 pp hr (pv 0) (zA (zE (l:=[98,97,115,101]) (by decide +kernel)) (zC)))) (zj (xT (zv Z) in0) Z.b3 pp hr (pv 0) (zA (zB) (zA (zB) (zC)))) (zB)))
  (zD (zI (i:=4) zn.nd rfl (Or.inl rfl) (xV (qd (zj (xT (zm Z) in0) Z.b3 pp hr (pv 0) (zA (zE (l:=[115,105,103,110]) (by decide +kernel)) (zC)))) (zj (xT (qs Z) in0) Z.b3 pp hr (pv 0) (zA (qC (Kl rfl) rfl Z.az zA5 (zA (qq rfl Z.aG (v:=.ref jY) rfl) (zC))) (zC))) (zZ)))
  (zD (zI (i:=5) zn.nd rfl (Or.inl rfl) (xE (Yy Z) pp hr rfl (zA (pv 0) (zC))))
  (zD (zI (i:=6) zn.nd rfl (Or.inl rfl) (xV (qd (zj (xT (zm Z) in0) Z.b3 pp hr (pv 0) (zA (zE (l:=[112,111,105,110,116]) (by decide +kernel)) (zC)))) (qQ (xT (j4 Z) in0) Z.b3 pp hr (pv 0)) (zE (l:=[46]) (by decide +kernel))))
  (zD (zI (i:=7) zn.nd rfl (Or.inl rfl) (xV (qd (zj (xT (zm Z) in0) Z.b3 pp hr (pv 0) (zA (zE (l:=[119,97,121]) (by decide +kernel)) (zC)))) (zj (xT (qs Z) in0) Z.b3 pp hr (pv 0) (zA (qq rfl Z.aH (v:=.ref Q4) rfl) (zC))) (zZ)))
  (zD (zI (i:=8) zn.nd rfl (Or.inl rfl) (xE (Zi Z) pp hr rfl (zA (pv 0) (zA (zP KT (qq rfl Z.aI (v:=.ref jO) rfl) (zo (zA (zZ) (zC)))) (zA (zZ) (zC))))))
  (zF (zQ (JY (zJ9 (kR Z) Z.bW) xA hr rfl Z.ak (zA (pv 1) (zA (pv 2) (zA (pv 3) (zA (pv 4) (zA (za zl (pv 5) (zB) (fun _ _=>rfl)) (zA (za zl (pv 5) (zB) (fun _ _=>rfl)) (zA (pv 6) (zA (pv 7) (zA (za zl (pv 8) (zB) (fun _ _=>rfl)) (zA (za zl (pv 8) (zB) (fun _ _=>rfl)) (zA (za zl (pv 8) (zB) (fun _ _=>rfl)) (zA (za zl (pv 8) (zB) (fun _ _=>rfl)) (zC) qB) qB) qB) qB) qS) qS) qB) qB) qS) qS) qS) qS))))))))))),?_⟩
 obtain ⟨a,R,n0,rfl,A0,q⟩:=h
 all_goals walk_at "st"
 refine z7 (fun σ' H'=>∃ fg,σ'=[some (.ref a),some (.int fg),none,none,none,none,none,none,none]/\(1<=fg/\fg<=12)/\At K zL zO a H E n0 (num 0 6 fun pl=>zAJ pl) R H') (fun σ1 H1 h=>?_) (fun R' hR'=>?_)
 ·obtain ⟨fg,rfl,⟨f1,f2⟩,s1,er1,r1,n1,hn1,W1,e1⟩:=h
  clear A0
  refine z7 (fun σ' H'=>∃ pl,σ'=[some (.ref a),some (.int fg),some (.int pl),none,none,none,none,none,none]/\(0<=pl/\pl<=6)/\At K zL zO a H E n0 (zAJ pl) R H') (fun σ2 H2 h=>?_) (fun R' hR'=>?_)
  ·obtain ⟨pl,rfl,⟨p1,p2⟩,s2,er2,r2,n2,hn2,W2,e2⟩:=h
   clear s1 er1 r1 n1 hn1 W1 e1
   refine z7 (fun σ' H'=>∃ b,σ'=[some (.ref a),some (.int fg),some (.int pl),some (.int b),none,none,none,none,none]/\(2<=b/\b<=16)/\At K zL zO a H E n0 (zCk pl) R H') (fun σ3 H3 h=>?_) (fun R' hR'=>?_)
   ·obtain ⟨b,rfl,⟨b1,b2⟩,s3,er3,r3,n3,hn3,W3,e3⟩:=h
    clear s2 er2 r2 n2 hn2 W2 e2
    refine z7 (fun σ' H'=>∃ sn:Str,σ'=[some (.ref a),some (.int fg),some (.int pl),some (.int b),some (.str sn),none,none,none,none]/\Qj sn/\At K zL zO a H E n0 (XQ pl (Lt sn)) R H') (fun σ4 H4 h=>?_) (fun R' hR'=>?_)
    ·obtain ⟨sn,rfl,hsn,A4⟩:=h
     clear s3 er3 r3 n3 hn3 W3 e3
     refine z7 (fun σ' H'=>∃ g z m,σ'=[some (.ref a),some (.int fg),some (.int pl),some (.int b),some (.str sn),some (.ref g),none,none,none]/\(0<=z/\z<=9/\m < 127)/\H' g=some (.tup [.int z,.str (T [m])])/\At K zL zO a H E n0 (X9 pl (Lt sn)) R H') (fun σ5 H5 h=>?_) (fun R' hR'=>?_)
     ·obtain ⟨g,z,m,rfl,⟨z1,z2,hm⟩,e5,s5,er5,r5,n5,hn5,W5,x5⟩:=h
      clear A4
      refine z7 (fun σ' H'=>∃ pt:Nat,σ'=[some (.ref a),some (.int fg),some (.int pl),some (.int b),some (.str sn),some (.ref g),some (.str (T [pt])),none,none]/\pt < 127/\H' g=some (.tup [.int z,.str (T [m])])/\At K zL zO a H E n0 (zJ8 pl (Lt sn)) R H') (fun σ6 H6 h=>?_) (fun R' hR'=>?_)
      ·obtain ⟨pt,rfl,hpt,e6,s6,er6,r6,n6,hn6,W6,x6⟩:=h
       clear e5 s5 er5 r5 n5 hn5 W5 x5
       refine z7 (fun σ' H'=>∃ wy:Str,σ'=[some (.ref a),some (.int fg),some (.int pl),some (.int b),some (.str sn),some (.ref g),some (.str (T [pt])),some (.str wy),none]/\Way wy/\H' g=some (.tup [.int z,.str (T [m])])/\At K zL zO a H E n0 (Xm zC3 (Lt "right") (okB (jp pl (Lt sn)))) R H') (fun σ7 H7 h=>?_) (fun R' hR'=>?_)
       ·obtain ⟨wy,rfl,hwy,e7,A7⟩:=h
        clear e6 s6 er6 r6 n6 hn6 W6 x6
        walk_at "rd"
        rename_i p8 H8 g8 e8
        refine ⟨jO,p8,_,_,rfl,rfl,hS _,SqT.of e8,(by intro h;cases h),qz (by show 3+1<=1000;decide),(fun h=>by cases h),fun _ p9 n9=>?_⟩
        have g9:zc H8 (upd H8 p9 (.tup (tsV YT++[.str "inside"]))):=qO (zc.refl _) n9
        have e9:(upd H8 p9 (.tup (tsV YT++[.str "inside"]))) p9=some (.tup (tsV zC3)):=by
         rw [zK]
         show some (HO.tup [.str (T (Lt "left")),.str (T (Lt "right")),.str (T (Lt "middle")),.str "inside"])=some (HO.tup [.str (T (Lt "left")),.str (T (Lt "right")),.str (T (Lt "middle")),.str (T (Lt "inside"))])
         rw [ZY "inside"]
        generalize upd H8 p9 (.tup (tsV YT++[.str "inside"]))=H9 at *
        have g79:=g8.trans g9
        have A9:=A7.same g79
        walk_at "rd"
        refine ⟨a,p9,zC3, "right", okB (jp pl (Lt sn)),R,n0,rfl,SqT.of e9,⟨SBW.refl,A9.er,A9.st⟩,fun pq wd f x st H10 w0 w1 hf hx A10 e10=>?_⟩
        obtain ⟨r9,n9',hn9,W9,x9⟩:=A9.st
        have e7':=A10.sb.tup W9 (g79.at e7)
        have hx':zAO x:=by
         rcases hx with rfl | hx
         ·exact .inl (.inr (.inl rfl))
         ·exact zF0 hx
        have ok:zCZ fg pl b sn z m pt wy wd f x:=⟨f1,f2,p1,p2,b1,b2,hsn,z1,z2,hm,hpt,hwy,w0,w1,hf,hx'⟩
        walk_at "rd"
        intro o dx no nd ne
        refine ⟨o,dx,fg,pl,b,sn,z,m,pt,wy,wd,f,x,st,rfl,zK,?_⟩
        have F0:zp K (upd (upd (upd H10 dx (.own o)) o (.ins zJ dx [])) o (.ins zJ dx (bfs wd f x st (xo fg pl b sn z m pt wy)))) o zJ wd f x st (xo fg pl b sn z m pt wy):=⟨⟨dx,zK⟩,cl,na⟩
        have g11:zc H10 (upd (upd (upd H10 dx (.own o)) o (.ins zJ dx [])) o (.ins zJ dx (bfs wd f x st (xo fg pl b sn z m pt wy)))):=qO (qO (qO (zc.refl _) nd) no) no
        generalize upd (upd (upd H10 dx (.own o)) o (.ins zJ dx [])) o (.ins zJ dx (bfs wd f x st (xo fg pl b sn z m pt wy)))=H11 at F0 g11 ⊢
        have A11:=A10.same g11
        exact ⟨rfl,q o _ H11 ⟨A9.sb.trans A11.sb,A11.er,A11.st⟩ ⟨fg,pl,b,sn,z,m,pt,wy,wd,f,x,st,F0,ok,rfl⟩⟩
       ·walk_at "rd"
        refine Xk W6 x6 (fun H7 r7 s7 W7 x7=>?_) (fun x7=>?_)
        ·walk_at "rd"
         refine K2 W7 (.inr (hW _)) x7 (er6.mono s7.oth) fun t H8 r8 ht s8 W8 x8=>?_
         walk_at "rd"
         exact hR' _ _ ⟨T t,rfl,zIR ht,s8.tup W7 (s7.tup W6 e6),At.go s6 er6 (s7.trans s8) (by omega) W8 x8⟩
        ·walk_at "rd"
         exact hR' _ _ ⟨"near", rfl,.inr (.inr (.inr (.inl rfl))),e6,s6,er6,_,_,hn6,W6,x7⟩
      ·walk_at "rd"
       refine Xk W5 x5 (fun H6 r6 s6 W6 x6=>?_) (fun x6=>?_)
       ·walk_at "rd"
        refine KB W6 x6 (er5.mono s6.oth) fun c H7 r7 hc s7 W7 x7=>?_
        walk_at "rd"
        exact hR' _ _ ⟨c,rfl,hc,s7.tup W6 (s6.tup W5 e5),At.go s5 er5 (s6.trans s7) (by omega) W7 x7⟩
       ·walk_at "rd"
        exact hR' _ _ ⟨46,rfl,by decide,e5,s5,er5,_,_,hn5,W5,x6⟩
     ·walk_at "rd"
      refine ⟨a,X9 pl (Lt sn),R,n0,rfl,⟨SBW.refl,A4.er,A4.st⟩,fun p z m H5 z0 z1 hm A5 e5=>?_⟩
      walk_at "rd"
      exact hR' _ _ ⟨p,z,m,rfl,⟨z0,z1,hm⟩,e5,A4.sb.trans A5.sb,A5.er,A5.st⟩
    ·walk_at "rd"
     refine Xk W3 e3 (fun H4 r4 s4 W4 x4=>?_) (fun x4=>?_)
     ·walk_at "rd"
      refine zDA stk fun l5 H5 g5 n5 e5=>?_
      rw [zHR] at e5
      walk_at "rd"
      refine K2 (ts:=zDf) (W4.same g5) (.inl (SqL.of e5)) x4 (er3.mono (s4.then g5).oth) fun t H6 r6 ht s6 W6 x6=>?_
      walk_at "rd"
      exact hR' _ _ ⟨T t,rfl,zJo ht,by rw [Xr];exact At.go s3 er3 ((s4.then g5).trans s6) (by omega) W6 x6⟩
     ·walk_at "rd"
      exact hR' _ _ ⟨"minus", rfl,.inl rfl,s3,er3,_,_,hn3,W3,x4⟩
   ·walk_at "rd"
    refine Xk W2 e2 (fun H3 r3 s3 W3 x3=>?_) (fun x3=>?_)
    ·walk_at "rd"
     refine Qv W3 x3 (er2.mono s3.oth) fun k H4 r4 k0 k1 s4 W4 x4=>?_
     walk_at "rd"
     exact hR' _ _ ⟨k,rfl,⟨k0,k1⟩,At.go s2 er2 (s3.trans s4) (by omega) W4 x4⟩
    ·walk_at "rd"
     exact hR' _ _ ⟨10,rfl,⟨by decide,by decide⟩,s2,er2,_,_,hn2,W2,x3⟩
  ·walk_at "rd"
   refine Qv W1 e1 er1 fun k H2 r2 k0 k1 s2 W2 x2=>?_
   walk_at "rd"
   exact hR' _ _ ⟨k,rfl,⟨k0,k1⟩,At.go s1 er1 s2 (by omega) W2 x2⟩
 ·obtain ⟨s0,er0,r0,n',hn',W,e0⟩:=A0
  walk_at "rd"
  refine Qv W e0 er0 fun k H1 r1 k0 k1 s1 W1 x1=>?_
  walk_at "rd"
  exact hR' _ _ ⟨k,rfl,⟨k0,k1⟩,At.go s0 er0 s1 (by omega) W1 x1⟩
theorem zGs {t sg:Wd} (h:tsg t=some sg) (hl:t.length<=100):1<=sg.length/\sg.length<=100:=by
 rcases zCf t with ⟨n,v,hk,rfl⟩ | hn
 ·rw [YX hk] at h
  cases h
  rcases hk with ⟨rfl,rfl⟩ | ⟨rfl,rfl⟩ | ⟨rfl,rfl⟩ | ⟨rfl,rfl⟩ <;> decide +kernel
 ·rw [YU hn] at h
  split at h
  ·rename_i hc
   cases h
   simp only [Bool.and_eq_true,decide_eq_true_eq] at hc
   rw [length_drop];omega
  ·cases h
def Qd (K:W.Frag) (C cX CF:Addr):Sp:=fun vs H Q E=>∃ (a:Addr) (R:Int) (n0:Nat),vs=[.ref a]/\At K C cX a H E n0 Wg R H /\ ∀ o ok H',At K C cX a H E n0 (.done ok) R H'->PsW K H' o CF ok->Q (.ref o) H'
include Z in
theorem JT:Ys P w K mg base "read_word_form" 6 ["words"] (Qd K zL zO zV):=by
 have cl:Cls K zV:=Z.bX
 have na:qg K zV (bns++wns):=Z.bY
 have hS:SqM K jO (tsV YT):=Z.hS
 refine xz Z.kn Z.bo (l1N (by intros;rfl)) fun fq fd F=>?_
 refine F.d.okX4 qV (fun vs H Q E=>?_) (fun _ _ _ s H vs Q E hr h td pp=>?_)
 ·walk_at "ln"
 refine ⟨_,zD (zI (i:=1) qV.nd rfl (Or.inl rfl) (qQ (xT (QK Z) in0) Z.b3 pp hr (pv 0)))
  (zD (zI (i:=2) qV.nd rfl (Or.inl rfl) (zj (xT (zv Z) in0) Z.b3 pp hr (pv 0) (zA (zB) (zA (zB) (zC)))))
  (zD (zI (i:=3) qV.nd rfl (Or.inl rfl) (zj (xT (zv Z) in0) Z.b3 pp hr (pv 0) (zA (pv 2) (zA (zB) (zC)))))
  (zD (z5 (qd (zj (xT (zm Z) in0) Z.b3 pp hr (pv 0) (zA (zE (l:=[98,108,97,110,107]) (by decide +kernel)) (zC)))) (zF (zI (i:=1) qV.nd rfl (Or.inl rfl) (zP jR (zE (l:=[32]) (by decide +kernel)) (pv 1)))) (zX))
  (zD (zI (i:=4) qV.nd rfl (Or.inl rfl) (xE (Zi Z) pp hr rfl (zA (pv 0) (zA (qq rfl Z.aI (v:=.ref jO) rfl) (zA (zZ) (zC))))))
  (zF (zQ (JY (zJ9 (Zr Z) Z.bZ) xA hr rfl Z.al (zA (pv 1) (zA (pv 2) (zA (pv 3) (zA (za zl (pv 4) (zB) (fun _ _=>rfl)) (zA (za zl (pv 4) (zB) (fun _ _=>rfl)) (zA (za zl (pv 4) (zB) (fun _ _=>rfl)) (zA (za zl (pv 4) (zB) (fun _ _=>rfl)) (zC) qB) qB) qB) qB) qS) qS) qS)))))))),?_⟩
 obtain ⟨a,R,n0,rfl,⟨s0,er0,r0,n',hn',W,e0⟩,q⟩:=h
 all_goals walk_at "st"
 walk_at "rd"
 refine zJW W e0 er0 fun t sg H1 r1 kt es s1 W1 x1=>?_
 obtain ⟨l1,l2⟩:=zGs es kt.2.1
 walk_at "rd"
 refine Qv W1 x1 (er0.mono s1.oth) fun lo H2 r2 lo0 lo1 s2 W2 x2=>?_
 walk_at "rd"
 refine Qv W2 x2 (er0.mono (s1.trans s2).oth) fun hi H3 r3 hi0 hi1 s3 W3 x3=>?_
 have sA:=s1.trans (s2.trans s3)
 have fin : ∀ (sg':Wd) (H4:Hp),1<=sg'.length->sg'.length<=200->At K zL zO a H E n0 (WS lo) R H4 -> ∀ {Q':VK},(∀ pt wd f x st H',At K zL zO a H E n0 (.done (okB lo wd st)) R H'->H' pt=some (.tup [.int wd,.str (T [f]),.str x,.bl st])->WdS sg' lo hi wd f x->Q' (.ref pt) H')->Qu K zL zO ([.ref a,.ref jO,.str "left"]++[]) H4 Q' E:=fun sg' H4 g1 g2 A4 Q' k=>by
  refine ⟨a,jO,YT, "left", okB lo,R,n0,rfl,hS _,⟨SBW.refl,A4.er,A4.st⟩,fun pt wd f x st H' w0 w1 hf hx A' e'=>k pt wd f x st H' ⟨A4.sb.trans A'.sb,A'.er,A'.st⟩ e' ⟨g1,g2,lo0,hi0,hi1,w0,w1,hf,?_⟩⟩
  rcases hx with rfl | hx
  ·exact .inl rfl
  ·exact zEl hx
 have mk : ∀ (sg':Wd) (H6:Hp) (wd:Int) (f:Nat) (x:Str) (st:Bool),At K zL zO a H E n0 (.done (okB lo wd st)) R H6->WdS sg' lo hi wd f x -> ∀ (o dx:Addr),H6 o=none->H6 dx=none->xQ K zV (.ref o::([.str (T sg'),.int lo,.int hi,.int wd,.str (T [f]),.str x,.bl st]++[])) (upd (upd H6 dx (.own o)) o (.ins zV dx [])) (fun v H'=>v = .non/\Q (.ref o) H') E0:=fun sg' H6 wd f x st A6 ok o dx no nd=>by
  refine ⟨o,dx,sg',lo,hi,wd,f,x,st,rfl,zK,?_⟩
  have F0:zp K (upd (upd (upd H6 dx (.own o)) o (.ins zV dx [])) o (.ins zV dx (bfs wd f x st (Jh sg' lo hi)))) o zV wd f x st (Jh sg' lo hi):=⟨⟨dx,zK⟩,cl,na⟩
  have g7:zc H6 (upd (upd (upd H6 dx (.own o)) o (.ins zV dx [])) o (.ins zV dx (bfs wd f x st (Jh sg' lo hi)))):=qO (qO (qO (zc.refl _) nd) no) no
  generalize upd (upd (upd H6 dx (.own o)) o (.ins zV dx [])) o (.ins zV dx (bfs wd f x st (Jh sg' lo hi)))=H7 at F0 g7 ⊢
  exact ⟨rfl,q o _ H7 (A6.same g7) ⟨sg',lo,hi,wd,f,x,st,F0,ok,rfl⟩⟩
 walk_at "rd"
 refine Xk W3 x3 (fun H4 r4 s4 W4 x4=>?_) (fun x4=>?_)
 ·walk_at "rd"
  refine fin (32::sg) _ (by simp) (by rw [length_cons];omega) (At.go s0 er0 (sA.trans s4) (by omega) W4 x4) fun pt wd f x st H6 A6 e6 ok=>?_
  walk_at "rd"
  intro o dx no nd ne
  exact mk (32::sg) H6 wd f x st A6 ok o dx no nd
 ·walk_at "rd"
  refine fin sg _ l1 (by omega) (At.go s0 er0 sA (by omega) W3 x4) fun pt wd f x st H6 A6 e6 ok=>?_
  walk_at "rd"
  intro o dx no nd ne
  exact mk sg H6 wd f x st A6 ok o dx no nd
def Zo (K:W.Frag) (C cX CF:Addr):Sp:=fun vs H Q E=>∃ (a:Addr) (R:Int) (n0:Nat),vs=[.ref a]/\At K C cX a H E n0 Qi R H /\ ∀ o ok H',At K C cX a H E n0 (.done ok) R H'->PsC K H' o CF ok->Q (.ref o) H'
theorem zEh {a l dx:Addr} {r:List Wd} {o:HO} (w:Wr K C H a r m) (e:H a=some (.ins C dx (wfs L n))) (h1:a≠l) (h2:L≠l):Wr K C (upd H l o) a r m:=by
 obtain ⟨d,L',ws,e1,e2,e3⟩:=w
 rw [e] at e1
 simp only [Option.some.injEq,HO.ins.injEq,true_and] at e1
 have eL:=KZ e1.2
 subst eL
 exact ⟨d,L,ws,by rw [zf h1,e,e1.1,e1.2],by rw [zf h2];exact e2,e3⟩
include Z in
theorem QM:Ys P w K mg base "read_choice_form" 6 ["words"] (Zo K zL zO zU):=by
 have cl:Cls K zU:=Z.b0
 have na:qg K zU (bns++cns):=Z.b1
 have hS:SqM K jO (tsV YT):=Z.hS
 refine xz Z.kn Z.bp (l1N (by intros;rfl)) fun fq fd F=>?_
 refine F.d.okX4 qX (fun vs H Q E=>?_) (fun _ _ _ s H vs Q E hr h td pp=>?_)
 ·walk_at "ln"
 refine ⟨_,zD (zI (i:=1) qX.nd rfl (Or.inl rfl) (zj (xT (zv Z) in0) Z.b3 pp hr (pv 0) (zA (zB) (zA (zB) (zC)))))
  (zD (zI (i:=2) qX.nd rfl (Or.inl rfl) (zd (zC)))
  (zD (J8 PassesOwn.leaving rfl (xp rfl Z.ap (zA (pv 1) (zC))) (qF (i:=3) qX.nd rfl (Or.inl rfl)) (zF (jE (yx PySem.F.plainAttrs_list PySem.F.slot_list_append PySem.F.type_list_append yb (pv 2) (zA (zj (xT (Ql Z) in0) Z.b3 pp hr (pv 0) (zA (pv 2) (zC))) (zC))))))
  (zD (zI (i:=4) qX.nd rfl (Or.inl rfl) (xE (Zi Z) pp hr rfl (zA (pv 0) (zA (qq rfl Z.aI (v:=.ref jO) rfl) (zA (zZ) (zC))))))
  (zF (zQ (JY (zJ9 (ZA Z) Z.b2) xA hr rfl Z.am (zA (pv 2) (zA (za zl (pv 4) (zB) (fun _ _=>rfl)) (zA (za zl (pv 4) (zB) (fun _ _=>rfl)) (zA (za zl (pv 4) (zB) (fun _ _=>rfl)) (zA (za zl (pv 4) (zB) (fun _ _=>rfl)) (zC)))))))))))),?_⟩
 obtain ⟨a,R,n0,rfl,⟨s0,er0,r0,n',hn',W,e0⟩,q⟩:=h
 all_goals walk_at "st"
 walk_at "rd"
 refine Qv W e0 er0 fun k H1 r1 k0 k1 s1 W1 x1=>?_
 refine VI ?_
 refine Wz (zDb (zDU (Ki (KM (by decide) fun l hl=>?_))))
 have W1':=W1
 obtain ⟨dx,L,ws,ea,eL,_⟩:=W1'
 have nal:a≠l:=fun z=>by rw [<- z,ea] at hl;cases hl
 have nLl:L≠l:=fun z=>by rw [<- z,eL] at hl;cases hl
 walk_at "rd"
 refine Jv (by omega) (by omega) (fun i σ H'=>(∀ b o,b≠a->b≠l->H1 b=some o->H' b=some o)/\(∃ m',H' a=some (.ins zL dx (wfs L m'))) /\ ∃ (ns:List Wd) (r:List Wd) (m:Nat),ns.length=i/\ns.Nodup/\(∀ t ∈ ns,1<=t.length/\t.length<=12)/\n0<=m/\Wr K zL H' a r m/\Au.run r (nms (k.toNat - i) ns ZM) m=R/\H' l=some (.lst (tsV ns)) /\ ∃ rr:Option V,σ=[some (.ref a),some (.int k),some (.ref l),rr,none])
  ⟨fun b o h1 h2 e=>by rw [zf h2];exact e,⟨_,by rw [zf nal];exact ea⟩,[],r1,_,rfl,List.nodup_nil,(fun t h=>nomatch h),by omega,zEh W1 ea nal nLl,by rw [Nat.sub_zero];exact x1,zK,none,rfl⟩ ?_ ?_
 ·rintro i σ H2 hlt ⟨k1',⟨m1,ea1⟩,ns,r,m,ln,nd,hl12,hm,W2,x2,el,rr,rfl⟩
  obtain ⟨j,hj⟩ : ∃ j,k.toNat - i=j+1:=⟨k.toNat - i - 1,by omega⟩
  rw [hj] at x2
  have sH:SB a H H2:=fun b o hb e=>by
   have e1:=s1.oth b o hb (s0.oth b o hb e)
   exact k1' b o hb (fun z=>by rw [z,hl] at e1;cases e1) e1
  have er2:Er zO a H2 E R:=fun H' dx' s'=>er0 H' dx' (fun b o hb e=>s' b o hb (sH b o hb e))
  walk_at "rd"
  refine zG2 W2 (SqL.of el) x2 er2 fun t H3 r3 t1 t2 tn' s3 W3 x3=>?_
  have el3:=s3.lst W2 el
  obtain ⟨m3,ea3⟩:=s3.own _ _ _ _ ea1
  walk_at "rd"
  refine ZG el3 (jl (by rw [show (tsV ns).length=ns.length from length_map _];omega)) ?_
  walk_at "rd"
  refine ⟨fun b o h1 h2 e=>by rw [zf h2];exact s3.oth b o h1 (k1' b o h1 h2 e),⟨m3,by rw [zf nal];exact ea3⟩,ns++[t],r3,m+1,by rw [length_append,ln];rfl,?_,?_,by omega,zEh W3 ea3 nal nLl,?_,?_,_,rfl⟩
  ·rw [List.nodup_append]
   exact ⟨nd,by simp,fun x hx y hy z=>tn' (by rw [List.mem_singleton.mp hy] at z;rw [<- z];exact hx)⟩
  ·intro u hu
   rcases List.mem_append.mp hu with hu | hu
   ·exact hl12 u hu
   ·rw [List.mem_singleton.mp hu];exact ⟨t1,t2⟩
  ·rw [show k.toNat - (i+1)=j by omega];exact x3
  ·rw [zK];unfold tsV;rw [map_append];rfl
 ·rintro σ H2 ⟨k1',⟨m1,ea1⟩,ns,r,m,ln,nd,hl12,hm,W2,x2,el,rr,rfl⟩
  rw [Nat.sub_self] at x2
  have s12:SBW a H1 H2:=⟨fun b o hb e=>k1' b o hb (fun z=>by rw [z,hl] at e;cases e) e,fun C d L' m' e=>by
   rw [ea] at e
   simp only [Option.some.injEq,HO.ins.injEq] at e
   obtain ⟨rfl,rfl,e3⟩:=e
   rw [<- KZ e3];exact ⟨m1,ea1⟩⟩
  have A2:At K zL zO a H E n0 (ZM ns) R H2:=At.go s0 er0 (s1.trans s12) hm W2 x2
  walk_at "rd"
  refine ⟨a,jO,YT, "left", okB (Vz ns),R,n0,rfl,hS _,⟨SBW.refl,A2.er,A2.st⟩,fun pt wd f x st H3 w0 w1 hf hx A3 e3=>?_⟩
  have hx':zC4 x:=by
   rcases hx with rfl | hx
   ·exact .inl rfl
   ·exact zEl hx
  have ok:ChS ns wd f x:=⟨by omega,by omega,hl12,nd,w0,w1,hf,hx'⟩
  have el3:=A3.sb.lst W2 el
  walk_at "rd"
  intro o dx' no nd' ne
  have g4:zc H3 (upd (upd H3 dx' (.own o)) o (.ins zU dx' [])):=qO (qO (zc.refl _) nd') no
  refine ⟨o,dx',l,ns,wd,f,x,st,rfl,zK,g4.at el3,fun L' H4 s4 n4 e4 e4'=>?_⟩
  have g5:zc H3 H4:=fun b u e=>s4 b u (fun z=>by rw [z,no] at e;cases e) (g4.at e)
  have A5:=A3.same g5
  exact ⟨rfl,q o _ H4 ⟨A2.sb.trans A5.sb,A5.er,A5.st⟩ ⟨L',ns,wd,f,x,st,⟨⟨dx',e4'⟩,cl,na⟩,SqL.of e4,ok,rfl⟩⟩
def Yq (K:W.Frag) (C cX CN CF CC:Addr):Sp:=fun vs H Q E=>∃ (a:Addr) (R:Int) (r:List Wd),vs=[.ref a]/\Wr K C H a r 0/\Au.run r p0 0=R/\Er cX a H E R /\ ∀ o ok H',At K C cX a H E 1 (.done ok) R H'->PsO K H' o CN CF CC ok->Q (.ref o) H'
include Z in
theorem Y0:Ys P w K mg base "read_words" 7 ["words"] (Yq K zL zO zJ zV zU):=by
 refine xz Z.kn Z.bq (l1N (by intros;rfl)) fun fq fd F=>?_
 refine F.d.okX4 QH (fun vs H Q E=>?_) (fun _ _ _ s H vs Q E hr h td pp=>?_)
 ·walk_at "ln"
 refine ⟨_,zD (zI (i:=1) QH.nd rfl (Or.inl rfl) (zj (xT (qs Z) in0) Z.b3 pp hr (pv 0) (zA (zo (zA (zE (l:=[110,117,109,98,101,114]) (by decide +kernel)) (zA (zE (l:=[119,111,114,100]) (by decide +kernel)) (zA (zE (l:=[99,104,111,105,99,101]) (by decide +kernel)) (zC))))) (zC))))
  (zD (z5 (zT qJ (pv 1) (zE (l:=[110,117,109,98,101,114]) (by decide +kernel)) (zS _)) (zF (zQ (xE (QQ Z) pp hr rfl (zA (pv 0) (zC))))) (zX))
  (zD (z5 (zT qJ (pv 1) (zE (l:=[119,111,114,100]) (by decide +kernel)) (zS _)) (zF (zQ (xE (JT Z) pp hr rfl (zA (pv 0) (zC))))) (zX))
  (zF (zQ (xE (QM Z) pp hr rfl (zA (pv 0) (zC))))))),?_⟩
 obtain ⟨a,R,r,rfl,W,hR,er,q⟩:=h
 all_goals walk_at "st"
 walk_at "rd"
 rename_i p1 H1 g1 e1
 refine K2 (ts:=Ws) (W.same g1) (.inr (SqT.of e1)) hR (er.mono (SB.of g1)) fun t H2 r2 ht s2 W2 x2=>?_
 have sA:SBW a H H2:=(SBW.of g1).trans s2
 have er2:=er.mono sA.oth
 have ht':t=zb\/t=ja\/t=qi:=by
  unfold Ws at ht
  simpa only [mem_cons,not_mem_nil,or_false] using ht
 rcases ht' with rfl | rfl | rfl
 ·rw [if_pos rfl] at x2
  walk_at "rd"
  refine ⟨a,R,1,rfl,⟨SBW.refl,er2,_,_,Nat.le_refl _,W2,x2⟩,fun o ok H3 A3 P3=>?_⟩
  exact q o ok H3 ⟨sA.trans A3.sb,A3.er,A3.st⟩ (.inl P3)
 ·rw [if_neg (by decide),if_pos rfl] at x2
  walk_at "rd"
  refine ⟨a,R,1,rfl,⟨SBW.refl,er2,_,_,Nat.le_refl _,W2,x2⟩,fun o ok H3 A3 P3=>?_⟩
  exact q o ok H3 ⟨sA.trans A3.sb,A3.er,A3.st⟩ (.inr (.inl P3))
 ·rw [if_neg (by decide),if_neg (by decide)] at x2
  walk_at "rd"
  refine ⟨a,R,1,rfl,⟨SBW.refl,er2,_,_,Nat.le_refl _,W2,x2⟩,fun o ok H3 A3 P3=>?_⟩
  exact q o ok H3 ⟨sA.trans A3.sb,A3.er,A3.st⟩ (.inr (.inr P3))
def sgB (c:Nat):Bool:=decide (c=32) || decide (c ∈ Lt Q6)
def zAT (K:W.Frag):Sp:=fun vs H Q _=>(∃ t:List Nat,vs=[.str (T t)]/\t.length<=5000 /\ ∀ H',zc H H'->Q (.bl (t.all sgB)) H')\/(∃ v:V,vs=[v]/\NT H v/\Q (.bl false) H)
theorem zHI {c:Nat} {z:Str} (q:Q (.bl (decide (c ∈ Lt z))) H):zKH (.str (T [c])) (.str z) H Q:=by
 have e:z=T (Lt z):=(ZY z).symm
 rw [e,Xr] at *
 exact zE3 q
include Z in
theorem zBm:Has P w K mg base "is_text" 1 ["thing"] (zAT K):=by
 have ss:WF w K qY:=Z.ss
 refine xz Z.kn Z.br (l1N (by intros;rfl)) fun fq fd F=>?_
 refine F.ok zAF (fun vs H Q E h=>?_) (fun _ _ _ s H vs Q E hr h=>?_)
 ·obtain ⟨t,rfl,hl,q⟩ | ⟨v,rfl,hv,q⟩:=h
  all_goals rfl
 refine ⟨_,zD (z5 (xb (qd (zR zCY Z.aq rfl qI (zA (pv 0) (zA (ki rfl Z.ar y7 (v:=.ty "str") rfl) (zC)))))) (zF (zQ (Qm))) (zX))
  (zF (zQ (zR (VF rfl) Z.aB rfl zE9 (zA (yq (cl:=[]) (fr:=[]) (is:=[]) rfl rfl trivial rfl trivial (by decide) (by decide +kernel) rfl (by decide +kernel) rfl (zBB (pv 0)) (fun _ _ _ _=>j7) (fun _ _ _ _=>zHN (zy qJ (pv 0) (zE (l:=[32]) (by decide +kernel)) (zS _)) (ku (zy zEo (pv 0) (za (zHO (w:=w) (K:=K) rfl rfl) (qq rfl Z.aF (v:=.ref qY) rfl) (zZ) (fun _ _=>rfl)) (by with_unfolding_all rfl))))) (zC))))),?_⟩
 obtain ⟨t,rfl,hl,q⟩ | ⟨v,rfl,hv,q⟩:=h
 all_goals walk_at "st"
 ·walk_at "rd"
  refine zDT (le_trans hl (by decide)) (fun i ys H'=>H'=H/\ys=((t.take i).map sgB).map V.bl) ⟨rfl,rfl⟩ (fun i ys H' _ h=>by rw [h.2,length_map,length_map,length_take];omega) ?_ ?_
  ·rintro i c ys H' hc hi ⟨rfl,rfl⟩
   have fin : ∀ b,sgB c=b->((t.take i).map sgB).map V.bl++[V.bl b]=((t.take (i+1)).map sgB).map V.bl:=fun b hb=>by
    rw [List.take_succ,hc,map_append,map_append,show (some c).toList.map sgB=[sgB c] from rfl,hb];rfl
   walk_at "rd"
   ·rename_i he
    have c32:c=32:=by simpa using he
    exact nxC hi ⟨rfl,fin true (by unfold sgB;rw [decide_eq_true c32];rfl)⟩
   ·rename_i hne
    have c32:c≠32:=fun z=>hne (by rw [z])
    refine zE8 (ss.get "all" Q6 (.inr (.inr (.inr ⟨rfl,rfl⟩)))) (zHI ?_)
    exact nxC hi ⟨rfl,fin _ (by unfold sgB;rw [decide_eq_false c32];rfl)⟩
  ·rintro ys H' ⟨rfl,rfl⟩ p1 H1 g1 e1
   walk_at "rd"
   rw [take_length,show (t.map sgB).all id=t.all sgB by rw [List.all_map];rfl]
   exact q _ g1
 ·walk_at "rd"
  exact q
theorem ErS.er {a:Addr} (e:ErS cX H E k) (g:zc H H1) (na : ∀ c u,H c=some u->c≠a):Er cX a H1 E k:=fun H' dx s=>e H' dx fun b o hb=>s b o (na b o hb) (g.at hb)
theorem nof {y:Addr} (g:zc H H') (h:H' y=none):H y=none:=by
 cases z:H y with
 | none=>rfl
 | some o=>rw [g.at z] at h;cases h
structure Wds (ws:List Wd):Prop where
 ne:ws≠[]
 fr : ∀ t ∈ ws,32 ∉ t
 sg:(jn [32] ws).all sgB=true
 l1:(jn [32] ws).length<=5000
 l2:ws.length<=100
 wk : ∀ t ∈ ws,WkW t
def Rd (H:Hp) (v:V) (R:Int):Prop:=(∃ ws:List Wd,v = .str (T (jn [32] ws))/\Wds ws/\R=Au.run ws p0 0)\/(∃ t:List Nat,v = .str (T t)/\t.length<=5000/\t.all sgB=false/\R=0)\/(NT H v/\R=0)
def Vi (K:W.Frag) (cX:Addr):Sp:=fun vs H Q E=>∃ (v:V) (R:Int),vs=[v]/\Rd H v R/\(R = -1 -> ∀ o H',zc H H'->Q (.ref o) H')/\ErS cX H E R
local macro_rules | `(tactic| walk_at "rdc")=>`(tactic| first | (with_reducible refine zG5 ?_) | (with_reducible refine zHe ?_) | fail "k53h stops")
theorem zLx {o cN cW cC:Addr} {ok:Bool} {σ:St} (P:PsO K H o cN cW cC ok) (hv : ∀ Q':VK,Q' (.ref o) H->zFB 2 σ H Q') (h : ∀ H',zc H H'->Q (.bl ok) H'):zJt (VQ cN "puts_some" (qr K cN cW cC) [] E (zFB 2) zAr) (zJt (VQ cW "puts_some" (qr K cN cW cC) [] E (zFB 2) zAr) (VQ cC "puts_some" (qr K cN cW cC) [] E (zFB 2) zAr)) σ H Q:=by
 have fin:qr K cN cW cC (.ref o::([]++[])) H Q E:=⟨o,ok,rfl,P,h⟩
 rcases P with ⟨fg,pl,b,sn,z,m,pt,wy,wd,f,x,st,F0,_,_⟩ | ⟨sg,lo,hi,wd,f,x,st,F0,_,_⟩ | ⟨L,ns,wd,f,x,st,F0,_,_,_⟩
 ·exact zDE (K7 (hv _ (XE (zCA F0 (by decide +kernel) (by decide +kernel)) (Ki fin))))
 ·exact zAb (zDE (K7 (hv _ (XE (zBF F0 (by decide +kernel) (by decide +kernel) (by decide +kernel) (by decide +kernel)) (Ki fin)))))
 ·exact zAb (zAb (K7 (hv _ (XE (zBh F0 (by decide +kernel) (by decide +kernel)) (Ki fin)))))
include Z in
theorem KA:Ys P w K mg base "read_form" 8 ["text"] (Vi K zO):=by
 have clW:Cls K zL:=Z.b3
 have naW:qg K zL ["words", "at"]:=Z.b4
 have xt : ∃ f,ExF K zO f "at" := Z.cc
 refine xz Z.kn Z.bs (l1N (by intros;rfl)) fun fq fd F=>?_
 refine F.d.okX4 kT (fun vs H Q E=>?_) (fun _ _ _ s H vs Q E hr h td pp=>?_)
 ·walk_at "ln"
 refine ⟨_,zD (z5 (xb (qd (zH (zBm Z) hr rfl (zA (pv 0) (zC))))) (zF (k8 td rfl (QG (zIK (qp Z) Z.cb) xA hr rfl Z.ai (zA (zB) (zC))))) (zX))
  (zD (zI (i:=1) kT.nd rfl (Or.inl rfl) (JY (zJ9 (JQ Z) Z.b5) xA hr rfl Z.an (zA (yx PySem.F.plainAttrs_str PySem.F.slot_str_split PySem.F.type_str_split ko (pv 0) (zA (zE (l:=[32]) (by decide +kernel)) (zC))) (zC))))
  (zD (zI (i:=2) kT.nd rfl (Or.inl rfl) (xE (Y0 Z) pp hr rfl (zA (pv 1) (zC))))
  (zD (z5 (xb (qd (K8 (qQ (xT (xH Z) in0) Z.bU xA hr (pv 2)) (K8 (qQ (xT (xH Z) in1) Z.bX xA hr (pv 2)) (qQ (xT (xH Z) in2) Z.b0 xA hr (pv 2)))))) (zF (k8 td rfl (QG (zIK (qp Z) Z.cb) xA hr rfl Z.ai (zA (zP k7 (qa (pv 1) rfl) (zB)) (zC))))) (zX))
  (zD (z5 (zT zB4 (qa (pv 1) rfl) (zR qh Z.ao rfl qy (zA (qa (pv 1) rfl) (zC))) (zS _)) (zF (k8 td rfl (QG (zIK (qp Z) Z.cb) xA hr rfl Z.ai (zA (qa (pv 1) rfl) (zC))))) (zX))
  (zF (zQ (pv 2))))))),?_⟩
 obtain ⟨v,R,rfl,hv,q,er⟩:=h
 all_goals walk_at "st"
 rcases hv with ⟨ws,rfl,hw,rfl⟩ | ⟨t,rfl,hl,hs,rfl⟩ | ⟨hv,rfl⟩
 ·walk_at "rd"
  refine .inl ⟨_,rfl,hw.l1,fun H1 g1=>?_⟩
  rw [hw.sg]
  walk_at "rd"
  refine j6 hw.ne hw.fr (by have:=hw.l1;omega) (by have:=hw.l2;omega) fun l H2 g2 n2 e2=>?_
  walk_at "rd"
  intro a dx no nd ne
  refine ⟨a,dx,l,rfl,zK,rfl,?_⟩
  have na2:l≠a:=zg e2 no
  have nd2:l≠dx:=zg e2 nd
  have W:Wr K zL (upd (upd (upd H2 dx (.own a)) a (.ins zL dx [])) a (.ins zL dx (wfs l 0))) a ws 0:=
   ⟨dx,l,_,zK,(by rw [zf na2,zf na2,zf nd2];exact e2),zero_le _,rfl,hw.l2,hw.wk⟩
  have g3:zc H2 (upd (upd (upd H2 dx (.own a)) a (.ins zL dx [])) a (.ins zL dx (wfs l 0))):=qO (qO (qO (zc.refl _) nd) no) no
  have nn2 : ∀ c u,H c=some u->c≠a:=fun c u e z=>by subst z;have:=g2.at (g1.at e);rw [no] at this;cases this
  generalize upd (upd (upd H2 dx (.own a)) a (.ins zL dx [])) a (.ins zL dx (wfs l 0))=H3 at W g3 ⊢
  have g03:=g1.trans (g2.trans g3)
  walk_at "rd"
  refine ⟨a,_,ws,rfl,W,rfl,er.er g03 nn2,fun o ok H4 A4 P4=>?_⟩
  have g4:zc H H4:=fun c u e=>A4.sb.oth c u (nn2 c u e) (g03.at e)
  obtain ⟨r4,n4,hn4,W4,x4⟩:=A4.st
  have W4':=W4
  obtain ⟨dx5,L5,ws5,e5,hl5,hn5,hd5,hz5,_⟩:=W4'
  have fA:jf K H4 a "at" (.int n4):=⟨zL,dx5,_,e5,clW,naW.at (by decide +kernel),zEJ⟩
  have fW:jf K H4 a "words" (.ref L5):=⟨zL,dx5,_,e5,clW,naW.at (by decide +kernel),YR⟩
  have tl:(tsV ws5).length=ws5.length:=length_map _
  walk_at "rd"
  refine zLx P4 (fun Q' h=>by walk_at "rd"; exact h) fun H5 g5=>⟨_,rfl,?_⟩
  have g45:=g4.trans g5
  have er5 : ∀ k:Int,Au.run ws p0 0=k->ErS zO H5 E k:=fun k e H' dx g=>by rw [<- e];exact er H' dx (g45.trans g)
  have fA5:=fA.same g5
  have fW5:=fW.same g5
  have hl6:=g5.at hl5
  cases ok with
  | false =>
   walk_at "rd"
   refine QW xt (fun _ h=>nof g45 h) (by omega) (by omega) (er5 _ ?_)
   rw [<- x4]
   cases r4 with
   | nil=>rfl
   | cons t r=>rfl
  | true =>
   walk_at "rd"
   ·rename_i hc
    refine QW xt (fun _ h=>nof g45 h) (by omega) (by omega) (er5 _ ?_)
    rw [<- x4]
    cases r4 with
    | nil=>exact absurd (congrArg List.length hd5) (by rw [length_drop];simp;omega)
    | cons t r=>rfl
   ·rename_i hc
    refine q ?_ o H5 g45
    rw [<- x4]
    cases r4 with
    | nil=>rfl
    | cons t r=>exact absurd (congrArg List.length hd5) (by rw [length_drop,length_cons];omega)
 ·walk_at "rd"
  refine .inl ⟨_,rfl,hl,fun H1 g1=>?_⟩
  rw [hs]
  walk_at "rd"
  exact QW xt (fun _ h=>nof g1 h) (by decide) (by decide) (fun H' dx g=>er H' dx (g1.trans g))
 ·walk_at "rd"
  refine .inr ⟨_,rfl,hv,?_⟩
  walk_at "rd"
  exact QW xt (fun _ h=>h) (by decide) (by decide) er
def VZ (K:W.Frag):SpY:=fun _ vs H Q=>∃ i:Int,vs=[.int i]/\Q (.bl true) H
include Z in
theorem KL:zKz P w K mg base "_law_whole" 1 ["_law_thing"] (VZ K):=by
 refine zKu Z.kn Z.bt (l1N (by intros;rfl)) fun fq fd F=>?_
 refine F.okY Vv (fun y vs H Q=>?_) (fun _ _ _ s H vs Q y hr h=>?_)
 ·walk_at "ln"
 obtain ⟨i,rfl,q⟩:=h
 refine ⟨_,zF (zQ (Qt (zR (VG (K:=K) rfl) Z.aq rfl qI (zA (pv 0) (zA (ki rfl Z.aw QN (v:=.ty "int") rfl) (zC)))) (ku (zBx (zR (VG (K:=K) rfl) Z.aq rfl qI (zA (pv 0) (zA (ki rfl Z.ax zBz (v:=.ty "bool") rfl) (zC)))))))),?_⟩
 walk_at "st"
 walk_at "rd"
 exact q
def ZX (K:W.Frag):Sp:=fun vs H Q _=>∃ (v:V) (R:Int),vs=[v]/\Rd H v R /\ ∀ H',zc H H'->Q (.int R) H'
theorem jm {v:V} (h:Rd H v R) (q : ∀ H',zc H H'->Q (.int R) H'):ZX K ([v]++[]) H Q E:=⟨v,R,rfl,h,q⟩
local macro_rules | `(tactic| walk_at "rdc")=>`(tactic| first | (with_reducible refine zK7 ?_) | (with_reducible refine zF3 ?_) | fail "k53i stops")
include Z in
theorem qT:Has P w K mg base "_law_refused" 9 ["_law_thing"] (ZX K):=by
 have xt : ∃ f,ExF K zO f "at" := Z.cc
 have xnf:W.exmOne K (.ref zO) (.ref je)=some true:=Z.ce
 have k5:W.kitAny K (.ref zO) [.ref jJ,.ref yw,.ref xU,.ref ji,.ref jg]=some false:=Z.k5
 have kv:W.kitOne K (.ref zO) (.type "ValueError")=some true:=Z.kv
 have kf:W.kitOne K (.ref zO) (.ref zO)=some true:=Z.kf
 refine xz Z.kn Z.bu (l1N (by intros;rfl)) fun fq fd F=>?_
 refine F.ok Zh (fun vs H Q E=>?_) (fun _ _ _ s H vs Q E hr h=>?_)
 ·walk_at "ln"
 obtain ⟨v,R,rfl,hv,q⟩:=h
 refine ⟨_,zD (zGK rfl rfl rfl (fun _ _ _=>zF (jE (zBg (KA Z) hr rfl (zA (pv 0) (zC))))) (zI6 (i:=1) rfl Z.ab Zh.nd rfl rfl (fun _=>zD (z5 (PW.pt (kz (qd (zR (zAc (K:=K) rfl) Z.aq rfl qI (zA (pv 1) (zA (zo (zA (qq rfl Z.ac (v:=.ref jJ) rfl) (zA (qq rfl Z.ah (v:=.ref yw) rfl) (zA (qq rfl Z.ag (v:=.ref xU) rfl) (zA (qq rfl Z.ae (v:=.ref ji) rfl) (zA (qq rfl Z.af (v:=.ref jg) rfl) (zC))))))) (zC))))) (j8 (xb (qd (zR (X4 (K:=K) rfl) Z.aq rfl qI (zA (pv 1) (zA (ki rfl Z.aC Ym (v:=.ty "ValueError") rfl) (zC))))))))) (zF (zQ (Zk xr (zB)))) (zX))
  (zD (z5 (PW.pt (Ji (qd (zR (X4 (K:=K) rfl) Z.aq rfl qI (zA (pv 1) (zA (qq rfl Z.ai (v:=.ref zO) rfl) (zC))))) (Zv (qd (zDO (KL Z) hr rfl (zA (zEW (K:=K) rfl (pv 1) rfl) (zC))))))) (zF (zQ (zEW (K:=K) rfl (pv 1) rfl))) (zX))
  (zF (zQ (Zk xr (zB))))))))
  (zF (zQ (Zk xr (zB)))),?_⟩
 walk_at "st"
 have eb:ExcB K zO:=let ⟨_,n⟩:=xt;n.b
 walk_at "rd"
 refine zHh [some v,none] ?_
 walk_at "rd"
 refine ⟨v,R,rfl,hv,fun e o H1 g1=>?_,fun H1 dx g1 e1=>⟨zO,rfl,zKW xnf fun y fy=>?_⟩⟩
 ·subst e
  walk_at "rd"
  exact q _ g1
 ·have nd:dx≠y:=zg e1 fy
  have e2:upd H1 y (.ext (ExQ y zO dx)) dx=some (.ext (XD dx [("at", .int R)])):=by rw [zf nd];exact e1
  have g2:zc H1 (upd H1 y (.ext (ExQ y zO dx))):=qO (zc.refl _) fy
  walk_at "rd"
  rename_i p3 H3 g3 e3
  have ix:zAa H3 y zO:=zAa.q (g3.at zK)
  refine zHT (Ds:=[jJ,yw,xU,ji,jg]) ix eb e3 k5 ⟨_,rfl,?_⟩
  walk_at "rd"
  refine zFP ix eb (.inl ⟨_,rfl⟩) kv ⟨_,rfl,?_⟩
  walk_at "rd"
  refine zFP ix eb (.inr ⟨_,rfl⟩) kf ⟨_,rfl,?_⟩
  walk_at "rd"
  refine zEc (g3.at zK) (g3.at e2) xt yc ?_
  walk_at "rd"
  refine ⟨R,rfl,⟨_,rfl,?_⟩⟩
  walk_at "rd"
  refine zEc (g3.at zK) (g3.at e2) xt yc ?_
  exact q _ (g1.trans (g2.trans g3))
def Sgn (c:Nat):Prop:=c=32\/c ∈ Lt Q6
theorem WA {c:Nat} (h:Sgn c):c < 127:=by
 rcases h with rfl | h
 ·decide
 ·exact (show ∀ c ∈ Lt Q6,c < 127 by decide +kernel) c h
def xJ (K:W.Frag):Sp:=fun vs H Q _=>vs=[] /\ ∀ l:List Nat,l=32::Lt Q6->l.length=94->(∀ c ∈ l,Sgn c)->l.Pairwise (· < ·)->(∀ c ∈ l.drop 1,c≠32)->Q (.str (T l)) H
theorem zHL (q : ∀ l:List Nat,l.length=94->(∀ c ∈ l,Sgn c)->l.Pairwise (· < ·)->(∀ c ∈ l.drop 1,c≠32)->Q (.str (T l)) H):xJ K ([]++[]) H Q E:=⟨rfl,fun l _=>q l⟩
theorem zDY (q:Q (.str (T (32::Lt Q6))) H):xJ K ([]++[]) H Q E:=⟨rfl,fun l e _ _ _ _=>by rw [e];exact q⟩
local macro_rules | `(tactic| walk_at "rdc")=>`(tactic| ((with_reducible refine zHL ?_);intro l' hl' al' pl' bl'))
def yi (K:W.Frag):Sp:=fun vs H Q _=>∃ n t:Int,vs=[.int n,.int t]/\0<=t /\ ∀ c:Nat,Sgn c->Q (.str (T [c])) H
theorem zHd {n:Int} (h1:0<=t) (q : ∀ c:Nat,Sgn c->Q (.str (T [c])) H):yi K ([.int n,.int t]++[]) H Q E:=⟨n,t,rfl,h1,q⟩
local macro_rules | `(tactic| walk_at "rdc")=>`(tactic| ((with_reducible refine' zHd ?h1 ?_);(case h1=>omega);intro c' hc'))
def Xo (H:Hp) (p:Addr) (fg pl b:Int) (sn:Str) (z:Int) (m pt:Nat) (wy:Str) (wd:Int) (f:Nat) (x:Str) (st:Bool):Prop:=H p=some (.tup [.str "number", .int fg,.int pl,.int b,.str sn,.int z,.str (T [m]),.str (T [pt]),.str wy,.int wd,.str (T [f]),.str x,.bl st])
def Sg3 (m pt f:Nat):Prop:=Sgn m/\Sgn pt/\Sgn f
def Z5 (K:W.Frag):Sp:=fun vs H Q _=>∃ (c o:Int),vs=[.int c,.int o,.int 0] /\ ∀ p H' fg pl b sn z m pt wy wd f x st,zc H H'->zCZ fg pl b sn z m pt wy wd f x->Sg3 m pt f->Xo H' p fg pl b sn z m pt wy wd f x st->Q (.ref p) H'
include Z in
theorem y1:Has P w K mg base "_law_cell_at" 1 ["_law_script", "_law_k"] (Ze K):=by
 refine xz Z.kn Z.bv (l2N (by intros;rfl)) fun fq fd F=>?_
 refine F.ok Xh (fun vs H Q E=>?_) (fun _ _ _ s H vs Q E hr h=>?_)
 ·walk_at "ln"
 obtain ⟨a,ns,k,rfl,hS,hk,q⟩:=h
 refine ⟨_,zD (z5 (zT zB4 (pv 1) (zR qh Z.ao rfl qy (zA (pv 0) (zC))) (zS _)) (zF (zQ (za zi (pv 0) (pv 1) (fun _ _=>rfl)))) (zX))
  (zF (zQ (zB))),?_⟩
 walk_at "st"
 walk_at "rd"
 ·rename_i hc
  rw [length_map] at hc
  exact qU hS hk (by rw [length_map];omega) fun x hx=>by
   obtain ⟨v,_,rfl⟩:=List.mem_map.mp (mem_of_getElem? hx)
   exact q v
 ·exact q 0
include Z in
theorem zM:Has P w K mg base "_law_pick" 1 ["_law_cell", "_law_salt", "_law_many"] (Zn K):=by
 refine xz Z.kn Z.bw (l3N (by intros;rfl)) fun fq fd F=>?_
 refine F.ok yu (fun vs H Q E=>?_) (fun _ _ _ s H vs Q E hr h=>?_)
 ·walk_at "ln"
 obtain ⟨c,t,m,rfl,ht,hm,q⟩:=h
 refine ⟨_,zD (z5 (PW.pt (Ji (zT Zp (pv 0) (zGy (k:=1000000000000000000) (by unfold zKT;decide) (by decide +kernel)) (zS _)) (Zv (zT Zp (zP zBX (pv 0) (zP jk (zB) (pv 1))) (zB) (zS _))))) (zF (zQ (zP qE (zP qE (zP zBX (pv 0) (zP jk (zB) (pv 1))) (zB)) (pv 2)))) (zX))
  (zD (zI (i:=3) yu.nd rfl (Or.inl rfl) (zP qE (zP z9 (zP z9 (zP qE (pv 0) (zB)) (zB)) (zP jk (zB) (pv 1))) (zB)))
  (zD (zI (i:=3) yu.nd rfl (Or.inl rfl) (zP qE (zP jk (pv 3) (pv 3)) (zB)))
  (zD (zI (i:=4) yu.nd rfl (Or.inl rfl) (zP qE (zP jk (zP z9 (pv 3) (zB)) (zP z9 (zP z9 (zP qb (pv 3) (zB)) (zB)) (pv 1))) (zB)))
  (zF (zQ (zP qE (zP qb (pv 4) (zB)) (pv 2))))))),?_⟩
 walk_at "st"
 have n0 : ∀ a:Int,0<=a % m/\a % m < m:=fun a=>⟨emod_nonneg _ (by omega),emod_lt_of_pos _ hm⟩
 unfold pk pkA at q
 walk_at "rd"
 ·rename_i c1 c2
  rw [if_pos ⟨c1,c2⟩] at q
  exact q (n0 _).1 (n0 _).2
 ·rename_i c1 c2
  rw [if_neg (fun y=>c2 y.2)] at q
  exact q (n0 _).1 (n0 _).2
 ·rename_i c1
  rw [if_neg (fun y=>c1 y.1)] at q
  exact q (n0 _).1 (n0 _).2
include Z in
theorem jw:Has P w K mg base "_law_all_signs" 1 [] (xJ K):=by
 refine xz Z.kn Z.bx (l0N (by intros;rfl)) fun fq fd F=>?_
 refine F.ok JW (fun vs H Q E=>?_) (fun _ _ _ s H vs Q E hr h=>?_)
 ·walk_at "ln"
 obtain ⟨rfl,q⟩:=h
 refine ⟨_,zF (zQ (zZ)),?_⟩
 walk_at "st"
 walk_at "rd"
 have q':=q (Lt " !\"#$&'()*+,-./0123456789:;<=>?@ABCDEFGHIJKLMNOPQRSTUVWXYZ[\\]^_`abcdefghijklmnopqrstuvwxyz{|}~") (by decide +kernel) (by decide +kernel) (by
  have : ∀ c ∈ Lt " !\"#$&'()*+,-./0123456789:;<=>?@ABCDEFGHIJKLMNOPQRSTUVWXYZ[\\]^_`abcdefghijklmnopqrstuvwxyz{|}~", c=32\/c ∈ Lt Q6:=by decide +kernel
  exact this) (by decide +kernel) (by decide +kernel)
 rw [ZY] at q'
 exact q'
include Z in
theorem qx:Has P w K mg base "_law_drawn_sign" 2 ["_law_cell", "_law_salt"] (yi K):=by
 refine xz Z.kn Z.bz (l2N (by intros;rfl)) fun fq fd F=>?_
 refine F.ok yl (fun vs H Q E=>?_) (fun _ _ _ s H vs Q E hr h=>?_)
 ·walk_at "ln"
 obtain ⟨n,t,rfl,h0,q⟩:=h
 refine ⟨_,zD (zI (i:=2) yl.nd rfl (Or.inl rfl) (zZ))
  (zD (z5 (zT Zp (zH (zM Z) hr rfl (zA (pv 0) (zA (pv 1) (zA (zB) (zC))))) (zB) (zS _)) (zF (zQ (za kG (pv 2) (zH (zM Z) hr rfl (zA (pv 0) (zA (zP z9 (pv 1) (zB)) (zA (zR jG Z.ao rfl qy (zA (pv 2) (zC))) (zC))))) (fun _ _=>rfl)))) (zX))
  (zF (zQ (za kG (ye (jw Z) hr rfl) (zH (zM Z) hr rfl (zA (pv 0) (zA (zP z9 (pv 1) (zB)) (zA (zB) (zC))))) (fun _ _=>rfl))))),?_⟩
 walk_at "st"
 have l13:(Lt " 0-+(1*)_,.9f").length=13:=by decide +kernel
 have a1 : ∀ c ∈ Lt " 0-+(1*)_,.9f", c=32\/c ∈ Lt Q6:=by decide +kernel
 walk_at "rd"
 ·rename_i c' hc';exact q _ (a1 _ hc')
 ·rename_i l' hl' al' pl' bl' v' h0' h1'
  refine q _ (al' _ ?_)
  rw [getD_eq_getElem?_getD,getElem?_eq_getElem (by omega)]
  exact getElem_mem _
include Z in
theorem Qq:Has P w K mg base "_law_number_spec" 3 ["_law_cell", "_law_other", "_law_small"] (Z5 K):=by
 refine xz Z.kn Z.bA (l3N (by intros;rfl)) fun fq fd F=>?_
 refine F.ok ze (fun vs H Q E=>?_) (fun _ _ _ s H vs Q E hr h=>?_)
 ·walk_at "ln"
 obtain ⟨c,o,rfl,q⟩:=h
 refine ⟨_,zD (zI (i:=3) ze.nd rfl (Or.inl rfl) (zP z9 (zB) (zH (zM Z) hr rfl (zA (pv 0) (zA (zB) (zA (za zi (zd (zA (zB) (zA (zB) (zC)))) (pv 2) (fun _ _=>rfl)) (zC)))))))
  (zD (zI (i:=4) ze.nd rfl (Or.inl rfl) (zH (zM Z) hr rfl (zA (pv 0) (zA (zB) (zA (za zi (zd (zA (zB) (zA (zB) (zC)))) (pv 2) (fun _ _=>rfl)) (zC))))))
  (zD (zI (i:=5) ze.nd rfl (Or.inl rfl) (za zi (zd (zA (zB) (zA (zB) (zA (za zi (zd (zA (zB) (zA (zB) (zC)))) (pv 2) (fun _ _=>rfl)) (zA (za zi (zd (zA (zP z9 (zB) (zH (zM Z) hr rfl (zA (pv 0) (zA (zB) (zA (zB) (zC)))))) (zA (zB) (zC)))) (pv 2) (fun _ _=>rfl)) (zC)))))) (zH (zM Z) hr rfl (zA (pv 0) (zA (zB) (zA (zB) (zC))))) (fun _ _=>rfl)))
  (zD (zI (i:=6) ze.nd rfl (Or.inl rfl) (za zi (zd (zA (zZ) (zA (zZ) (zA (zE (l:=[98,108,97,110,107]) (by decide +kernel)) (zA (zZ) (zA (zZ) (zC))))))) (zH (zM Z) hr rfl (zA (pv 0) (zA (zB) (zA (zB) (zC))))) (fun _ _=>rfl)))
  (zD (zI (i:=7) ze.nd rfl (Or.inl rfl) (za zi (zd (zA (zB) (zA (zB) (zA (zP z9 (zB) (zH (zM Z) hr rfl (zA (pv 0) (zA (zB) (zA (zB) (zC)))))) (zC))))) (zH (zM Z) hr rfl (zA (pv 0) (zA (zB) (zA (zB) (zC))))) (fun _ _=>rfl)))
  (zD (zI (i:=8) ze.nd rfl (Or.inl rfl) (za zi (zd (zA (zZ) (zA (zZ) (zA (zZ) (zA (zZ) (zA (zZ) (zC))))))) (zH (zM Z) hr rfl (zA (pv 0) (zA (zB) (zA (zB) (zC))))) (fun _ _=>rfl)))
  (zD (zI (i:=9) ze.nd rfl (Or.inl rfl) (zo (zA (zH (qx Z) hr rfl (zA (pv 1) (zA (zB) (zC)))) (zA (zH (qx Z) hr rfl (zA (pv 1) (zA (zB) (zC)))) (zA (zH (qx Z) hr rfl (zA (pv 1) (zA (zB) (zC)))) (zC))))))
  (zD (zI (i:=10) ze.nd rfl (Or.inl rfl) (zd (zA (zB) (zA (zP z9 (zB) (zH (zM Z) hr rfl (zA (pv 1) (zA (zB) (zA (za zi (zd (zA (zB) (zA (zB) (zC)))) (pv 2) (fun _ _=>rfl)) (zC)))))) (zA (zP z9 (zB) (zH (zM Z) hr rfl (zA (pv 1) (zA (zB) (zA (za zi (zd (zA (zB) (zA (zB) (zC)))) (pv 2) (fun _ _=>rfl)) (zC)))))) (zC))))))
  (zD (zI (i:=11) ze.nd rfl (Or.inl rfl) (za zi (pv 10) (zH (zM Z) hr rfl (zA (pv 1) (zA (zB) (zA (zB) (zC))))) (fun _ _=>rfl)))
  (zD (zI (i:=12) ze.nd rfl (Or.inl rfl) (za zi (zd (zA (zZ) (zA (zZ) (zA (zZ) (zA (zZ) (zC)))))) (zH (zM Z) hr rfl (zA (pv 1) (zA (zB) (zA (zB) (zC))))) (fun _ _=>rfl)))
  (zD (zI (i:=13) ze.nd rfl (Or.inl rfl) (zy qJ (zH (zM Z) hr rfl (zA (pv 1) (zA (zB) (zA (zB) (zC))))) (zB) (zS _)))
  (zF (zQ (zo (zA (zE (l:=[110,117,109,98,101,114]) (by decide +kernel)) (zA (pv 3) (zA (pv 4) (zA (pv 5) (zA (pv 6) (zA (pv 7) (zA (za zl (pv 9) (zB) (fun _ _=>rfl)) (zA (za zl (pv 9) (zB) (fun _ _=>rfl)) (zA (pv 8) (zA (pv 11) (zA (za zl (pv 9) (zB) (fun _ _=>rfl)) (zA (pv 12) (zA (pv 13) (zC) qS) qS) qB) qS) qS) qB) qB) qS) qS) qS) qS) qS) zY)))))))))))))),?_⟩
 walk_at "st"
 walk_at "rd"
 rename_i p4 H4 g4 e4 v3 h03 h13 p3 H3 g3 e3 v2 h02 h12 p2 H2 g2 e2 v1 h01 h11 p1 H1 g1 e1 p0 H0 g0 e0 v0 h00 h10
 refine qU (SqL.of e0) (by omega) (by show _ < (4:Int);omega) fun x hx=>?_
 have hm:=mem_of_getElem? hx
 simp only [mem_cons,not_mem_nil,or_false] at hm
 have hx : ∃ b:Int,x = .int b/\2<=b/\b<=16:=by
  rcases hm with rfl | rfl | rfl | rfl
  ·exact ⟨_,rfl,by omega,by omega⟩
  ·exact ⟨_,rfl,by omega,by omega⟩
  ·exact ⟨_,rfl,by omega,by omega⟩
  ·exact ⟨_,rfl,by omega,by omega⟩
 obtain ⟨b,rfl,b1,b2⟩:=hx
 have gA:zc H H0:=by walk_at "sm"
 clear hm e0 e1 e2 e3 e4
 walk_at "rd"
 rename_i p5 H5 g5 e5 v5 h05 h15
 refine qU (SqL.of e5) (by omega) (by show _ < (5:Int);omega) fun x hx=>?_
 have hm:=mem_of_getElem? hx
 simp only [mem_cons,not_mem_nil,or_false] at hm
 have hx : ∃ sn:Str,x = .str sn/\Qj sn:=by
  rcases hm with rfl | rfl | rfl | rfl | rfl
  ·exact ⟨_,rfl,.inl rfl⟩
  ·exact ⟨_,rfl,.inr (.inl rfl)⟩
  ·exact ⟨_,rfl,.inr (.inr (.inl rfl))⟩
  ·exact ⟨_,rfl,.inr (.inr (.inr (.inl rfl)))⟩
  ·exact ⟨_,rfl,.inr (.inr (.inr (.inr rfl)))⟩
 obtain ⟨sn,rfl,hsn⟩:=hx
 clear hm e5
 walk_at "rd"
 rename_i v6 h06 h16 p7 H7 g7 e7 v7 h07 h17
 refine qU (SqL.of e7) (by omega) (by show _ < (3:Int);omega) fun x hx=>?_
 have hm:=mem_of_getElem? hx
 simp only [mem_cons,not_mem_nil,or_false] at hm
 have hx : ∃ z:Int,x = .int z/\0<=z/\z<=9:=by
  rcases hm with rfl | rfl | rfl
  ·exact ⟨_,rfl,by omega,by omega⟩
  ·exact ⟨_,rfl,by omega,by omega⟩
  ·exact ⟨_,rfl,by omega,by omega⟩
 obtain ⟨z,rfl,z1,z2⟩:=hx
 clear hm e7
 walk_at "rd"
 rename_i p8 H8 g8 e8 v8 h08 h18
 refine qU (SqL.of e8) (by omega) (by show _ < (5:Int);omega) fun x hx=>?_
 have hm:=mem_of_getElem? hx
 simp only [mem_cons,not_mem_nil,or_false] at hm
 have hx : ∃ wy:Str,x = .str wy/\Way wy:=by
  rcases hm with rfl | rfl | rfl | rfl | rfl
  ·exact ⟨_,rfl,.inl rfl⟩
  ·exact ⟨_,rfl,.inr (.inl rfl)⟩
  ·exact ⟨_,rfl,.inr (.inr (.inl rfl))⟩
  ·exact ⟨_,rfl,.inr (.inr (.inr (.inl rfl)))⟩
  ·exact ⟨_,rfl,.inr (.inr (.inr (.inr rfl)))⟩
 obtain ⟨wy,rfl,hwy⟩:=hx
 clear hm e8
 walk_at "rd"
 rename_i c3 hc3 c2 hc2 c1 hc1 pA HA gA1 eA pB HB gB eB v9 h09 h19 pC HC gC eC v10 h010 h110 pD HD gD eD v11 h011 h111
 refine qU (SqL.of eD) (by omega) (by show _ < (3:Int);omega) fun x hx=>?_
 have hm:=mem_of_getElem? hx
 simp only [mem_cons,not_mem_nil,or_false] at hm
 have hx : ∃ wd:Int,x = .int wd/\0<=wd/\wd<=40:=by
  rcases hm with rfl | rfl | rfl
  ·exact ⟨_,rfl,by omega,by omega⟩
  ·exact ⟨_,rfl,by omega,by omega⟩
  ·exact ⟨_,rfl,by omega,by omega⟩
 obtain ⟨wd,rfl,w1,w2⟩:=hx
 clear hm eD eC eB
 walk_at "rd"
 rename_i pE HE gE eE v12 h012 h112
 refine qU (SqL.of eE) (by omega) (by show _ < (4:Int);omega) fun x hx=>?_
 have hm:=mem_of_getElem? hx
 simp only [mem_cons,not_mem_nil,or_false] at hm
 have hx : ∃ y:Str,x = .str y/\zAO y:=by
  rcases hm with rfl | rfl | rfl | rfl
  ·exact ⟨_,rfl,.inl (.inr (.inl rfl))⟩
  ·exact ⟨_,rfl,.inl (.inl rfl)⟩
  ·exact ⟨_,rfl,.inl (.inr (.inr rfl))⟩
  ·exact ⟨_,rfl,.inr rfl⟩
 obtain ⟨y,rfl,hy⟩:=hx
 clear hm eE
 walk_at "rd"
 rename_i v13 h013 h113 pF HF gF eF
 exact q _ _ _ _ _ _ _ _ _ _ _ _ _ _ (by walk_at "sm") ⟨by omega,by omega,by omega,by omega,b1,b2,hsn,z1,z2,WA (by assumption),WA (by assumption),hwy,w1,w2,WA (by assumption),hy⟩ ⟨by assumption,by assumption,by assumption⟩ eF
theorem zCQ {a:List Nat} (ha:a.Pairwise (· < ·)) {s st:Int} (h0:0<=s) (h1:s < a.length) (h2:1<=st):(Xd (T a) (some s) none st).Pairwise (· < ·):=by
 have e:Builtin.Str.strSliceIndices (some s) none st (T a).length=(List.range (((a.length:Int) - s+st - 1) / st).toNat).map fun k:Nat=>(s+st*(k:Int)).toNat:=by
  have l:((T a).length:Int)=a.length:=rfl
  unfold Builtin.Str.strSliceIndices
  dsimp only
  rw [l,if_neg (show ¬ s < 0 by omega),if_pos (show st > 0 by omega),if_pos (show st > 0 by omega),Int.min_eq_left (by omega),Int.max_eq_right h0]
  unfold sliceRange
  rw [if_pos (show st > 0 by omega),if_pos h1]
 unfold Xd
 rw [e,Xr,List.pairwise_filterMap,List.pairwise_map]
 refine List.Pairwise.imp ?_ List.pairwise_lt_range
 intro i j hij b hb c hc
 obtain ⟨hi,rfl⟩:=List.getElem?_eq_some_iff.mp hb
 obtain ⟨hj,rfl⟩:=List.getElem?_eq_some_iff.mp hc
 refine (List.pairwise_iff_getElem.mp ha) _ _ hi hj ?_
 have:st*(i:Int) < st*(j:Int):=Int.mul_lt_mul_of_pos_left (by omega) (by omega)
 have p0:0<=st*(i:Int):=Int.mul_nonneg (by omega) (by omega)
 omega
def QU (H:Hp) (p:Addr) (sg:List Nat) (lo hi wd:Int) (f:Nat) (x:Str) (st:Bool):Prop:=H p=some (.tup [.str "word", .str (T sg),.int lo,.int hi,.int wd,.str (T [f]),.str x,.bl st])
structure SgD (sg:List Nat):Prop where
 s1:1<=sg.length
 s2:sg.length<=200
 up:sg.Pairwise (· < ·)
 sgn : ∀ c ∈ sg,Sgn c
structure WdR (lo hi wd:Int) (f:Nat) (x:Str):Prop where
 lo1:0<=lo
 lo2:lo<=hi
 hi2:hi<=24
 wd1:0<=wd
 wd2:wd<=40
 f:Sgn f
 x:zC4 x
def JL (K:W.Frag):Sp:=fun vs H Q _=>∃ (c o:Int),vs=[.int c,.int o,.int 0] /\ ∀ p H' sg lo hi wd f x st,zc H H'->SgD sg->WdR lo hi wd f x->QU H' p sg lo hi wd f x st->Q (.ref p) H'
include Z in
theorem XB:Has P w K mg base "_law_word_spec" 3 ["_law_cell", "_law_other", "_law_small"] (JL K):=by
 refine xz Z.kn Z.bB (l3N (by intros;rfl)) fun fq fd F=>?_
 refine F.ok z8 (fun vs H Q E=>?_) (fun _ _ _ s H vs Q E hr h=>?_)
 ·walk_at "ln"
 obtain ⟨c,o,rfl,q⟩:=h
 refine ⟨_,zD (zI (i:=3) z8.nd rfl (Or.inl rfl) (zH (zM Z) hr rfl (zA (pv 0) (zA (zB) (zA (zB) (zC))))))
  (zD (zI (i:=4) z8.nd rfl (Or.inl rfl) (zP z9 (zB) (zH (zM Z) hr rfl (zA (pv 0) (zA (zB) (zA (zB) (zC)))))))
  (zD (zI (i:=5) z8.nd rfl (Or.inl rfl) (zt xl (zBG (ye (jw Z) hr rfl) (zx (pv 3)) (qL) (pv 4)) (qL) (zx (zP z9 (zB) (zH (zM Z) hr rfl (zA (pv 0) (zA (zB) (zA (za zi (zd (zA (zB) (zA (zB) (zC)))) (pv 2) (fun _ _=>rfl)) (zC)))))))))
  (zD (zI (i:=6) z8.nd rfl (Or.inl rfl) (zH (zM Z) hr rfl (zA (pv 1) (zA (zB) (zA (za zi (zd (zA (zB) (zA (zB) (zC)))) (pv 2) (fun _ _=>rfl)) (zC))))))
  (zD (zI (i:=7) z8.nd rfl (Or.inl rfl) (zR (ZF rfl) Z.av rfl VB (zA (zB) (zA (zP z9 (pv 6) (zH (zM Z) hr rfl (zA (pv 1) (zA (zB) (zA (za zi (zd (zA (zB) (zA (zB) (zC)))) (pv 2) (fun _ _=>rfl)) (zC)))))) (zC)))))
  (zD (zI (i:=8) z8.nd rfl (Or.inl rfl) (za zi (zd (zA (za kG (pv 5) (zB) (fun _ _=>rfl)) (zA (zH (qx Z) hr rfl (zA (pv 1) (zA (zB) (zC)))) (zA (za kG (pv 5) (Zk xr (zB)) (fun _ _=>rfl)) (zC))))) (zH (zM Z) hr rfl (zA (pv 1) (zA (zB) (zA (zB) (zC))))) (fun _ _=>rfl)))
  (zD (zI (i:=9) z8.nd rfl (Or.inl rfl) (za zi (zd (zA (zB) (zA (zP z9 (zB) (zH (zM Z) hr rfl (zA (pv 1) (zA (zB) (zA (za zi (zd (zA (zB) (zA (zB) (zC)))) (pv 2) (fun _ _=>rfl)) (zC)))))) (zA (pv 7) (zC))))) (zH (zM Z) hr rfl (zA (pv 1) (zA (zB) (zA (zB) (zC))))) (fun _ _=>rfl)))
  (zD (zI (i:=10) z8.nd rfl (Or.inl rfl) (za zi (zd (zA (zZ) (zA (zZ) (zA (zZ) (zC))))) (zH (zM Z) hr rfl (zA (pv 1) (zA (zB) (zA (zB) (zC))))) (fun _ _=>rfl)))
  (zF (zQ (zo (zA (zE (l:=[119,111,114,100]) (by decide +kernel)) (zA (pv 5) (zA (pv 6) (zA (pv 7) (zA (pv 9) (zA (pv 8) (zA (pv 10) (zA (zy qJ (zH (zM Z) hr rfl (zA (pv 1) (zA (zB) (zA (zB) (zC))))) (zB) (zS _)) (zC) zAY) qS) qS) qS) qS) qS) qS) zY))))))))))),?_⟩
 walk_at "st"
 walk_at "rd"
 rename_i v1 h01 h11 v0 h00 h10 l hl al pl bl
 have pa:=zCQ pl (s:=v1) (st:=1+v0) h01 (by omega) (by omega)
 obtain ⟨p1,p2,p3⟩:=zAP (a:=l) (s:=v1) (st:=1+v0) h01 (by omega) (by omega)
 refine ⟨T l,rfl,by omega,by show l.length<=sizeLine;rw [hl];decide,Nat.le_of_lt (jl (by omega)),fun y hy=>?_⟩
 have hy' : ∃ z:List Nat,y=T z/\0 < z.length/\z.length<=200/\(∀ c ∈ z,Sgn c)/\z.Pairwise (· < ·):=by
  rcases hy with rfl | ⟨_,rfl⟩
  ·exact ⟨_,rfl,List.length_pos_iff.mpr p1,by omega,fun c hc=>al c (p2 c hc),pa⟩
  ·exact ⟨l,rfl,by omega,by omega,al,pl⟩
 obtain ⟨z,rfl,z1,z2,z3,z4⟩:=hy'
 clear hy p1 p2 p3 pa
 walk_at "rd"
 rename_i q3 H3 g3 e3 v3 h03 h13 q2 H2 g2 e2 v2 h02 h12 q1 H1 g1 e1 v9 h09 h19 k0 hk0 c0 hc0 qf Hf gf ef vf hf0 hf1
 have s1:0 < (z.take (1+v3).toNat).length:=by rw [length_take];omega
 have s2:(z.take (1+v3).toNat).length<=200:=by rw [length_take];omega
 have s3 : ∀ c ∈ z.take (1+v3).toNat,Sgn c:=fun c hc=>z3 c (mem_of_mem_take hc)
 have s4:(z.take (1+v3).toNat).Pairwise (· < ·):=List.Pairwise.sublist (List.take_sublist _ _) z4
 generalize z.take (1+v3).toNat=sg at ef s1 s2 s3 s4 ⊢
 have sm : ∀ k,k < sg.length->Sgn (sg.getD k 0):=fun k hk=>s3 _ (by rw [getD_eq_getElem?_getD,getElem?_eq_getElem hk];exact getElem_mem _)
 refine qU (SqL.of ef) (by omega) (by show _ < (3:Int);omega) fun x hx=>?_
 have hm:=mem_of_getElem? hx
 simp only [mem_cons,not_mem_nil,or_false] at hm
 have hx : ∃ f:Nat,x = .str (T [f])/\Sgn f:=by
  rcases hm with rfl | rfl | rfl
  ·exact ⟨_,rfl,sm _ s1⟩
  ·exact ⟨_,rfl,hc0⟩
  ·exact ⟨_,rfl,sm _ (by omega)⟩
 obtain ⟨f,rfl,hf⟩:=hx
 clear hm ef
 walk_at "rd"
 rename_i q8 H8 g8 e8 v8 h08 h18 q7 H7 g7 e7 v7 h07 h17
 refine qU (SqL.of e7) (by omega) (by show _ < (3:Int);omega) fun x hx=>?_
 have hm:=mem_of_getElem? hx
 simp only [mem_cons,not_mem_nil,or_false] at hm
 have hx : ∃ wd:Int,x = .int wd/\0<=wd/\wd<=40:=by
  rcases hm with rfl | rfl | rfl
  ·exact ⟨_,rfl,by omega,by omega⟩
  ·exact ⟨_,rfl,by omega,by omega⟩
  ·exact ⟨_,rfl,by omega,by omega⟩
 obtain ⟨wd,rfl,hw0,hw1⟩:=hx
 clear hm e7
 walk_at "rd"
 rename_i q6 H6 g6 e6 v6 h06 h16
 refine qU (SqL.of e6) (by omega) (by show _ < (3:Int);omega) fun x hx=>?_
 have hm:=mem_of_getElem? hx
 simp only [mem_cons,not_mem_nil,or_false] at hm
 have hx : ∃ y:Str,x = .str y/\zC4 y:=by
  rcases hm with rfl | rfl | rfl
  ·exact ⟨_,rfl,.inl rfl⟩
  ·exact ⟨_,rfl,.inr (.inl rfl)⟩
  ·exact ⟨_,rfl,.inr (.inr rfl)⟩
 obtain ⟨y,rfl,hy⟩:=hx
 clear hm e6
 walk_at "rd"
 rename_i v5 h05 h15 q5 H5 g5 e5
 exact q _ _ sg v2 k0 wd f y _ (by walk_at "sm") ⟨s1,s2,s4,s3⟩ ⟨h02,by omega,by omega,hw0,hw1,hf,hy⟩ e5
local macro_rules | `(tactic| walk_at "rdc")=>`(tactic| ((with_reducible refine' zF2 ?h1 ?h2 ?_);(case h1|h2=>omega);intro h0' h1'))
def Sg1 (c:Nat):Prop:=c ∈ Lt Q6
structure Nms (ns:List (List Nat)):Prop where
 len : ∀ t ∈ ns,1<=t.length/\t.length<=12
 sgn : ∀ t ∈ ns,∀ c ∈ t,Sg1 c
 nd:ns.Nodup
def yd (K:W.Frag):Sp:=fun vs H Q _=>∃ (c n:Int),vs=[.int c,.int n]/\1<=n/\n<=12 /\ ∀ p ns H',zc H H'->(ns.length:Int)=n->Nms ns->H' p=some (.lst (tsV ns))->Q (.ref p) H'
theorem fl1 : ∀ cs:List Nat,(cs.map fun c=>[c]).flatten=cs
 | []=>rfl
 | c::cs=>by rw [map_cons,flatten_cons,fl1 cs];rfl
def Yc (way mn sz st v:Int) (S B:List Nat) (k:Nat):List Nat:=if way=0 then B.take (k+1) else if way=1 then B.take mn.toNat++[S.getD ((v+k*st) % 93).toNat 0]++(B.take sz.toNat).drop (mn+1).toNat else B.take k++[48]
theorem K9 {i:Int} (h0:0<=i) (h1:i<=xs.length):YV xs (some i) none=xs.drop i.toNat:=by
 obtain ⟨k,rfl⟩:=Int.eq_ofNat_of_zero_le h0
 unfold YV
 rw [HT.sIx_nat,HT.sIx_none,Nat.min_eq_left (by omega),List.take_of_length_le (by rw [length_drop];omega)];rfl
theorem WP {i:Int} (h0:0<=i) (h1:i<=xs.length):YV xs none (some i)=xs.take i.toNat:=by
 obtain ⟨k,rfl⟩:=Int.eq_ofNat_of_zero_le h0
 unfold YV
 rw [HT.sIx_nat,HT.sIx_none,Nat.min_eq_left (by omega)];rfl
section
variable {way mn sz st v : Int} {S B : List Nat} (hS : S.length = 93) (hB : B.length = 12) (sg : ∀ c ∈ S, Sg1 c) (bs : ∀ c ∈ B, c ∈ S) (up : S.Pairwise (· < ·)) (m0 : 0 <= mn) (m1 : mn < sz) (z1 : sz <= 12) (t0 : 1 <= st) (t1 : st <= 8)
include hB m0 m1 z1 in
theorem zJy {k:Nat} (hk:k < 12):1<=(Yc way mn sz st v S B k).length/\(Yc way mn sz st v S B k).length<=12:=by
 unfold Yc
 split
 ·rw [length_take,hB];omega
 ·split
  ·simp only [length_append,length_take,length_drop,length_cons,length_nil,hB];omega
  ·simp only [length_append,length_take,length_cons,length_nil,hB];omega
include hS sg bs in
theorem zIU {k:Nat} : ∀ c ∈ Yc way mn sz st v S B k,Sg1 c:=by
 have s48:Sg1 48:=by unfold Sg1;decide +kernel
 have sB : ∀ c ∈ B,Sg1 c:=fun c hc=>sg c (bs c hc)
 have a0:=emod_nonneg (v+(k:Int)*st) (show (93:Int)≠0 by decide)
 have a1:=emod_lt_of_pos (v+(k:Int)*st) (show (0:Int) < 93 by decide)
 intro c hc
 unfold Yc at hc
 split at hc
 ·exact sB c (mem_of_mem_take hc)
 ·split at hc
  ·rcases List.mem_append.mp hc with hc | hc
   ·rcases List.mem_append.mp hc with hc | hc
    ·exact sB c (mem_of_mem_take hc)
    ·rw [List.mem_singleton.mp hc,getD_eq_getElem?_getD,getElem?_eq_getElem (by omega)]
     exact sg _ (getElem_mem _)
   ·exact sB c (mem_of_mem_take (mem_of_mem_drop hc))
  ·rcases List.mem_append.mp hc with hc | hc
   ·exact sB c (mem_of_mem_take hc)
   ·rw [List.mem_singleton.mp hc];exact s48
include hS hB up t0 t1 in
theorem zAv (hij:i < j) (hj:j < 12):Yc way mn sz st v S B i≠Yc way mn sz st v S B j:=by
 intro e
 unfold Yc at e
 split at e
 ·have:=congrArg List.length e
  rw [length_take,length_take,hB] at this;omega
 ·split at e
  ·rw [append_assoc,append_assoc] at e
   have e2:=(List.cons.injEq .. ▸ List.append_cancel_left e:_/\_).1
   have a0:=emod_nonneg (v+(i:Int)*st) (show (93:Int)≠0 by decide)
   have a1:=emod_lt_of_pos (v+(i:Int)*st) (show (0:Int) < 93 by decide)
   have b0:=emod_nonneg (v+(j:Int)*st) (show (93:Int)≠0 by decide)
   have b1:=emod_lt_of_pos (v+(j:Int)*st) (show (0:Int) < 93 by decide)
   have ne:(v+(i:Int)*st) % 93≠(v+(j:Int)*st) % 93:=by
    obtain ⟨d,rfl⟩ : ∃ d:Nat,j=i+d:=⟨j - i,by omega⟩
    have ed:((i+d:Nat):Int)*st=(i:Int)*st+(d:Int)*st:=by rw [Int.natCast_add,Int.add_mul]
    have d1:1*1<=(d:Int)*st:=Int.mul_le_mul (by omega) t0 (by decide) (by omega)
    have d2:(d:Int)*st<=11*8:=Int.mul_le_mul (by omega) t1 (by omega) (by decide)
    rw [ed]
    omega
   generalize (v+(i:Int)*st) % 93=a at *
   generalize (v+(j:Int)*st) % 93=b at *
   rw [getD_eq_getElem?_getD,getElem?_eq_getElem (show a.toNat < S.length by omega),getD_eq_getElem?_getD,getElem?_eq_getElem (show b.toNat < S.length by omega)] at e2
   have e3:S[a.toNat]'(by omega)=S[b.toNat]'(by omega):=e2
   have pw:=List.pairwise_iff_getElem.mp up
   rcases Nat.lt_trichotomy a.toNat b.toNat with h | h | h
   ·have:=pw a.toNat b.toNat (by omega) (by omega) h;omega
   ·omega
   ·have:=pw b.toNat a.toNat (by omega) (by omega) h;omega
  ·have:=congrArg List.length e
   simp only [length_append,length_take,length_cons,length_nil,hB] at this
   omega
end
include Z in
theorem JI:Has P w K mg base "_law_near_names" 2 ["_law_cell", "_law_many"] (yd K):=by
 refine xz Z.kn Z.bC (l2N (by intros;rfl)) fun fq fd F=>?_
 refine F.ok zk (fun vs H Q E=>?_) (fun _ _ _ s H vs Q E hr h=>?_)
 ·walk_at "ln"
 obtain ⟨c,n,rfl,h1,h2,q⟩:=h
 refine ⟨_,zD (zI (i:=2) zk.nd rfl (Or.inr rfl) (zt xl (ye (jw Z) hr rfl) (zx (zB)) (qL)))
  (zD (zI (i:=3) zk.nd rfl (Or.inl rfl) (yx PySem.F.plainAttrs_str PySem.F.slot_str_join PySem.F.type_str_join Z2 (zE (l:=[]) (by decide +kernel)) (zA (yq (cl:=[("_law_signs", s.heap.objs.size+1+1),("_law_cell", s.heap.objs.size+1+0)]) (fr:=["_law_cell", "_law_signs"]) (is:=[0,2]) rfl rfl ⟨rfl,⟨rfl,trivial⟩⟩ rfl ⟨⟨rfl,rfl,Or.inl rfl⟩,⟨⟨rfl,rfl,Or.inl rfl⟩,trivial⟩⟩ (by decide) (by decide +kernel) rfl (by decide +kernel) rfl (xp rfl Z.ap (zA (zB) (zC))) (fun _ _ _ _=>j7) (fun _ _ _ _=>za kG (pv 2) (zH (zM Z :) hr rfl (zA (pv 1) (zA (zP z9 (zB) (pv 0)) (zA (zB) (zC))))) (fun _ _=>rfl))) (zC))))
  (zD (zI (i:=4) zk.nd rfl (Or.inl rfl) (zH (zM Z :) hr rfl (zA (pv 0) (zA (zB) (zA (zB) (zC))))))
  (zD (zI (i:=5) zk.nd rfl (Or.inl rfl) (zH (zM Z :) hr rfl (zA (pv 0) (zA (zB) (zA (zB) (zC))))))
  (zD (zI (i:=6) zk.nd rfl (Or.inl rfl) (zP z9 (zB) (zH (zM Z :) hr rfl (zA (pv 0) (zA (zB) (zA (zB) (zC)))))))
  (zD (zI (i:=7) zk.nd rfl (Or.inl rfl) (za zi (zd (zA (zB) (zA (zB) (zA (zB) (zA (zB) (zA (zB) (zA (zB) (zC)))))))) (zH (zM Z :) hr rfl (zA (pv 0) (zA (zB) (zA (zB) (zC))))) (fun _ _=>rfl)))
  (zD (zI (i:=8) zk.nd rfl (Or.inl rfl) (zd (zC)))
  (zD (J8 PassesOwn.never rfl (xp rfl Z.ap (zA (pv 1) (zC))) (qF (i:=9) zk.nd rfl (Or.inl rfl)) (zD (zI (i:=10) zk.nd rfl (Or.inl rfl) (za kG (pv 2) (zP qE (zP z9 (zH (zM Z :) hr rfl (zA (pv 0) (zA (zB) (zA (zB) (zC))))) (zP jk (pv 9) (pv 7))) (zB)) (fun _ _=>rfl)))
  (zF (z5 (zT qJ (pv 4) (zB) (zS _)) (zF (jE (yx PySem.F.plainAttrs_list PySem.F.slot_list_append PySem.F.type_list_append yb (pv 8) (zA (zt xl (pv 3) (qL) (zx (zP z9 (pv 9) (zB)))) (zC))))) (zF (z5 (zT qJ (pv 4) (zB) (zS _)) (zF (jE (yx PySem.F.plainAttrs_list PySem.F.slot_list_append PySem.F.type_list_append yb (pv 8) (zA (zP jR (zP jR (zt xl (pv 3) (qL) (zx (zR (ZF rfl) Z.av rfl VB (zA (pv 5) (zA (zP k7 (pv 6) (zB)) (zC)))))) (pv 10)) (zt xl (pv 3) (zx (zP z9 (zR (ZF rfl) Z.av rfl VB (zA (pv 5) (zA (zP k7 (pv 6) (zB)) (zC)))) (zB))) (zx (pv 6)))) (zC))))) (zF (jE (yx PySem.F.plainAttrs_list PySem.F.slot_list_append PySem.F.type_list_append yb (pv 8) (zA (zP jR (zt xl (pv 3) (qL) (zx (pv 9))) (zE (l:=[48]) (by decide +kernel))) (zC)))))))))))
  (zD (zI (i:=11) zk.nd rfl (Or.inl rfl) (zH (zM Z :) hr rfl (zA (pv 0) (zA (zB) (zA (pv 1) (zC))))))
  (zF (zQ (zP jX (zt yU (pv 8) (zx (pv 11)) (qL)) (zt yU (pv 8) (qL) (zx (pv 11)))))))))))))),?_⟩
 walk_at "st"
 walk_at "rd"
 rename_i l hl al pl bl
 have hd:(l.drop (Int.toNat 1)).length=93:=by rw [length_drop,hl];rfl
 have sg1 : ∀ c ∈ l.drop (Int.toNat 1),Sg1 c:=fun c hc=>(al c (mem_of_mem_drop hc)).elim (fun z=>absurd z (bl c hc)) id
 have pd:(l.drop (Int.toNat 1)).Pairwise (· < ·):=List.Pairwise.sublist (List.drop_sublist _ _) pl
 generalize l.drop (Int.toNat 1)=S at *
 clear al pl bl hl
 refine Kw (by decide) (by decide) (qz (by decide)) (fun i ys H'=>H'=H /\ ∃ cs:List Nat,cs.length=i/\(∀ c ∈ cs,c ∈ S)/\ys=tsV (cs.map fun c=>[c])) ⟨rfl,[],rfl,(by intro c h;cases h),rfl⟩ (fun i ys H' _ zz=>by obtain ⟨_,cs,h,_,e⟩:=zz;rw [e,length_map,length_map];omega) ?_ ?_
 ·rintro i ys H' hi ⟨rfl,cs,l1,l2,rfl⟩
  walk_at "rd"
  rename_i h0' h1'
  refine nxC hi ⟨rfl,cs++[S.getD (pk c (70+(0+(i:Int))) 93).toNat 0],by rw [length_append,l1];rfl,fun c hc=>?_,?_⟩
  ·rcases List.mem_append.mp hc with hc | hc
   ·exact l2 c hc
   ·rw [List.mem_singleton.mp hc,getD_eq_getElem?_getD,getElem?_eq_getElem (by omega)];exact getElem_mem _
  ·unfold tsV
   rw [map_append,map_append];rfl
 ·rintro ys H' ⟨rfl,B,l1,l2,rfl⟩ p H2 g2 e2
  have lB:B.length=12:=l1
  walk_at "rd"
  refine XI e2 (by rw [fl1,length_map];show B.length+B.length*0<=_;omega) ?_
  rw [show Lt (T [])=[] from rfl,zHa,fl1]
  walk_at "rd"
  rename_i w0 w1 a0 a1 z0 z1 p3 H3 g3 e3 s0 s1
  refine qU (SqL.of e3) s0 (by show _ < (6:Int);omega) fun y hy=>?_
  have hm:=mem_of_getElem? hy
  simp only [mem_cons,not_mem_nil,or_false] at hm
  have hx : ∃ st:Int,y = .int st/\1<=st/\st<=8:=by
   rcases hm with rfl | rfl | rfl | rfl | rfl | rfl
   all_goals exact ⟨_,rfl,by decide,by decide⟩
  obtain ⟨st,rfl,st1,st2⟩:=hx
  clear hm e3 hy
  refine VI ?_
  refine Wz (zDb (zDU (Ki (KM (by decide) fun L hL=>?_))))
  generalize hway:pk c 83 3=way at *
  generalize hat:pk c 84 12=at0 at *
  generalize hsz:1+pk c 85 12=sz at *
  have z2:1<=sz/\sz<=12:=by omega
  obtain ⟨mn,hmn⟩ : ∃ mn:Int,mn=if sz - 1 < at0 then sz - 1 else at0:=⟨_,rfl⟩
  have mn0:0<=mn/\mn < sz:=by rw [hmn];split <;> omega
  walk_at "rd"
  refine Jv (by omega) (by omega) (fun i σ H'=>H'=upd H3 L (.lst (tsV ((List.range i).map (Yc way mn sz st (pk c 87 93) S B)))) /\ ∃ r1 r2:Option V,σ=[some (.int c),some (.int n),some (.str (T S)),some (.str (T B)),some (.int way),some (.int at0),some (.int sz),some (.int st),some (.ref L),r1,r2,none]) ⟨rfl,none,none,rfl⟩ ?_ ?_
  ·rintro i σ H4 hlt ⟨rfl,r1,r2,rfl⟩
   have il:(i:Int) < n:=by omega
   have nn:=emod_nonneg (pk c 87 93+(i:Int)*st) (show (93:Int)≠0 by decide)
   have nn2:=emod_lt_of_pos (pk c 87 93+(i:Int)*st) (show (0:Int) < 93 by decide)
   walk_at "rd"
   ·rename_i v0 v1 hc
    refine ZG zK (jl (by unfold tsV;rw [length_map,length_map,length_range];omega)) ?_
    rw [qo]
    walk_at "rd"
    refine ⟨?_,_,_,rfl⟩
    have e:Yc way mn sz st (pk c 87 93) S B i=B.take (0+(i:Int)+1).toNat:=by
     unfold Yc;rw [if_pos hc,show (0+(i:Int)+1).toNat=i+1 by omega]
    rw [range_succ,map_append]
    unfold tsV
    rw [map_append,map_cons,map_cons,map_nil,map_nil,e]
   ·rename_i v0 v1 hc hc2 k1 hk1 k2 hk2
    refine ZG zK (jl (by unfold tsV;rw [length_map,length_map,length_range];omega)) ?_
    rw [qo]
    walk_at "rd"
    refine ⟨?_,_,_,rfl⟩
    have e:Yc way mn sz st (pk c 87 93) S B i=B.take k1.toNat++[S.getD ((pk c 87 93+(0+(i:Int))*st) % 93).toNat 0]++(B.take sz.toNat).drop (k2+1).toNat:=by
     unfold Yc;rw [if_neg hc,if_pos hc2,show k1=mn by rw [hmn];split <;> omega,show k2=mn by rw [hmn];split <;> omega,show (0:Int)+(i:Int)=(i:Int) by omega]
    rw [range_succ,map_append]
    unfold tsV
    rw [map_append,map_cons,map_cons,map_nil,map_nil,e]
   ·rename_i v0 v1 hc hc2
    refine ZG zK (jl (by unfold tsV;rw [length_map,length_map,length_range];omega)) ?_
    rw [qo]
    walk_at "rd"
    refine ⟨?_,_,_,rfl⟩
    have e:Yc way mn sz st (pk c 87 93) S B i=B.take (0+(i:Int)).toNat++[48]:=by
     unfold Yc;rw [if_neg hc,if_neg hc2,show (0+(i:Int)).toNat=i by omega]
    rw [range_succ,map_append]
    unfold tsV
    rw [map_append,map_cons,map_cons,map_nil,map_nil,e]
  ·rintro σ H4 ⟨rfl,r1,r2,rfl⟩
   walk_at "rd"
   rename_i t0 t1 p5 H5 g5 e5 p6 H6 g6 e6
   generalize pk c 88 n=tn at *
   have ll:(tsV ((List.range n.toNat).map (Yc way mn sz st (pk c 87 93) S B))).length=n.toNat:=by unfold tsV;rw [length_map,length_map,length_range]
   rw [K9 t0 (by omega)] at e5
   rw [WP t0 (by omega)] at e6
   have okN:Nms ((List.range n.toNat).map (Yc way mn sz st (pk c 87 93) S B)):=by
    refine ⟨fun t ht=>?_,fun t ht=>?_,?_⟩
    ·obtain ⟨k,hk,rfl⟩:=List.mem_map.mp ht
     exact zJy lB mn0.1 mn0.2 z2.2 (by have:=List.mem_range.mp hk;omega)
    ·obtain ⟨k,hk,rfl⟩:=List.mem_map.mp ht
     exact zIU hd sg1 l2
    ·unfold List.Nodup
     rw [List.pairwise_map]
     refine List.Pairwise.imp_of_mem ?_ List.pairwise_lt_range
     intro i j hi hj hij
     exact zAv hd lB pd st1 st2 hij (by have:=List.mem_range.mp hj;omega)
   have lN:((List.range n.toNat).map (Yc way mn sz st (pk c 87 93) S B)).length=n.toNat:=by rw [length_map,length_range]
   generalize (List.range n.toNat).map (Yc way mn sz st (pk c 87 93) S B)=N at *
   have e5':H5 p5=some (.lst (tsV (N.drop tn.toNat))):=by rw [e5];unfold tsV;rw [List.map_drop]
   have e6':H6 p6=some (.lst (tsV (N.take tn.toNat))):=by rw [e6];unfold tsV;rw [map_take]
   have gA:zc H3 (upd H3 L (.lst (tsV N))):=qO (zc.refl _) hL
   refine Qg (g6.at e5') e6' (qz (by unfold tsV;rw [length_map,length_map,length_drop,length_take];omega)) fun p7 H7 g7 e7=>?_
   have pm:(N.drop tn.toNat++N.take tn.toNat).Perm N:=List.perm_append_comm.trans (by rw [List.take_append_drop])
   refine q p7 (N.drop tn.toNat++N.take tn.toNat) H7 (g2.trans (g3.trans (gA.trans (g5.trans (g6.trans g7))))) (by rw [pm.length_eq,lN];omega) ⟨fun t ht=>okN.len t (pm.mem_iff.mp ht),fun t ht=>okN.sgn t (pm.mem_iff.mp ht),pm.nodup_iff.mpr okN.nd⟩ ?_
   rw [e7];unfold tsV;rw [map_append]
theorem zH7 {n:Int} (h1:1<=n) (h2:n<=12) (q : ∀ p ns H',zc H H'->(ns.length:Int)=n->Nms ns->H' p=some (.lst (tsV ns))->Q (.ref p) H'):yd K ([.int c,.int n]++[]) H Q E:=⟨c,n,rfl,h1,h2,q⟩
local macro_rules | `(tactic| walk_at "rdc")=>`(tactic| ((with_reducible refine' zEe ?h1 ?h2 ?_);(case h1|h2=>omega);intro v' h0' h1'))
def Xf (H:Hp) (p L:Addr) (wd:Int) (f:Nat) (x:Str) (st:Bool):Prop:=H p=some (.tup [.str "choice", .ref L,.int wd,.str (T [f]),.str x,.bl st])
structure WdC (wd:Int) (f:Nat) (x:Str):Prop where
 wd1:0<=wd
 wd2:wd<=40
 f:Sgn f
 x:zC4 x
def Z7 (K:W.Frag):Sp:=fun vs H Q _=>∃ (c o:Int),vs=[.int c,.int o,.int 0] /\ ∀ p L ns H' wd f x st,zc H H'->Nms ns->1<=ns.length->ns.length<=12->WdC wd f x->Xf H' p L wd f x st->H' L=some (.lst (tsV ns))->Q (.ref p) H'
include Z in
theorem Qh:Has P w K mg base "_law_choice_spec" 3 ["_law_cell", "_law_other", "_law_small"] (Z7 K):=by
 refine xz Z.kn Z.bD (l3N (by intros;rfl)) fun fq fd F=>?_
 refine F.ok qj (fun vs H Q E=>?_) (fun _ _ _ s H vs Q E hr h=>?_)
 ·walk_at "ln"
 obtain ⟨c,o,rfl,q⟩:=h
 refine ⟨_,zD (zI (i:=3) qj.nd rfl (Or.inl rfl) (zH (JI Z) hr rfl (zA (pv 0) (zA (zP z9 (zB) (zH (zM Z) hr rfl (zA (pv 1) (zA (zB) (zA (za zi (zd (zA (zB) (zA (zB) (zC)))) (pv 2) (fun _ _=>rfl)) (zC)))))) (zC)))))
  (zD (zI (i:=4) qj.nd rfl (Or.inl rfl) (za zi (zd (zA (za kG (za zi (pv 3) (zB) (fun _ _=>rfl)) (Zk xr (zB)) (fun _ _=>rfl)) (zA (zH (qx Z) hr rfl (zA (pv 1) (zA (zB) (zC)))) (zA (zE (l:=[48]) (by decide +kernel)) (zC))))) (zH (zM Z) hr rfl (zA (pv 1) (zA (zB) (zA (zB) (zC))))) (fun _ _=>rfl)))
  (zD (zI (i:=5) qj.nd rfl (Or.inl rfl) (za zi (zd (zA (zB) (zA (zP z9 (zB) (zH (zM Z) hr rfl (zA (pv 1) (zA (zB) (zA (za zi (zd (zA (zB) (zA (zB) (zC)))) (pv 2) (fun _ _=>rfl)) (zC)))))) (zA (zP z9 (zR jG Z.ao rfl qy (zA (za zi (pv 3) (Zk xr (zB)) (fun _ _=>rfl)) (zC))) (zB)) (zC))))) (zH (zM Z) hr rfl (zA (pv 1) (zA (zB) (zA (zB) (zC))))) (fun _ _=>rfl)))
  (zD (zI (i:=6) qj.nd rfl (Or.inl rfl) (za zi (zd (zA (zZ) (zA (zZ) (zA (zZ) (zC))))) (zH (zM Z) hr rfl (zA (pv 1) (zA (zB) (zA (zB) (zC))))) (fun _ _=>rfl)))
  (zF (zQ (zo (zA (zE (l:=[99,104,111,105,99,101]) (by decide +kernel)) (zA (pv 3) (zA (pv 5) (zA (pv 4) (zA (pv 6) (zA (zy qJ (zH (zM Z) hr rfl (zA (pv 1) (zA (zB) (zA (zB) (zC))))) (zB) (zS _)) (zC))))))))))))),?_⟩
 walk_at "st"
 walk_at "rd"
 rename_i p1 H1 g1 e1 v1 a0 a1
 refine zH7 (by omega) (by omega) fun L ns H2 g2 l2 ok e2=>?_
 have n1:1<=ns.length:=by omega
 have n12:ns.length<=12:=by omega
 have m0:ns.getD 0 [] ∈ ns:=by rw [getD_eq_getElem?_getD,getElem?_eq_getElem (by omega)];exact getElem_mem _
 have mL:ns.getD (ns.length - 1) [] ∈ ns:=by rw [getD_eq_getElem?_getD,getElem?_eq_getElem (by omega)];exact getElem_mem _
 have k0:=ok.len _ m0
 have kL:=ok.len _ mL
 have tl:(tsV ns).length=ns.length:=length_map _
 walk_at "rd"
 have sL:Sgn ((ns.getD 0 []).getD ((ns.getD 0 []).length - 1) 0):=.inr (ok.sgn _ m0 _ (by rw [getD_eq_getElem?_getD (l:=ns.getD 0 []),getElem?_eq_getElem (by omega)];exact getElem_mem _))
 walk_at "rd"
 rename_i c5 s5 p3 H3 g3 e3 v3 b0 b1
 refine qU (SqL.of e3) b0 (by show _ < (3:Int);omega) fun y hy=>?_
 have hm:=mem_of_getElem? hy
 simp only [mem_cons,not_mem_nil,or_false] at hm
 have hx : ∃ f:Nat,y = .str (T [f])/\Sgn f:=by
  rcases hm with rfl | rfl | rfl
  ·exact ⟨_,rfl,sL⟩
  ·exact ⟨_,rfl,s5⟩
  ·exact ⟨_,rfl,.inr (by decide +kernel)⟩
 obtain ⟨f,rfl,sf⟩:=hx
 clear hm e3 hy
 have e2':=g3.at e2
 walk_at "rd"
 rename_i p4 H4 g4 e4 v4 d0 d1 p5 H5 g5 e5 v5 f0 f1
 refine qU (SqL.of e5) f0 (by show _ < (3:Int);omega) fun y hy=>?_
 have hm:=mem_of_getElem? hy
 simp only [mem_cons,not_mem_nil,or_false] at hm
 have hx : ∃ wd:Int,y = .int wd/\0<=wd/\wd<=40:=by
  rcases hm with rfl | rfl | rfl
  ·exact ⟨_,rfl,by omega,by omega⟩
  ·exact ⟨_,rfl,by omega,by omega⟩
  ·exact ⟨_,rfl,by omega,by omega⟩
 obtain ⟨wd,rfl,w0,w1⟩:=hx
 clear hm e5 hy
 walk_at "rd"
 rename_i p6 H6 g6 e6 v6 h0 h1
 refine qU (SqL.of e6) h0 (by show _ < (3:Int);omega) fun y hy=>?_
 have hm:=mem_of_getElem? hy
 simp only [mem_cons,not_mem_nil,or_false] at hm
 have hx : ∃ y':Str,y = .str y'/\zC4 y':=by
  rcases hm with rfl | rfl | rfl
  ·exact ⟨_,rfl,.inl rfl⟩
  ·exact ⟨_,rfl,.inr (.inl rfl)⟩
  ·exact ⟨_,rfl,.inr (.inr rfl)⟩
 obtain ⟨y',rfl,hy'⟩:=hx
 clear hm e6 hy
 walk_at "rd"
 rename_i v7 i0 i1 p7 H7 g7 e7
 exact q _ L ns _ wd f y' _ (by walk_at "sm") ok n1 n12 ⟨w0,w1,sf,hy'⟩ e7 (g7.at (g6.at (g5.at (g4.at e2'))))
def XS (K:W.Frag):Sp:=fun vs H Q _=>(∃ (p:Addr) (fg pl b:Int) (sn:Str) (z:Int) (m pt:Nat) (wy:Str) (wd:Int) (f:Nat) (x:Str) (st:Bool),vs=[.ref p]/\Xo H p fg pl b sn z m pt wy wd f x st/\zCZ fg pl b sn z m pt wy wd f x /\ ∀ H',zc H H'->Q (.int (jp pl (Lt sn))) H') \/
 (∃ (p:Addr) (sg:List Nat) (lo hi wd:Int) (f:Nat) (x:Str) (st:Bool),vs=[.ref p]/\QU H p sg lo hi wd f x st/\Q (.int lo) H) \/
 (∃ (p L:Addr) (ns:List (List Nat)) (wd:Int) (f:Nat) (x:Str) (st:Bool),vs=[.ref p]/\Xf H p L wd f x st/\H L=some (.lst (tsV ns))/\1<=ns.length/\ns.length<=12/\(∀ t ∈ ns,t.length<=12) /\ ∀ (H':Hp),zc H H'->Q (.int (Vz ns)) H')
open PyProof.Rows in
theorem Jj (f:Nat->Int) : ∀ k,argBest (fun i j=>decide (f i < f j)) k<=k /\ ∀ i,i<=k->f (argBest (fun i j=>decide (f i < f j)) k)<=f i
 | 0=>⟨Nat.le_refl _,fun i hi=>by rw [show i=0 by omega];exact Int.le_refl _⟩
 | k+1=>by
  obtain ⟨h1,h2⟩:=Jj f k
  rw [argBest]
  split
  ·rename_i hc
   have hc':=of_decide_eq_true hc
   refine ⟨Nat.le_refl _,fun i hi=>?_⟩
   rcases lt_or_ge i (k+1) with q | q
   ·have:=h2 i (by omega);omega
   ·rw [show i=k+1 by omega];exact Int.le_refl _
  ·rename_i hc
   have hc':=fun q=>hc (decide_eq_true q)
   refine ⟨by omega,fun i hi=>?_⟩
   rcases lt_or_ge i (k+1) with q | q
   ·exact h2 i (by omega)
   ·rw [show i=k+1 by omega];exact Int.not_lt.mp hc'
theorem Zu : ∀ {ks:List Int} {its:List Value},qM (ks.map V.int) its -> ∀ i v,its[i]? = some v -> ∃ t,v=Value.int (ks.getD i 0) t
 | [],_,.nil,i,v,e=>by simp at e
 | _::_,_,.cons r rr,0,v,e=>by
  obtain ⟨t,rfl⟩:=r
  simp at e
  exact ⟨t,e.symm⟩
 | _::ks,_,.cons r rr,i+1,v,e=>by
  have e':_=some v:=e
  rw [List.getElem?_cons_succ] at e'
  obtain ⟨t,h⟩:=Zu rr i v e'
  exact ⟨t,by rw [List.getD_cons_succ];exact h⟩
def zKr (K:W.Frag):List V->Hp->VK->Prop:=fun xs H Q=>∃ p ks,xs=[.ref p]/\SqL K H p (ks.map V.int)/\ks≠[] /\ ∀ k,k ∈ ks->(∀ u ∈ ks,k<=u)->Q (.int k) H
open PyProof.Rows in
variable {X:Cx}
theorem zCn (hc:X.calm=true):jC X (.builtin "min") (zKr X.K):=by
 intro pins s σ H xs us Q I r h
 obtain ⟨pp,ks,rfl,hq,hne,q⟩:=h
 obtain ⟨u,rfl,rx⟩:=Jm r
 cases rx
 obtain ⟨its,rv,pl,hz⟩:=I.list hq
 have ln:its.length=ks.length:=by have:=rv.length;rw [length_map] at this;omega
 have pos0:0 < ks.length:=List.length_pos_iff.mpr hne
 refine call_min_walk (wpAny_pyIter_list pl.isList ?_)
 have nI:pp≠s.heap.objs.size:=fun e=>by
  obtain ⟨o,n,g,_⟩:=pl
  have:=Heap.lt_size g
  rw [e] at this;exact lt_irrefl _ this
 have W:=Yf (P':=fun i v=>∃ t,v=Value.int (ks.getD i 0) t) (Walks.list (prog:=X.prog) (w:=X.w) (A:=X.A.in1) (I.ok.hd hc) s.heap.objs.size pp nI its.toArray) (fun i v e=>Zu rv i v (by rw [<- List.getElem?_toArray];exact e))
 have szs:its.toArray.size=ks.length:=by simp [ln]
 refine ⟨_,_,_,_,_,_,fun i j=>decide (ks.getD i 0 < ks.getD j 0),rfl,W,⟨⟨_,Heap.get?_push_size _ rfl,rfl,rfl⟩,?_⟩,fun b hb=>?_,by rw [szs];exact pos0,CmpOf.ints_lt (fun i=>ks.getD i 0) (fun _ _ z=>z),fun v h' tk pv keep=>?_⟩
 ·obtain ⟨o,n,g,r⟩:=pl.isList
  exact ⟨o,Heap.get?_push_of_some _ n,g,r⟩
 ·have lt:b < s.heap.objs.size+1:=by
   rcases List.mem_cons.mp hb with e | e
   ·rw [e];exact Nat.lt_succ_self _
   ·rw [List.mem_singleton.mp e]
    obtain ⟨o,g,_⟩:=pl.isList
    exact Nat.lt_succ_of_lt (Heap.lt_size g)
  exact Nat.lt_of_lt_of_le lt (Nat.le_of_eq (Array.size_push _).symm)
 ·obtain ⟨t,rfl⟩:=pv
  obtain ⟨c1,c2⟩:=Jj (fun i=>ks.getD i 0) (its.toArray.size - 1)
  generalize argBest (fun i j=>decide (ks.getD i 0 < ks.getD j 0)) (its.toArray.size - 1)=i at c1 c2 ⊢
  have il:i < ks.length:=by omega
  have mem:ks.getD i 0 ∈ ks:=by rw [getD_eq_getElem?_getD,getElem?_eq_getElem il];exact getElem_mem il
  refine ⟨.int (ks.getD i 0),H,I.kept (t':=tk) (fun b o e=>keep b o (fun m=>?_) (Heap.get?_push_of_some _ e)),⟨t,rfl⟩,q _ mem fun u hu=>?_⟩
  ·rw [List.mem_singleton.mp m] at e
   exact lt_irrefl _ (Heap.lt_size e)
  ·obtain ⟨k,hk,rfl⟩:=List.mem_iff_getElem.mp hu
   have:=c2 k (by omega)
   rw [show ks.getD k 0=ks[k] by rw [getD_eq_getElem?_getD,getElem?_eq_getElem hk];rfl] at this
   exact this
include Z in
theorem ZW:Has P w K mg base "_law_shortest" 1 ["_law_spec"] (XS K):=by
 refine xz Z.kn Z.bE (l1N (by intros;rfl)) fun fq fd F=>?_
 refine F.ok Jd (fun vs H Q E h=>?_) (fun _ _ _ s H vs Q E hr h=>?_)
 ·obtain ⟨p,fg,pl,b,sn,z,m,pt,wy,wd,f,x,st,rfl,hp,ok,q⟩ | ⟨p,sg,lo,hi,wd,f,x,st,rfl,hp,q⟩ | ⟨p,L,ns,wd,f,x,st,rfl,hp,hL,n1,n12,nl,q⟩:=h
  all_goals rfl
 refine ⟨_,zD (z5 (zT qJ (za zl (pv 0) (zB) (fun _ _=>rfl)) (zE (l:=[110,117,109,98,101,114]) (by decide +kernel)) (zS _)) (zF (zQ (zP z9 (zP z9 (zB) (zP jk (zP z9 (za zl (pv 0) (zB) (fun _ _=>rfl)) (zB)) (qC j3 rfl Z.aw QN (zA (zy Zp (za zl (pv 0) (zB) (fun _ _=>rfl)) (zB) (zS _)) (zC))))) (qC j3 rfl Z.aw QN (zA (zy XR (za zl (pv 0) (zB) (fun _ _=>rfl)) (zo (zA (zZ) (zA (zE (l:=[98,108,97,110,107]) (by decide +kernel)) (zC)))) (by with_unfolding_all rfl)) (zC)))))) (zX))
  (zD (z5 (zT qJ (za zl (pv 0) (zB) (fun _ _=>rfl)) (zE (l:=[119,111,114,100]) (by decide +kernel)) (zS _)) (zF (zQ (za zl (pv 0) (zB) (fun _ _=>rfl)))) (zX))
  (zF (zQ (zR (zCn rfl) Z.av rfl VB (zA (yq (cl:=[]) (fr:=[]) (is:=[]) rfl rfl trivial rfl trivial (by decide) (by decide +kernel) rfl (by decide +kernel) rfl (y0 (za zl (pv 0) (zB) (fun _ _=>rfl))) (fun _ _ _ _=>j7) (fun _ _ _ _=>zR jG Z.ao rfl qy (zA (pv 0) (zC)))) (zC)))))),?_⟩
 obtain ⟨p,fg,pl,b,sn,z,m,pt,wy,wd,f,x,st,rfl,hp,ok,q⟩ | ⟨p,sg,lo,hi,wd,f,x,st,rfl,hp,q⟩ | ⟨p,L,ns,wd,f,x,st,rfl,hp,hL,n1,n12,nl,q⟩:=h
 all_goals walk_at "st"
 ·unfold Xo at hp
  have o3:=ok.pl1;have o4:=ok.pl2
  have eL:(Lt sn=Lt "plus" \/ Lt sn=Lt "blank")↔(sn = "plus" \/ sn = "blank"):=by
   have e : ∀ z:Str,Lt sn=Lt z↔sn=z:=fun z=>⟨fun h=>by rw [<- ZY sn,h,ZY],fun h=>by rw [h]⟩
   rw [e,e]
  unfold jp at q
  have iv : ∀ {p':Addr} {H':Hp} {Q':VK},H' p'=some (.tup [.str "plus", .str "blank"])->Q' (.bl (decide (sn = "plus" \/ sn = "blank"))) H'->rIn K false (.str sn) (.ref p') H' Q':=fun {p' H' Q'} e k=>by
   refine ⟨p',_,rfl,.inr (SqT.of e),rfl,by decide +kernel,?_⟩
   rcases ok.sn with rfl | rfl | rfl | rfl | rfl
   ·rw [show (if false=true then !inV (.str "minus") [.str "plus", .str "blank"] else inV (.str "minus") [.str "plus", .str "blank"])=decide (("minus" : Str) = "plus" \/ ("minus" : Str) = "blank") from by decide +kernel];exact k
   ·rw [show (if false=true then !inV (.str "plus") [.str "plus", .str "blank"] else inV (.str "plus") [.str "plus", .str "blank"])=decide (("plus" : Str) = "plus" \/ ("plus" : Str) = "blank") from by decide +kernel];exact k
   ·rw [show (if false=true then !inV (.str "blank") [.str "plus", .str "blank"] else inV (.str "blank") [.str "plus", .str "blank"])=decide (("blank" : Str) = "plus" \/ ("blank" : Str) = "blank") from by decide +kernel];exact k
   ·rw [show (if false=true then !inV (.str "brackets") [.str "plus", .str "blank"] else inV (.str "brackets") [.str "plus", .str "blank"])=decide (("brackets" : Str) = "plus" \/ ("brackets" : Str) = "blank") from by decide +kernel];exact k
   ·rw [show (if false=true then !inV (.str "behind") [.str "plus", .str "blank"] else inV (.str "behind") [.str "plus", .str "blank"])=decide (("behind" : Str) = "plus" \/ ("behind" : Str) = "blank") from by decide +kernel];exact k
  walk_at "rd"
  ·rename_i hc p1 H1 g1 e1
   have q':=q _ g1
   refine iv e1 ?_
   walk_at "rd"
   ·rename_i hs;rw [if_pos hc,if_pos (eL.mpr hs)] at q';rw [Int.mul_one];exact q'
   ·rename_i hs;rw [if_pos hc,if_neg (fun z=>hs (eL.mp z))] at q';rw [Int.mul_one];exact q'
  ·rename_i hc p1 H1 g1 e1
   have q':=q _ g1
   refine iv e1 ?_
   walk_at "rd"
   ·rename_i hs;rw [if_neg hc,if_pos (eL.mpr hs)] at q';rw [Int.mul_zero];exact q'
   ·rename_i hs;rw [if_neg hc,if_neg (fun z=>hs (eL.mp z))] at q';rw [Int.mul_zero];exact q'
 ·unfold QU at hp
  walk_at "rd"
  exact q
 ·unfold Xf at hp
  walk_at "rd"
  have tl:(tsV ns).length=ns.length:=length_map _
  refine yr (SqL.of hL) (qz (by omega)) (fun i ys H'=>H'=H/\ys=(((ns.take i).map fun t=>(t.length:Int)).map V.int)) ⟨rfl,rfl⟩ (fun i ys H' _ h=>⟨by rw [h.1];exact SqL.of hL,by rw [h.2,length_map,length_map,length_take];omega⟩) ?_ ?_
  ·rintro i y ys H' hy hi ⟨rfl,rfl⟩
   have il:i < ns.length:=by omega
   have ey:y = .str (T ns[i]):=by
    unfold tsV at hy
    rw [getElem?_map,getElem?_eq_getElem il] at hy
    exact (Option.some.inj hy).symm
   subst ey
   have tn:=nl _ (getElem_mem il)
   walk_at "rd"
   refine nxC hi ⟨rfl,?_⟩
   rw [List.take_succ_eq_append_getElem il,map_append,map_append];rfl
  ·rintro ys H1 ⟨rfl,rfl⟩ p2 H2 g2 e2
   rw [tl,take_length] at e2
   walk_at "rd"
   refine ⟨p2,ns.map fun t=>(t.length:Int),rfl,SqL.of e2,(by intro h;rw [List.map_eq_nil_iff] at h;rw [h] at n1;simp at n1),fun k hk hm=>?_⟩
   obtain ⟨t,ht,rfl⟩:=List.mem_map.mp hk
   rw [<- V8 ht fun u hu=>by have:=hm _ (List.mem_map.mpr ⟨u,hu,rfl⟩);omega]
   exact q _ g2
def rUp:V->List V->Hp->VK->Prop:=fun x xs H Q=>∃ z:Str,x = .str z/\xs=[]/\Builtin.Str.tooLong (Txt.upper z).length=false/\Q (.str (Txt.upper z)) H
theorem zBb:MtR X "str.upper" rUp:=by
 intro pins s σ H x xs v us Q I rx rv h
 obtain ⟨z,rfl,rfl,hz,q⟩:=h
 obtain ⟨t,rfl⟩:=rx
 cases rv
 exact SC.upper hz ⟨.str _,H,I.tok _,⟨_,rfl⟩,q⟩
def XY (K:W.Frag):Sp:=fun vs H Q _=>vs=[] /\ ∀ p p1 p2 p3 p4 H',zc H H'->H' p=some (.lst [.ref p1,.ref p2,.ref p3,.ref p4])->H' p1=some (.tup [.str "lower", .str zGh])->H' p2=some (.tup [.str "upper", .str zEd])->H' p3=some (.tup [.str "figures", .str zFW])->H' p4=some (.tup [.str "all", .str Q6])->Q (.ref p) H'
local macro_rules | `(tactic| walk_at "rdc")=>`(tactic| (with_reducible refine zDY ?_))
include Z in
theorem YF:Has P w K mg base "_law_sets" 2 [] (XY K):=by
 refine xz Z.kn Z.bF (l0N (by intros;rfl)) fun fq fd F=>?_
 refine F.ok XX (fun vs H Q E=>?_) (fun _ _ _ s H vs Q E hr h=>?_)
 ·walk_at "ln"
 obtain ⟨rfl,q⟩:=h
 refine ⟨_,zD (zI (i:=0) XX.nd rfl (Or.inl rfl) (zZ))
  (zF (zQ (zd (zA (zo (zA (zZ) (zA (pv 0) (zC)))) (zA (zo (zA (zZ) (zA (zFQ PySem.F.plainAttrs_str PySem.F.slot_str_upper PySem.F.type_str_upper zBb (pv 0)) (zC)))) (zA (zo (zA (zZ) (zA (zZ) (zC)))) (zA (zo (zA (zZ) (zA (zt xl (ye (jw Z) hr rfl) (zx (zB)) (qL)) (zC)))) (zC)))))))),?_⟩
 walk_at "st"
 walk_at "rd"
 rename_i p1 H1 g1 e1
 refine ⟨_,rfl,rfl,by decide +kernel,?_⟩
 rw [show Txt.upper "abcdefghijklmnopqrstuvwxyz" = zEd from by decide +kernel]
 walk_at "rd"
 rename_i p2 H2 g2 e2 p3 H3 g3 e3 p4 H4 g4 e4 p5 H5 g5 e5
 have e4':H4 p4=some (.tup [.str "all", .str Q6]):=by
  rw [e4]
  show some (HO.tup [.str "all", .str (T (Lt Q6))])=_
  rw [ZY]
 exact q p5 p1 p2 p3 p4 H5 (g1.trans (g2.trans (g3.trans (g4.trans g5)))) e5 (g5.at (g4.at (g3.at (g2.at e1)))) (g5.at (g4.at (g3.at e2))) (g5.at (g4.at e3)) (g5.at e4')
theorem zE4 (q : ∀ p p1 p2 p3 p4 H',zc H H'->H' p=some (.lst [.ref p1,.ref p2,.ref p3,.ref p4])->H' p1=some (.tup [.str "lower", .str zGh])->H' p2=some (.tup [.str "upper", .str zEd])->H' p3=some (.tup [.str "figures", .str zFW])->H' p4=some (.tup [.str "all", .str Q6])->Q (.ref p) H'):XY K ([]++[]) H Q E:=⟨rfl,q⟩
theorem zJZ {rs:Wd} (h1:1<=rs.length) (hr:Ky rs=true):tsg (61::rs)=some rs:=by
 rw [YU]
 ·rw [if_pos];· rfl
  show (decide (61=61) && decide (2<=(61::rs).length) && Ky rs)=true
  rw [hr,decide_eq_true (show 2<=(61::rs).length by rw [length_cons];omega)];rfl
 ·intro n v hk e
  have:(Lt n).head? ≠ some 61:=by rcases hk with ⟨rfl,rfl⟩ | ⟨rfl,rfl⟩ | ⟨rfl,rfl⟩ | ⟨rfl,rfl⟩ <;> decide +kernel
  exact this (by rw [<- e];rfl)
def SgW (w rs:Wd):Prop:=tsg w=some rs/\((∃ n v,Zw n v/\w=Lt n)\/w=61::rs)
def Qn (K:W.Frag):Sp:=fun vs H Q _=>∃ (sg:List Nat) (b:Int),vs=[.str (T sg),.int b]/\sg.length<=200/\1<=(wo 32 sg).length/\Ky (wo 32 sg)=true /\ ∀ w H',zc H H'->SgW w (wo 32 sg)->Q (.str (T w)) H'
include Z in
theorem JH:zKd P w K mg base "_law_signs_word" 3 ["_law_signs", "_law_bits"] (Qn K):=by
 refine zK3 Z.kn Z.bG (l2N (by intros;rfl)) fun fq fd F=>?_
 refine F.okp jI (fun vs H Q E=>?_) (fun _ _ _ s H vs Q E hr h=>?_)
 ·walk_at "ln"
 obtain ⟨sg,b,rfl,h1,h2,hris,q⟩:=h
 refine ⟨_,zCE (zFl (i:=2) jI.nd rfl (Or.inl rfl) (zF8 (c:=32) rfl rfl (pv 0)))
  (zD (J8 PassesOwn.never rfl (y0 (ye (YF Z) hr rfl)) (Vl rfl (qN (qF (i:=3) jI.nd rfl (Or.inl rfl)) (qN (qF (i:=4) jI.nd rfl (Or.inl rfl)) (XO)))) (zF (z5 (PW.pt (Ji (zT qJ (pv 4) (pv 2) (zS _)) (Zv (zT qJ (zP qE (pv 1) (zB)) (zB) (zS _))))) (zF (zQ (pv 3))) (zX))))
  (zF (zQ (zP jR (zE (l:=[61]) (by decide +kernel)) (pv 2))))),?_⟩
 walk_at "st"
 have l2:(wo 32 sg).length<=200:=le_trans (List.length_filter_le _ _) h1
 walk_at "rd"
 refine (show zFB 0 _ _ _ from zIX rfl ⟨sg,rfl,by omega,?_⟩)
 generalize wo 32 sg=rs at *
 walk_at "rd"
 refine zE4 fun p p1 p2 p3 p4 H1 g1 e0 e1 e2 e3 e4=>?_
 have fin : ∀ n v:Str,Zw n v->v=T rs->Q (.str n) H1:=fun n v hk hv=>by
  have:=q (Lt n) H1 g1 ⟨by rw [YX hk,hv,Xr],.inl ⟨n,v,hk,rfl⟩⟩
  rw [ZY] at this;exact this
 walk_at "rd"
 refine zHB (SqL.of e0) (fun i σ H'=>H'=H1 /\ ∃ r3 r4:Option V,σ=[some (.str (T sg)),some (.int b),some (.str (T rs)),r3,r4]) ⟨rfl,none,none,rfl⟩ (fun i σ H' _ h=>by rw [h.1];exact SqL.of e0) ?_ ?_
 ·rintro i y σ H2 hy ⟨rfl,r3,r4,rfl⟩
  have hx : ∃ (pp:Addr) (n v:Str),y = .ref pp/\Zw n v/\H2 pp=some (.tup [.str n,.str v]):=by
   match i,hy with
   | 0,hy=>cases hy;exact ⟨_,_,_,rfl,.inl ⟨rfl,rfl⟩,e1⟩
   | 1,hy=>cases hy;exact ⟨_,_,_,rfl,.inr (.inl ⟨rfl,rfl⟩),e2⟩
   | 2,hy=>cases hy;exact ⟨_,_,_,rfl,.inr (.inr (.inl ⟨rfl,rfl⟩)),e3⟩
   | 3,hy=>cases hy;exact ⟨_,_,_,rfl,.inr (.inr (.inr ⟨rfl,rfl⟩)),e4⟩
   | (k+4),hy=>cases hy
  obtain ⟨pp,n,v,rfl,hk,ep⟩:=hx
  clear hy e1 e2 e3 e4 e0
  walk_at "rd"
  ·rename_i c1 c2;exact fin n v hk c1
  all_goals exact ⟨rfl,_,_,rfl⟩
 ·rintro σ H2 ⟨rfl,r3,r4,rfl⟩
  walk_at "rd"
  exact q (61::rs) _ g1 ⟨zJZ h2 hris,.inr rfl⟩
local macro_rules | `(tactic| walk_at "rdq")=>`(tactic| repeat ((fail_if_success (with_reducible refine Wz ?_));walk_at "rd1"))
theorem Vr {a:Addr} {lo hi:Option Int} (h:H a=some (.tup xs)) (hn:xs.length=n) (hw : ¬ (HT.sIx n 0 lo=0/\HT.sIx n n hi=n)) (q : ∀ p H',zc H H'->H' p=some (.tup (YV xs lo hi))->Q (.ref p) H'):zLj K (.ref a) lo hi H Q:=⟨a,xs,rfl,SqT.of h,by rw [hn];exact hw,fun p hp=>q p _ (jB hp _) zK⟩
theorem zBj {a b:Addr} {x y:V} {ys:List V} (h1:H a=some (.tup (x::xs))) (h2:H b=some (.tup (y::ys))) (hz:xs.length+ys.length<=900) (q : ∀ p H',zc H H'->H' p=some (.tup (x::xs++y::ys))->Q (.ref p) H'):zCO K (.ref a) (.ref b) H Q:=
 ⟨a,b,_,_,rfl,rfl,SqT.of h1,SqT.of h2,(by intro h;cases h),qz (by rw [length_cons,length_cons];omega),(fun h=>by cases h),fun _ p n=>q p _ (qO (zc.refl _) n) zK⟩
theorem zE0 {c:Nat} (h:Sgn c):32<=c:=by
 rcases h with rfl | h
 ·decide
 ·exact (show ∀ c ∈ Lt Q6,32<=c by decide +kernel) c h
theorem zH9 {sg:List Nat} (h:SgD sg) (n:sg≠[32]):1<=(wo 32 sg).length:=by
 match sg,h,n with
 | [],h,_=>exact absurd h.s1 (by decide)
 | [c],h,n =>
  have hc:c≠32:=fun e=>n (by rw [e])
  exact List.length_pos_of_mem (a:=c) (List.mem_filter.mpr ⟨mem_cons_self ..,by simpa using hc⟩)
 | c::d::r,h,_ =>
  have hc:=zE0 (h.sgn c (mem_cons_self ..))
  have lt:c < d:=(List.pairwise_cons.mp h.up).1 d (mem_cons_self ..)
  have hd:d≠32:=by omega
  exact List.length_pos_of_mem (a:=d) (List.mem_filter.mpr ⟨mem_cons_of_mem _ (mem_cons_self ..),by simpa using hd⟩)
structure SgE (sg:List Nat):Prop where
 d:SgD sg
 ne:1<=(wo 32 sg).length
def SgB (l:List Nat):Prop:=(1<=l.length/\l.length<=200)/\l.Pairwise (· < ·)/\(∀ c ∈ l,c=32\/c ∈ Lt Q6)/\1<=(wo 32 l).length
instance (l:List Nat):Decidable (SgB l):=by unfold SgB;infer_instance
theorem SgB.e (h:SgB l):SgE l:=⟨⟨h.1.1,h.1.2,h.2.1,h.2.2.1⟩,h.2.2.2⟩
theorem zJp {n v:Str} (h:Zw n v) (h0:0<=k) (h1:k < 2):SgE (List.replicate k.toNat 32++Lt v):=by
 have hk:k.toNat=0\/k.toNat=1:=by omega
 rcases hk with e | e <;> rw [e] <;> refine SgB.e ?_ <;> rcases h with ⟨_,rfl⟩ | ⟨_,rfl⟩ | ⟨_,rfl⟩ | ⟨_,rfl⟩ <;> decide +kernel
def Cl (c:Bool) (e:Prop):Prop:=c=false->e
def WN (fg pl b:Int) (sn:Str) (z:Int) (m pt:Nat) (wy:Str) (rs:List Row):Prop:=∃ cb cg cp cw,Cl cg (sn = "minus")/\rs=Kc fg pl b (Lt sn) z m pt (Lt wy) cb cg cp cw []
def WW (sg:List Nat) (lo hi:Int) (rs:List Row):Prop:=∃ w,SgW w (wo 32 sg)/\rs=zAK w lo hi (decide (32 ∈ sg)) []
def WC (ns:List (List Nat)) (rs:List Row):Prop:=rs=ZB ns []
def zLz (H:Hp) (p:Addr) (wd:Int) (f:Nat) (x:Str) (st:Bool) (W:List Row->Prop) (d:Str) (sh:Int):Prop:=∃ (fg pl b:Int) (sn:Str) (z:Int) (m pt:Nat) (wy:Str),Xo H p fg pl b sn z m pt wy wd f x st/\zCZ fg pl b sn z m pt wy wd f x/\Sg3 m pt f/\(st=true->sh<=wd)/\W=WN fg pl b sn z m pt wy/\d = "right" /\ sh=jp pl (Lt sn)
def zMP (H:Hp) (p:Addr) (wd:Int) (f:Nat) (x:Str) (st:Bool) (W:List Row->Prop) (d:Str) (sh:Int):Prop:=∃ (sg:List Nat) (lo hi:Int),QU H p sg lo hi wd f x st/\SgE sg/\WdR lo hi wd f x/\(st=true->sh<=wd)/\W=WW sg lo hi/\d = "left" /\ lo=sh
def zMN (H:Hp) (p:Addr) (wd:Int) (f:Nat) (x:Str) (st:Bool) (W:List Row->Prop) (d:Str) (sh:Int):Prop:=∃ (L:Addr) (ns:List (List Nat)),Xf H p L wd f x st/\H L=some (.lst (tsV ns))/\Nms ns/\1<=ns.length/\ns.length<=12/\WdC wd f x/\(st=true->sh<=wd)/\W=WC ns/\d = "left" /\ sh=Vz ns
def SpA (H:Hp) (p:Addr) (wd:Int) (f:Nat) (x:Str) (st:Bool) (W:List Row->Prop) (d:Str) (sh:Int):Prop:=zLz H p wd f x st W d sh\/zMP H p wd f x st W d sh\/zMN H p wd f x st W d sh
theorem SpA.same {p:Addr} {x:Str} {W:List Row->Prop} {d:Str} {sh:Int} (g:zc H H') (h:SpA H p wd f x st W d sh):SpA H' p wd f x st W d sh:=by
 rcases h with ⟨fg,pl,b,sn,z,m,pt,wy,a,r⟩ | ⟨sg,lo,hi,a,r⟩ | ⟨L,ns,a,b,r⟩
 ·exact .inl ⟨fg,pl,b,sn,z,m,pt,wy,g.at a,r⟩
 ·exact .inr (.inl ⟨sg,lo,hi,g.at a,r⟩)
 ·exact .inr (.inr ⟨L,ns,g.at a,g.at b,r⟩)
def wY (K:PySem.W.Frag):Sp:=fun vs H Q _=>∃ (c o k:Int),vs=[.int c,.int o,.int k]/\0<=k/\k < 3 /\ ∀ p H' wd f x st W d sh,zc H H'->SpA H' p wd f x st W d sh->Q (.ref p) H'
include Z in
theorem Xg:Has P w K mg base "_law_any_spec" 4 ["_law_cell", "_law_other", "_law_sort"] (wY K):=by
 refine xz Z.kn Z.bH (l3N (by intros;rfl)) fun fq fd F=>?_
 refine F.ok qZ (fun vs H Q E=>?_) (fun _ _ _ s H vs Q E hr h=>?_)
 ·walk_at "ln"
 obtain ⟨c,o,k,rfl,k0,k3,q⟩:=h
 refine ⟨_,zD (zI (i:=3) qZ.nd rfl (Or.inl rfl) (zH (Qq Z) hr rfl (zA (pv 0) (zA (pv 1) (zA (zB) (zC))))))
  (zD (z5 (zT qJ (pv 2) (zB) (zS _)) (zD (zI (i:=3) qZ.nd rfl (Or.inl rfl) (zH (XB Z) hr rfl (zA (pv 0) (zA (pv 1) (zA (zB) (zC))))))
  (zD (zI (i:=4) qZ.nd rfl (Or.inl rfl) (za zl (pv 3) (zB) (fun _ _=>rfl)))
  (zD (z5 (PW.pt (kz (zT qJ (zH (zM Z) hr rfl (zA (pv 1) (zA (zB) (zA (zB) (zC))))) (zB) (zS _)) (j8 (zT qJ (pv 4) (zE (l:=[32]) (by decide +kernel)) (zS _))))) (zF (zI (i:=4) qZ.nd rfl (Or.inl rfl) (zP jR (zP zBI (zE (l:=[32]) (by decide +kernel)) (zH (zM Z) hr rfl (zA (pv 1) (zA (zB) (zA (zB) (zC)))))) (za zl (za zi (ye (YF Z) hr rfl) (zH (zM Z) hr rfl (zA (pv 1) (zA (zB) (zA (zB) (zC))))) (fun _ _=>rfl)) (zB) (fun _ _=>rfl))))) (zX))
  (zF (zI (i:=3) qZ.nd rfl (Or.inl rfl) (zP KT (zo (zA (zE (l:=[119,111,114,100]) (by decide +kernel)) (zA (pv 4) (zC)))) (zt Kr (pv 3) (zx (zB)) (qL)))))))) (zX))
  (zD (z5 (zT qJ (pv 2) (zB) (zS _)) (zF (zI (i:=3) qZ.nd rfl (Or.inl rfl) (zH (Qh Z) hr rfl (zA (pv 0) (zA (pv 1) (zA (zB) (zC))))))) (zX))
  (zF (zQ (zP KT (zt Kr (pv 3) (qL) (zx (Zk xr (zB)))) (zo (zA (Qt (za zl (pv 3) (Zk xr (zB)) (fun _ _=>rfl)) (ku (zy V3 (zH (ZW Z) hr rfl (zA (pv 3) (zC))) (za zl (pv 3) (Zk xr (zB)) (fun _ _=>rfl)) (zS _)))) (zC)))))))),?_⟩
 walk_at "st"
 have hk:k=0\/k=1\/k=2:=by omega
 rcases hk with rfl | rfl | rfl
 ·walk_at "rd"
  refine ⟨c,o,rfl,fun p H1 fg pl b sn z m pt wy wd f x st g1 ok sg hp=>?_⟩
  have hp0:=hp
  unfold Xo at hp
  walk_at "rd"
  refine Vr (n:=13) hp rfl (by decide) fun p2 H2 g2 e2=>?_
  have e2':H2 p2=some (.tup [.str "number", .int fg,.int pl,.int b,.str sn,.int z,.str (T [m]),.str (T [pt]),.str wy,.int wd,.str (T [f]),.str x]):=e2
  clear e2
  have hp2:=g2.at hp
  have hp02:Xo H2 p fg pl b sn z m pt wy wd f x st:=g2.at hp0
  clear hp hp0
  have fin : ∀ (st':Bool) {p3:Addr} {H3:Hp},zc H2 H3->(st'=true->jp pl (Lt sn)<=wd)->H3 p3=some (.tup [.bl st'])->zCO K (.ref p2) (.ref p3) H3 Q:=fun st' {p3 H3} g3 hs e3 =>
   ⟨p2,p3,_,_,rfl,rfl,SqT.of (g3.at e2'),SqT.of e3,(by intro h;cases h),qz (by show 12+1<=1000;decide),(fun h=>by cases h),fun _ p4 n4=>q p4 _ wd f x st' _ _ _ (g1.trans (g2.trans (g3.trans (qO (zc.refl _) n4)))) (.inl ⟨fg,pl,b,sn,z,m,pt,wy,zK,ok,sg,hs,rfl,rfl,rfl⟩)⟩
  walk_at "rd"
  ·refine .inl ⟨p,fg,pl,b,sn,z,m,pt,wy,wd,f,x,st,rfl,hp02,ok,fun H3 g3=>?_⟩
   have hp3:=g3.at hp2
   walk_at "rd"
   rename_i p4 H4 g4 e4
   exact fin _ (g3.trans g4) (fun h=>of_decide_eq_true h) e4
  ·rename_i hc p4 H4 g4 e4
   exact fin _ g4 (fun h=>by first | cases h | (rw [hc] at h;cases h)) e4
 ·refine z7 (fun σ' H'=>zc H H' /\ ∃ p0,σ'=[some (.int c),some (.int o),some (.int 1),some (.ref p0),none]) (fun σ1 H1 h=>?_) (fun R hR=>?_)
  ·obtain ⟨g1,p0,rfl⟩:=h
   refine z7 (fun σ' H'=>∃ p sg lo hi wd f x st,∃ s4:Option V,zc H H'/\SgE sg/\WdR lo hi wd f x/\QU H' p sg lo hi wd f x st/\σ'=[some (.int c),some (.int o),some (.int 1),some (.ref p),s4]) (fun σ2 H2 h=>?_) (fun R hR=>?_)
   ·obtain ⟨p,sg,lo,hi,wd,f,x,st,s4,g2,se,wr,hp,rfl⟩:=h
    have hp0:=hp
    unfold QU at hp
    walk_at "rd"
    refine Vr (n:=8) hp rfl (by decide) fun p3 H3 g3 e3=>?_
    have e3':H3 p3=some (.tup [.str "word", .str (T sg),.int lo,.int hi,.int wd,.str (T [f]),.str x]):=e3
    clear e3
    have hp3:=g3.at hp
    have hp03:QU H3 p sg lo hi wd f x st:=g3.at hp0
    clear hp hp0
    have fin : ∀ (st':Bool) {p4:Addr} {H4:Hp},zc H3 H4->(st'=true->lo<=wd)->H4 p4=some (.tup [.bl st'])->zCO K (.ref p3) (.ref p4) H4 Q:=fun st' {p4 H4} g4 hs e4 =>
     zBj (g4.at e3') e4 (by show 6+0<=900;decide) fun p5 H5 g5 e5=>q p5 H5 wd f x st' _ _ _ (g2.trans (g3.trans (g4.trans g5))) (.inr (.inl ⟨sg,lo,hi,e5,se,wr,hs,rfl,rfl,rfl⟩))
    walk_at "rd"
    ·refine .inr (.inl ⟨p,sg,lo,hi,wd,f,x,st,rfl,hp03,?_⟩)
     walk_at "rd"
     rename_i p4 H4 g4 e4
     exact fin _ g4 (fun h=>of_decide_eq_true h) e4
    ·rename_i hc p4 H4 g4 e4
     exact fin _ g4 (fun h=>by first | cases h | (rw [hc] at h;cases h)) e4
   ·refine Wz ?_
    walk_at "rdq"
    refine z7 (fun σ' H'=>∃ p sg lo hi wd f x st,zc H H'/\SgD sg/\WdR lo hi wd f x/\QU H' p sg lo hi wd f x st/\σ'=[some (.int c),some (.int o),some (.int 1),some (.ref p),none]) (fun σ3 H3 h=>?_) (fun R3 hR3=>?_)
    ·obtain ⟨p,sg,lo,hi,wd,f,x,st,g3,sd,wr,hp,rfl⟩:=h
     unfold QU at hp
     refine z7 (fun σ' H'=>H'=H3/\σ'=[some (.int c),some (.int o),some (.int 1),some (.ref p),some (.str (T sg))]) (fun σ4 H4 h=>?_) (fun R4 hR4=>?_)
     ·obtain ⟨rfl,rfl⟩:=h
      refine z7 (fun σ' H'=>∃ sg',zc H4 H'/\SgE sg'/\σ'=[some (.int c),some (.int o),some (.int 1),some (.ref p),some (.str (T sg'))]) (fun σ5 H5 h=>?_) (fun R5 hR5=>?_)
      ·obtain ⟨sg',g5,se,rfl⟩:=h
       have hp5:=g5.at hp
       walk_at "rd"
       rename_i p6 H6 g6 e6
       refine Vr (n:=8) (g6.at hp5) rfl (by decide) fun p7 H7 g7 e7=>?_
       have e7':H7 p7=some (.tup [.int lo,.int hi,.int wd,.str (T [f]),.str x,.bl st]):=e7
       refine zBj (g7.at e6) e7' (by show 1+5<=900;decide) fun p8 H8 g8 e8=>?_
       walk_at "rd"
       exact hR _ _ ⟨p8,sg',lo,hi,wd,f,x,st,_,g3.trans (g5.trans (g6.trans (g7.trans g8))),se,wr,e8,rfl⟩
      ·walk_at "rd"
       rotate_left 2
       ·rename_i v0 h00 h10 c1 c2
        exact hR5 _ _ ⟨sg,zc.refl _,⟨sd,zH9 sd c2⟩,rfl⟩
       all_goals
        rename_i v2 h02 h12
        refine zE4 fun s0 s1 s2 s3 s4 H5 g5 e0 e1 e2 e3 e4=>?_
        walk_at "rd"
        rename_i v3 h03 h13
        refine qU (SqL.of e0) h03 (by show _ < (4:Int);omega) fun y hy=>?_
        have hm:=mem_of_getElem? hy
        simp only [mem_cons,not_mem_nil,or_false] at hm
        have hx : ∃ (pp:Addr) (n v:Str),y = .ref pp/\Zw n v/\H5 pp=some (.tup [.str n,.str v]):=by
         rcases hm with rfl | rfl | rfl | rfl
         ·exact ⟨_,_,_,rfl,.inl ⟨rfl,rfl⟩,e1⟩
         ·exact ⟨_,_,_,rfl,.inr (.inl ⟨rfl,rfl⟩),e2⟩
         ·exact ⟨_,_,_,rfl,.inr (.inr (.inl ⟨rfl,rfl⟩)),e3⟩
         ·exact ⟨_,_,_,rfl,.inr (.inr (.inr ⟨rfl,rfl⟩)),e4⟩
        obtain ⟨pp,n,v,rfl,hk,ep⟩:=hx
        clear hm hy e0 e1 e2 e3 e4
        have so:=zJp hk h02 h12
        walk_at "rd"
        refine zCL (by have:=so.d.s2;rw [length_append] at this;omega) ?_
        walk_at "rd"
        exact hR5 _ _ ⟨_,g5,so,rfl⟩
     ·walk_at "rd"
      exact hR4 _ _ ⟨rfl,rfl⟩
    ·walk_at "rd"
     refine ⟨c,o,rfl,fun p H3 sg lo hi wd f x st g3 sd wr hp=>?_⟩
     walk_at "rd"
     exact hR3 _ _ ⟨p,sg,lo,hi,wd,f,x,st,g1.trans g3,sd,wr,hp,rfl⟩
  ·walk_at "rd"
   refine ⟨c,o,rfl,fun p0 H0 _ _ _ _ _ _ _ _ _ _ _ _ g0 _ _ _=>?_⟩
   walk_at "rd"
   exact hR _ _ ⟨g0,p0,rfl⟩
 ·walk_at "rd"
  refine ⟨c,o,rfl,fun p0 H0 _ _ _ _ _ _ _ _ _ _ _ _ g0 _ _ _=>?_⟩
  walk_at "rd"
  refine ⟨c,o,rfl,fun p L ns H1 wd f x st g1 nm n1 n12 wc hp hL=>?_⟩
  have hp0:=hp
  unfold Xf at hp
  walk_at "rd"
  refine Vr (n:=6) hp rfl (by decide) fun p3 H3 g3 e3=>?_
  have e3':H3 p3=some (.tup [.str "choice", .ref L,.int wd,.str (T [f]),.str x]):=e3
  clear e3
  have hp3:=g3.at hp
  have hp03:Xf H3 p L wd f x st:=g3.at hp0
  have hL3:=g3.at hL
  clear hp hp0
  have fin : ∀ (st':Bool) {p4:Addr} {H4:Hp},zc H3 H4->(st'=true->Vz ns<=wd)->H4 p4=some (.tup [.bl st'])->zCO K (.ref p3) (.ref p4) H4 Q:=fun st' {p4 H4} g4 hs e4 =>
   zBj (g4.at e3') e4 (by show 4+0<=900;decide) fun p5 H5 g5 e5=>q p5 H5 wd f x st' _ _ _ (g0.trans (g1.trans (g3.trans (g4.trans g5)))) (.inr (.inr ⟨L,ns,e5,g5.at (g4.at hL3),nm,n1,n12,wc,hs,rfl,rfl,rfl⟩))
  walk_at "rd"
  ·refine .inr (.inr ⟨p,L,ns,wd,f,x,st,rfl,hp03,hL3,n1,n12,fun t ht=>(nm.len t ht).2,fun H4 g4=>?_⟩)
   have hp4:=g4.at hp3
   walk_at "rd"
   rename_i p5 H5 g5 e5
   exact fin _ (g4.trans g5) (fun h=>of_decide_eq_true h) e5
  ·rename_i hc p4 H4 g4 e4
   exact fin _ g4 (fun h=>by first | cases h | (rw [hc] at h;cases h)) e4
theorem zIQ {n:Int} (h0:0<=n) (h1:n<=41):dw n=(if n.toNat < 10 then [fc n.toNat] else [fc (n.toNat / 10),fc (n.toNat % 10)]):=by
 unfold dw
 split
 ·rename_i h;exact xM h
 ·rename_i h
  rw [Jw (by decide) (by omega),xM (show n.toNat / 10 < 10 by omega)];rfl
theorem zCp {n:Int} (h0:0<=n) (h1:n<=41):Str.ofString (toString n)=T (dw n):=by
 rw [zIQ h0 h1]
 obtain ⟨k,rfl⟩ : ∃ k:Nat,n=(k:Int):=⟨n.toNat,by omega⟩
 have all : ∀ k,k < 42->Str.ofString (toString ((k:Nat):Int))=T (if k < 10 then [fc k] else [fc (k / 10),fc (k % 10)]):=by decide +kernel
 rw [toNat_natCast]
 exact all k (by omega)
def kK (K:W.Frag):Sp:=fun vs H Q _=>∃ c:Nat,vs=[.str (T [c])]/\Q (.str (T (sw c))) H
theorem zG4 {c:Nat} (q:Q (.str (T (sw c))) H):kK K ([.str (T [c])]++[]) H Q E:=⟨c,rfl,q⟩
local macro_rules | `(tactic| walk_at "rdc")=>`(tactic| (with_reducible refine zG4 ?_))
include Z in
theorem xc:Has P w K mg base "_law_sign_word" 1 ["_law_sign"] (kK K):=by
 refine xz Z.kn Z.bI (l1N (by intros;rfl)) fun fq fd F=>?_
 refine F.ok JV (fun vs H Q E=>?_) (fun _ _ _ s H vs Q E hr h=>?_)
 ·walk_at "ln"
 obtain ⟨c,rfl,q⟩:=h
 refine ⟨_,zD (z5 (zT qJ (pv 0) (zE (l:=[32]) (by decide +kernel)) (zS _)) (zF (zQ (zE (l:=[98,108,97,110,107]) (by decide +kernel)))) (zX))
  (zF (zQ (pv 0))),?_⟩
 walk_at "st"
 walk_at "rd"
 ·rename_i hc
  have c32:c=32:=by simpa using hc
  subst c32
  rw [show sw 32=[98,108,97,110,107] from by decide +kernel] at q
  exact q
 ·rename_i hc
  have c32:c≠32:=fun h=>hc (by rw [h])
  rw [show sw c=[c] from if_neg c32] at q
  exact q
def zIm:List V->Hp->VK->Prop:=fun xs H Q=>∃ i:Int,xs=[.int i]/\0<=i/\i<=41/\Q (.str (toString i)) H
theorem xC:jC X (.type "str") zIm:=fun pins s σ H xs us Q I r ⟨i,e,h0,h1,q⟩=>Qy pins s σ H xs us Q I r ⟨i,e,by
 rcases Nat.eq_zero_or_pos i.natAbs with z | z
 ·rw [z];decide
 ·exact Nat.lt_of_lt_of_le ((Nat.log2_lt (Nat.ne_of_gt z)).mpr (show i.natAbs < 2 ^ 6 by omega)) (by decide),q⟩
theorem zIs {i:Int} (h0:0<=i) (h1:i<=41) (q:Q (.str (T (dw i))) H):zIm [.int i] H Q:=⟨i,rfl,h0,h1,by rw [zCp h0 h1];exact q⟩
local macro_rules | `(tactic| walk_at "rdc")=>`(tactic| ((with_reducible refine' zIs ?h0 ?h1 ?_);(case h0|h1=>omega)))
theorem Jt {l:List Row}:qm false l=[]:=rfl
inductive Rw (H:Hp):List V->List Row->Prop
 | nil:Rw H [] []
 | cons {p:Addr} {r:Row} {vs:List V} {rs:List Row}:H p=some (.tup [.str (T r.w),.str r.role,.int r.lo,.int r.hi])->Rw H vs rs->Rw H (.ref p::vs) (r::rs)
theorem Rw.keep (g : ∀ b xs,H b=some (.tup xs)->H' b=some (.tup xs)) : ∀ {vs:List V} {rs:List Row},Rw H vs rs->Rw H' vs rs
 | _,_,.nil=>.nil
 | _,_,.cons a t=>.cons (g _ _ a) (t.keep g)
variable {rs:List Row}
theorem Rw.same (g:zc H H') {vs:List V} (h:Rw H vs rs):Rw H' vs rs:=h.keep fun _ _ e=>g.at e
theorem Rw.app : ∀ {vs us:List V} {rs ts:List Row},Rw H vs rs->Rw H us ts->Rw H (vs++us) (rs++ts)
 | _,_,_,_,.nil,h=>h
 | _,_,_,_,.cons a t,h=>.cons a (t.app h)
theorem Rw.len : ∀ {vs:List V} {rs:List Row},Rw H vs rs->vs.length=rs.length
 | _,_,.nil=>rfl
 | _,_,.cons a t=>by rw [length_cons,length_cons,t.len]
def Rws (H:Hp) (L:Addr) (rs:List Row):Prop:=∃ vs,H L=some (.lst vs)/\Rw H vs rs
theorem Rws.same (g:zc H H') (h:Rws H L rs):Rws H' L rs:=let ⟨vs,a,b⟩:=h;⟨vs,g.at a,b.same g⟩
variable {ws:List Row}
theorem j0 {l:Addr} {ts:List Row} {us:List V} (h:Rws H L ws) (g:zc H H') (e:H' l=some (.lst us)) (r:Rw H' us ts) (hz:ws.length+ts.length<=1000) (q : ∀ L2 H2,zc H' H2->Rws H2 L2 (ws++ts)->Q (.ref L2) H2):zC2 (.ref L) (.ref l) H' Q:=by
 obtain ⟨vs,a,b⟩:=h
 exact Qg (g.at a) e (qz (by rw [b.len,r.len];exact hz)) fun p H2 g2 e2=>q p H2 g2 ⟨_,e2,((b.same g).app r).same g2⟩
theorem zEu : ∀ {l:Wd},l.Pairwise (· < ·)->Ky l=true
 | [],_=>rfl
 | [_],_=>rfl
 | a::b::r,h=>by
  rw [Ky,decide_eq_true ((List.pairwise_cons.mp h).1 b (mem_cons_self ..)),zEu (List.pairwise_cons.mp h).2];rfl
theorem zKc {sg:List Nat} (h:SgD sg):Ky (wo 32 sg)=true:=zEu (List.Pairwise.sublist List.filter_sublist h.up)
theorem zER {l:Addr} {ts:List Row} {us:List V} (h:Rws H L ws) (g:zc H H') (e:H' l=some (.lst us)) (r:Rw H' us ts) (hz:ws.length+ts.length<=1000) (q : ∀ L2 vs2 H2,H' L2=none->zc H' H2->H2 L2=some (.lst vs2)->Rw H2 vs2 (ws++ts)->Q (.ref L2) H2):zC2 (.ref L) (.ref l) H' Q:=by
 obtain ⟨vs,a,b⟩:=h
 exact ⟨L,l,vs,us,rfl,rfl,g.at a,e,qz (by rw [b.len,r.len];exact hz),fun p hp=>q p _ _ hp (jB hp _) zK (((b.same g).app r).same (jB hp _))⟩
def QY (K:PySem.W.Frag):Sp:=fun vs H Q _=>∃ (p:Addr) (bits wd:Int) (f:Nat) (x:Str) (st:Bool) (W:List Row->Prop) (d:Str) (sh:Int),vs=[.ref p,.int bits]/\SpA H p wd f x st W d sh /\ ∀ L H' ws,zc H H'->W ws->Rws H' L ws->Q (.ref L) H'
include Z in
theorem JP:Has P w K mg base "_law_first_rows" 4 ["_law_spec", "_law_bits"] (QY K):=by
 refine xz Z.kn Z.bJ (l2N (by intros;rfl)) fun fq fd F=>?_
 refine F.ok zW (fun vs H Q E=>?_) (fun _ _ _ s H vs Q E hr h=>?_)
 ·walk_at "ln"
 obtain ⟨p,bits,wd,f,x,st,W,d,sh,rfl,hA,q⟩:=h
 refine ⟨_,zD (z5 (zT qJ (za zl (pv 0) (zB) (fun _ _=>rfl)) (zE (l:=[119,111,114,100]) (by decide +kernel)) (zS _)) (zD (zI (i:=2) zW.nd rfl (Or.inl rfl) (zd (zA (zo (zA (zE (l:=[119,111,114,100]) (by decide +kernel)) (zA (zZ) (zA (zB) (zA (zB) (zC)))))) (zA (zo (zA (zBf (JH Z) hr rfl (zDD (za zl (pv 0) (zB) (fun _ _=>rfl)) (zHQ (zIn qb (pv 1))))) (zA (zZ) (zA (zB) (zA (zB) (zC)))))) (zC)))))
  (zD (zI (i:=2) zW.nd rfl (Or.inl rfl) (zP jX (pv 2) (zd (zA (zo (zA (qC xC rfl Z.ar y7 (zA (za zl (pv 0) (zB) (fun _ _=>rfl)) (zC))) (zA (zZ) (zA (zB) (zA (zB) (zC)))))) (zA (zo (zA (qC xC rfl Z.ar y7 (zA (za zl (pv 0) (zB) (fun _ _=>rfl)) (zC))) (zA (zZ) (zA (za zl (pv 0) (zB) (fun _ _=>rfl)) (zA (zB) (zC)))))) (zC))))))
  (zF (zQ (zP jX (pv 2) (zt yU (zd (zA (zo (zA (zE (l:=[98,108,97,110,107]) (by decide +kernel)) (zA (zZ) (zA (zB) (zA (zB) (zC)))))) (zC))) (qL) (zx (qC j3 rfl Z.aw QN (zA (zy zEo (zE (l:=[32]) (by decide +kernel)) (za zl (pv 0) (zB) (fun _ _=>rfl)) (by with_unfolding_all rfl)) (zC)))))))))) (zX))
  (zD (z5 (zT qJ (za zl (pv 0) (zB) (fun _ _=>rfl)) (zE (l:=[99,104,111,105,99,101]) (by decide +kernel)) (zS _)) (zD (zI (i:=2) zW.nd rfl (Or.inl rfl) (zd (zA (zo (zA (zE (l:=[99,104,111,105,99,101]) (by decide +kernel)) (zA (zZ) (zA (zB) (zA (zB) (zC)))))) (zA (zo (zA (qC xC rfl Z.ar y7 (zA (zR qh Z.ao rfl qy (zA (za zl (pv 0) (zB) (fun _ _=>rfl)) (zC))) (zC))) (zA (zZ) (zA (zB) (zA (zB) (zC)))))) (zC)))))
  (zF (zQ (zP jX (pv 2) (yq (cl:=[]) (fr:=[]) (is:=[]) rfl rfl trivial rfl trivial (by decide) (by decide +kernel) rfl (by decide +kernel) rfl (y0 (za zl (pv 0) (zB) (fun _ _=>rfl))) (fun _ _ _ _=>j7) (fun _ _ _ _=>zo (zA (pv 0) (zA (zZ) (zA (zB) (zA (zB) (zC))))))))))) (zX))
  (zD (ZU (zt Kr (pv 0) (zx (zB)) (zx (zB))) (Vl rfl (qN (qF (i:=3) zW.nd rfl (Or.inl rfl)) (qN (qF (i:=4) zW.nd rfl (Or.inl rfl)) (qN (qF (i:=5) zW.nd rfl (Or.inl rfl)) (qN (qF (i:=6) zW.nd rfl (Or.inl rfl)) (qN (qF (i:=7) zW.nd rfl (Or.inl rfl)) (qN (qF (i:=8) zW.nd rfl (Or.inl rfl)) (qN (qF (i:=9) zW.nd rfl (Or.inl rfl)) (qN (qF (i:=10) zW.nd rfl (Or.inl rfl)) (XO)))))))))))
  (zD (zI (i:=2) zW.nd rfl (Or.inl rfl) (zd (zA (zo (zA (zE (l:=[110,117,109,98,101,114]) (by decide +kernel)) (zA (zZ) (zA (zB) (zA (zB) (zC)))))) (zA (zo (zA (qC xC rfl Z.ar y7 (zA (pv 3) (zC))) (zA (zZ) (zA (zB) (zA (zB) (zC)))))) (zA (zo (zA (qC xC rfl Z.ar y7 (zA (pv 4) (zC))) (zA (zZ) (zA (zB) (zA (zB) (zC)))))) (zC))))))
  (zD (z5 (PW.pt (kz (zT kg (pv 5) (zB) (zS _)) (j8 (zT qJ (zP qE (pv 1) (zB)) (zB) (zS _))))) (zF (zI (i:=2) zW.nd rfl (Or.inl rfl) (zP jX (pv 2) (zd (zA (zo (zA (zE (l:=[98,97,115,101]) (by decide +kernel)) (zA (zZ) (zA (zB) (zA (zB) (zC)))))) (zA (zo (zA (qC xC rfl Z.ar y7 (zA (pv 5) (zC))) (zA (zZ) (zA (zB) (zA (zB) (zC)))))) (zC))))))) (zX))
  (zD (z5 (PW.pt (kz (zT kg (pv 6) (zZ) (zS _)) (j8 (zT qJ (zP qE (zP qb (pv 1) (zB)) (zB)) (zB) (zS _))))) (zF (zI (i:=2) zW.nd rfl (Or.inl rfl) (zP jX (pv 2) (zd (zA (zo (zA (zE (l:=[115,105,103,110]) (by decide +kernel)) (zA (zZ) (zA (zB) (zA (zB) (zC)))))) (zA (zo (zA (pv 6) (zA (zZ) (zA (zB) (zA (zB) (zC)))))) (zC))))))) (zX))
  (zD (z5 (zT Zp (pv 7) (zB) (zS _)) (zD (zI (i:=2) zW.nd rfl (Or.inl rfl) (zP jX (pv 2) (zd (zA (zo (zA (zE (l:=[103,114,111,117,112,115]) (by decide +kernel)) (zA (zZ) (zA (zB) (zA (zB) (zC)))))) (zA (zo (zA (qC xC rfl Z.ar y7 (zA (pv 7) (zC))) (zA (zZ) (zA (zB) (zA (zB) (zC)))))) (zC))))))
  (zF (jE (yx PySem.F.plainAttrs_list PySem.F.slot_list_append PySem.F.type_list_append yb (pv 2) (zA (zo (zA (zH (xc Z) hr rfl (zA (pv 8) (zC))) (zA (zZ) (zA (zB) (zA (zB) (zC)))))) (zC)))))) (zX))
  (zD (z5 (PW.pt (kz (zT kg (pv 9) (zE (l:=[46]) (by decide +kernel)) (zS _)) (j8 (zT qJ (zP qE (zP qb (pv 1) (zB)) (zB)) (zB) (zS _))))) (zF (zI (i:=2) zW.nd rfl (Or.inl rfl) (zP jX (pv 2) (zd (zA (zo (zA (zE (l:=[112,111,105,110,116]) (by decide +kernel)) (zA (zZ) (zA (zB) (zA (zB) (zC)))))) (zA (zo (zA (zH (xc Z) hr rfl (zA (pv 9) (zC))) (zA (zZ) (zA (zB) (zA (zB) (zC)))))) (zC))))))) (zX))
  (zD (z5 (PW.pt (kz (zT kg (pv 10) (zZ) (zS _)) (j8 (zT qJ (zP qE (zP qb (pv 1) (zB)) (zB)) (zB) (zS _))))) (zF (zI (i:=2) zW.nd rfl (Or.inl rfl) (zP jX (pv 2) (zd (zA (zo (zA (zE (l:=[119,97,121]) (by decide +kernel)) (zA (zZ) (zA (zB) (zA (zB) (zC)))))) (zA (zo (zA (pv 10) (zA (zZ) (zA (zB) (zA (zB) (zC)))))) (zC))))))) (zX))
  (zF (zQ (pv 2))))))))))),?_⟩
 walk_at "st"
 rcases hA with ⟨fg,pl,b,sn,z,m,pt,wy,hp,ok,sg3,hs,rfl,rfl,rfl⟩ | ⟨sg,lo,hi,hp,se,wr,hs,rfl,rfl,rfl⟩ | ⟨L0,ns,hp,hL,nm,n1,n12,wc,hs,rfl,rfl,rfl⟩
 ·unfold Xo at hp
  have o1:=ok.fg1;have o2:=ok.fg2;have o3:=ok.pl1;have o4:=ok.pl2;have o5:=ok.b1;have o6:=ok.b2;have o7:=ok.z1;have o8:=ok.z2
  refine z7 (fun σ' H'=>H'=H/\σ'=[some (.ref p),some (.int bits),none,none,none,none,none,none,none,none,none]) (fun σ1 H1 h=>?_) (fun R hR=>?_)
  ·obtain ⟨rfl,rfl⟩:=h
   refine z7 (fun σ' H'=>H'=H1/\σ'=[some (.ref p),some (.int bits),none,none,none,none,none,none,none,none,none]) (fun σ2 H2 h=>?_) (fun R hR=>?_)
   ·obtain ⟨rfl,rfl⟩:=h
    refine z7 (fun σ' H'=>zc H2 H'/\σ'=[some (.ref p),some (.int bits),none,some (.int fg),some (.int pl),some (.int b),some (.str sn),some (.int z),some (.str (T [m])),some (.str (T [pt])),some (.str wy)]) (fun σ3 H3 h=>?_) (fun R hR=>?_)
    ·obtain ⟨g3,rfl⟩:=h
     refine z7 (fun σ' H'=>∃ L,zc H2 H'/\σ'=[some (.ref p),some (.int bits),some (.ref L),some (.int fg),some (.int pl),some (.int b),some (.str sn),some (.int z),some (.str (T [m])),some (.str (T [pt])),some (.str wy)]/\Rws H' L ([⟨zb, "kind", 0,0⟩,⟨dw fg, "number", 1,12⟩,⟨dw pl, "number", 0,6⟩]:List Row)) (fun σ4 H4 h=>?_) (fun R hR=>?_)
     ·obtain ⟨L,g4,rfl,R4⟩:=h
      refine z7 (fun σ' H'=>∃ L cb,zc H2 H'/\σ'=[some (.ref p),some (.int bits),some (.ref L),some (.int fg),some (.int pl),some (.int b),some (.str sn),some (.int z),some (.str (T [m])),some (.str (T [pt])),some (.str wy)]/\True/\Rws H' L (([⟨zb, "kind", 0,0⟩,⟨dw fg, "number", 1,12⟩,⟨dw pl, "number", 0,6⟩]:List Row)++qm cb [kr kH,⟨dw b, "number", 2,16⟩])) (fun σ5 H5 h=>?_) (fun R hR=>?_)
      ·obtain ⟨L,cb,g5,rfl,i1,R5⟩:=h
       clear R4 g4
       have l5:(([⟨zb, "kind", 0,0⟩,⟨dw fg, "number", 1,12⟩,⟨dw pl, "number", 0,6⟩]:List Row)++qm cb [kr kH,⟨dw b, "number", 2,16⟩]).length<=5:=by
        cases cb with
        | true=>exact (show 5<=5 by decide)
        | false=>exact (show 3<=5 by decide)
       refine z7 (fun σ' H'=>∃ L cg,zc H2 H'/\σ'=[some (.ref p),some (.int bits),some (.ref L),some (.int fg),some (.int pl),some (.int b),some (.str sn),some (.int z),some (.str (T [m])),some (.str (T [pt])),some (.str wy)]/\Cl cg (sn = "minus")/\Rws H' L ((([⟨zb, "kind", 0,0⟩,⟨dw fg, "number", 1,12⟩,⟨dw pl, "number", 0,6⟩]:List Row)++qm cb [kr kH,⟨dw b, "number", 2,16⟩])++qm cg [kr kC,⟨Lt sn, "style", 0,0⟩])) (fun σ6 H6 h=>?_) (fun R hR=>?_)
       ·obtain ⟨L,cg,g6,rfl,i2,R6⟩:=h
        clear R5 g5
        have l6:((([⟨zb, "kind", 0,0⟩,⟨dw fg, "number", 1,12⟩,⟨dw pl, "number", 0,6⟩]:List Row)++qm cb [kr kH,⟨dw b, "number", 2,16⟩])++qm cg [kr kC,⟨Lt sn, "style", 0,0⟩]).length<=7:=by
         rw [length_append]
         cases cg with
         | true=>exact Nat.add_le_add_right l5 2
         | false=>exact le_trans l5 (by decide)
        generalize hw6:(([⟨zb, "kind", 0,0⟩,⟨dw fg, "number", 1,12⟩,⟨dw pl, "number", 0,6⟩]:List Row)++qm cb [kr kH,⟨dw b, "number", 2,16⟩])++qm cg [kr kC,⟨Lt sn, "style", 0,0⟩]=ws6 at *
        refine z7 (fun σ' H'=>∃ L,zc H2 H'/\σ'=[some (.ref p),some (.int bits),some (.ref L),some (.int fg),some (.int pl),some (.int b),some (.str sn),some (.int z),some (.str (T [m])),some (.str (T [pt])),some (.str wy)]/\Rws H' L (ws6++qm (decide (0 < z)) [kr qt,⟨dw z, "number", 1,9⟩,⟨sw m, "sign", 0,0⟩])) (fun σ7 H7 h=>?_) (fun R hR=>?_)
        ·obtain ⟨L,g7,rfl,R7⟩:=h
         clear R6 g6
         have l7:(ws6++qm (decide (0 < z)) [kr qt,⟨dw z, "number", 1,9⟩,⟨sw m, "sign", 0,0⟩]).length<=10:=by
          rw [length_append]
          cases decide (0 < z) with
          | true=>exact Nat.add_le_add_right l6 3
          | false=>exact le_trans l6 (by decide)
         generalize hw7:ws6++qm (decide (0 < z)) [kr qt,⟨dw z, "number", 1,9⟩,⟨sw m, "sign", 0,0⟩]=ws7 at *
         refine z7 (fun σ' H'=>∃ L cp,zc H2 H'/\σ'=[some (.ref p),some (.int bits),some (.ref L),some (.int fg),some (.int pl),some (.int b),some (.str sn),some (.int z),some (.str (T [m])),some (.str (T [pt])),some (.str wy)]/\True/\Rws H' L (ws7++qm cp [kr jQ,⟨sw pt, "sign", 0,0⟩])) (fun σ8 H8 h=>?_) (fun R hR=>?_)
         ·obtain ⟨L,cp,g8,rfl,i3,R8⟩:=h
          clear R7 g7
          have l8:(ws7++qm cp [kr jQ,⟨sw pt, "sign", 0,0⟩]).length<=12:=by
           rw [length_append]
           cases cp with
           | true=>exact Nat.add_le_add_right l7 2
           | false=>exact le_trans l7 (by decide)
          generalize hw8:ws7++qm cp [kr jQ,⟨sw pt, "sign", 0,0⟩]=ws8 at *
          refine z7 (fun σ' H'=>∃ L cw,zc H2 H'/\σ'=[some (.ref p),some (.int bits),some (.ref L),some (.int fg),some (.int pl),some (.int b),some (.str sn),some (.int z),some (.str (T [m])),some (.str (T [pt])),some (.str wy)]/\True/\Rws H' L (ws8++qm cw [kr ZS,⟨Lt wy, "way", 0,0⟩])) (fun σ9 H9 h=>?_) (fun R hR=>?_)
          ·obtain ⟨L,cw,g9,rfl,i4,R9⟩:=h
           walk_at "rd"
           refine q L H9 _ g9 ⟨cb,cg,cp,cw,i2,rfl⟩ ?_
           rw [<- hw8,<- hw7,<- hw6] at R9
           unfold Kc
           rw [append_nil]
           simp only [append_assoc] at R9
           exact R9
          ·have done : ∀ {l:Addr} {us:List V} {H':Hp},zc H8 H'->H' l=some (.lst us)->Rw H' us [kr ZS,⟨Lt wy, "way", 0,0⟩]->zC2 (.ref L) (.ref l) H' (fun y H5=>R { nx:=fun x H'=>Q V.non H',rt:=Q } ([some (.ref p),some (.int bits),some (.ref L),some (.int fg),some (.int pl),some (.int b),some (.str sn),some (.int z),some (.str (T [m])),some (.str (T [pt])),some (.str wy)].set 2 (some y)) H5):=fun g e r=>j0 R8 g e r (by show _+2<=1000;omega) fun L2 H6 g6 R6=>hR _ _ ⟨L2,true,g8.trans (g.trans g6),rfl,trivial,R6⟩
           walk_at "rd"
           ·rename_i hc hd p6 H6 g6 e6 p7 H7 g7 e7 l8 H8 g8 e8
            exact done (g6.trans (g7.trans g8)) e8 (.cons (g8.at (g7.at e6)) (.cons (by rw [ZY];exact g8.at e7) .nil))
           ·rename_i hc hd
            exact hR _ _ ⟨L,false,g8,rfl,trivial,by rw [Jt,append_nil];exact R8⟩
           ·rename_i hc p6 H6 g6 e6 p7 H7 g7 e7 l8 H8 g8 e8
            exact done (g6.trans (g7.trans g8)) e8 (.cons (g8.at (g7.at e6)) (.cons (by rw [ZY];exact g8.at e7) .nil))
         ·have done : ∀ {l:Addr} {us:List V} {H':Hp},zc H7 H'->H' l=some (.lst us)->Rw H' us [kr jQ,⟨sw pt, "sign", 0,0⟩]->zC2 (.ref L) (.ref l) H' (fun y H5=>R { nx:=fun x H'=>Q V.non H',rt:=Q } ([some (.ref p),some (.int bits),some (.ref L),some (.int fg),some (.int pl),some (.int b),some (.str sn),some (.int z),some (.str (T [m])),some (.str (T [pt])),some (.str wy)].set 2 (some y)) H5):=fun g e r=>j0 R7 g e r (by show _+2<=1000;omega) fun L2 H6 g6 R6=>hR _ _ ⟨L2,true,g7.trans (g.trans g6),rfl,trivial,R6⟩
          walk_at "rd"
          ·rename_i hc hd p6 H6 g6 e6 p7 H7 g7 e7 l8 H8 g8 e8
           exact done (g6.trans (g7.trans g8)) e8 (.cons (g8.at (g7.at e6)) (.cons (g8.at e7) .nil))
          ·rename_i hc hd
           exact hR _ _ ⟨L,false,g7,rfl,trivial,by rw [Jt,append_nil];exact R7⟩
          ·rename_i hc p6 H6 g6 e6 p7 H7 g7 e7 l8 H8 g8 e8
           exact done (g6.trans (g7.trans g8)) e8 (.cons (g8.at (g7.at e6)) (.cons (g8.at e7) .nil))
        ·walk_at "rd"
         ·rename_i hc p7 H7 g7 e7 p8 H8 g8 e8 l9 H9 g9 e9
          have gz:zc H6 H9:=g7.trans (g8.trans g9)
          refine zER (ts:=[kr qt,⟨dw z, "number", 1,9⟩]) R6 gz e9 (.cons (g9.at (g8.at e7)) (.cons (g9.at e8) .nil)) (by show _+2<=1000;omega) fun L2 vs2 H10 n10 g10 e10 r10=>?_
          walk_at "rd"
          rename_i p11 H11 g11 e11
          have e10':=g11.at e10
          refine ZG e10' (jl (by have:=r10.len;rw [length_append] at this;rw [this];show _+2<=1000;omega)) ?_
          walk_at "rd"
          have kp : ∀ b ys,H11 b=some (.tup ys)->(upd H11 L2 (.lst (vs2++[.ref p11]))) b=some (.tup ys):=fun b ys e=>by rw [zf (fun q'=>by subst q';rw [e10'] at e;cases e)];exact e
          refine hR _ _ ⟨L2,fun c u e=>?_,rfl,_,zK,?_⟩
          ·have e9':=gz.at (g6.at e)
           rw [zf (zg e9' n10)];exact g11.at (g10.at e9')
          ·have:=((r10.same g11).app (.cons (r:=⟨sw m, "sign", 0,0⟩) e11 .nil)).keep kp
           rw [decide_eq_true hc]
           rw [append_assoc] at this
           exact this
         ·rename_i hc
          refine hR _ _ ⟨L,g6,rfl,?_⟩
          rw [decide_eq_false hc,Jt,append_nil];exact R6
       ·have done : ∀ {l:Addr} {us:List V} {H':Hp},zc H5 H'->H' l=some (.lst us)->Rw H' us [kr kC,⟨Lt sn, "style", 0,0⟩]->zC2 (.ref L) (.ref l) H' (fun y H5=>R { nx:=fun x H'=>Q V.non H',rt:=Q } ([some (.ref p),some (.int bits),some (.ref L),some (.int fg),some (.int pl),some (.int b),some (.str sn),some (.int z),some (.str (T [m])),some (.str (T [pt])),some (.str wy)].set 2 (some y)) H5):=fun g e r=>j0 R5 g e r (by show _+2<=1000;omega) fun L2 H6 g6 R6=>hR _ _ ⟨L2,true,g5.trans (g.trans g6),rfl,(fun h=>by cases h),R6⟩
        walk_at "rd"
        ·rename_i hc hd p6 H6 g6 e6 p7 H7 g7 e7 l8 H8 g8 e8
         exact done (g6.trans (g7.trans g8)) e8 (.cons (g8.at (g7.at e6)) (.cons (by rw [ZY];exact g8.at e7) .nil))
        ·rename_i hc hd
         refine hR _ _ ⟨L,false,g5,rfl,(fun _=>?_),by rw [Jt,append_nil];exact R5⟩
         first | exact hc | exact Classical.not_not.mp hc
        ·rename_i hc p6 H6 g6 e6 p7 H7 g7 e7 l8 H8 g8 e8
         exact done (g6.trans (g7.trans g8)) e8 (.cons (g8.at (g7.at e6)) (.cons (by rw [ZY];exact g8.at e7) .nil))
      ·have done : ∀ {l:Addr} {us:List V} {H':Hp},zc H4 H'->H' l=some (.lst us)->Rw H' us [kr kH,⟨dw b, "number", 2,16⟩]->zC2 (.ref L) (.ref l) H' (fun y H5=>R { nx:=fun x H'=>Q V.non H',rt:=Q } ([some (.ref p),some (.int bits),some (.ref L),some (.int fg),some (.int pl),some (.int b),some (.str sn),some (.int z),some (.str (T [m])),some (.str (T [pt])),some (.str wy)].set 2 (some y)) H5):=fun g e r=>j0 R4 g e r (by show 3+2<=1000;decide) fun L2 H5 g5 R5=>hR _ _ ⟨L2,true,g4.trans (g.trans g5),rfl,trivial,R5⟩
       walk_at "rd"
       ·rename_i hc hd p5 H5 g5 e5 p6 H6 g6 e6 l7 H7 g7 e7
        exact done (g5.trans (g6.trans g7)) e7 (.cons (g7.at (g6.at e5)) (.cons (g7.at e6) .nil))
       ·rename_i hc hd
        exact hR _ _ ⟨L,false,g4,rfl,trivial,R4⟩
       ·rename_i hc p5 H5 g5 e5 p6 H6 g6 e6 l7 H7 g7 e7
        exact done (g5.trans (g6.trans g7)) e7 (.cons (g7.at (g6.at e5)) (.cons (g7.at e6) .nil))
     ·walk_at "rd"
      rename_i p1 H4 g4 e4 p2 H5 g5 e5 p3 H6 g6 e6 L H7 g7 e7
      exact hR _ _ ⟨L,g3.trans (g4.trans (g5.trans (g6.trans g7))),rfl,_,e7,.cons (g7.at (g6.at (g5.at e4))) (.cons (g7.at (g6.at e5)) (.cons (g7.at e6) .nil))⟩
    ·walk_at "rd"
     refine Vr (n:=13) hp rfl (by decide) fun p2 H3 g3 e3=>?_
     have e3':H3 p2=some (.tup [.int fg,.int pl,.int b,.str sn,.int z,.str (T [m]),.str (T [pt]),.str wy]):=e3
     clear e3
     walk_at "rd"
     exact hR _ _ ⟨g3,rfl⟩
   ·walk_at "rd"
    exact hR _ _ ⟨rfl,rfl⟩
  ·walk_at "rd"
   exact hR _ _ ⟨rfl,rfl⟩
 ·unfold QU at hp
  have o1:=wr.lo1;have o2:=wr.lo2;have o3:=wr.hi2
  walk_at "rd"
  rename_i p1 H1 g1 e1
  refine ⟨sg,_,rfl,se.d.s2,se.ne,zKc se.d,fun w H2 g2 hw=>?_⟩
  have hp2:=g2.at (g1.at hp)
  walk_at "rd"
  rename_i p3 H3 g3 e3 l4 H4 g4 e4 p5 H5 g5 e5 p6 H6 g6 e6 l7 H7 g7 e7
  have R4:Rws H4 l4 [⟨ja, "kind", 0,0⟩,⟨w, "signs", 0,0⟩]:=⟨_,e4,.cons (g4.at (g3.at (g2.at e1))) (.cons (g4.at e3) .nil)⟩
  refine j0 (ts:=[⟨dw lo, "number", 0,24⟩,⟨dw hi, "number", lo,24⟩]) R4 (g5.trans (g6.trans g7)) e7 (.cons (g7.at (g6.at e5)) (.cons (g7.at e6) .nil)) (by show 2+2<=1000;decide) fun L8 H8 g8 R8=>?_
  have g08:zc H H8:=g1.trans (g2.trans (g3.trans (g4.trans (g5.trans (g6.trans (g7.trans g8))))))
  have hp8:=g08.at hp
  clear e1 e3 e4 e5 e6 e7 R4
  walk_at "rd"
  ·rename_i p9 H9 g9 e9 l10 H10 g10 e10 hc l11 H11 g11 e11
   have e11':H11 l11=some (.lst [.ref p9]):=e11
   exact j0 R8 (g9.trans (g10.trans g11)) e11' (.cons (g11.at (g10.at e9)) .nil) (by show 4+1<=1000;decide) fun L12 H12 g12 R12=>q L12 H12 _ (g08.trans (g9.trans (g10.trans (g11.trans g12)))) ⟨w,hw,by rw [decide_eq_true hc];rfl⟩ R12
  ·rename_i p9 H9 g9 e9 l10 H10 g10 e10 hc l11 H11 g11 e11
   have e11':H11 l11=some (.lst []):=e11
   exact j0 R8 (g9.trans (g10.trans g11)) e11' .nil (by show 4+0<=1000;decide) fun L12 H12 g12 R12=>q L12 H12 _ (g08.trans (g9.trans (g10.trans (g11.trans g12)))) ⟨w,hw,by rw [decide_eq_false hc];rfl⟩ R12
 ·unfold Xf at hp
  have tl:(tsV ns).length=ns.length:=length_map _
  walk_at "rd"
  rename_i p1 H1 g1 e1 p2 H2 g2 e2 l3 H3 g3 e3
  rw [tl] at e2
  have R3:Rws H3 l3 [⟨qi, "kind", 0,0⟩,⟨dw ns.length, "number", 1,12⟩]:=⟨_,e3,.cons (g3.at (g2.at e1)) (.cons (g3.at e2) .nil)⟩
  have g03:zc H H3:=g1.trans (g2.trans g3)
  have hL3:=g03.at hL
  refine yr (SqL.of hL3) (qz (by omega)) (fun i ys H'=>zc H3 H'/\Rw H' ys ((ns.take i).map zAR)) ⟨zc.refl _,.nil⟩ (fun i ys H' hi h=>⟨SqL.of (h.1.at hL3),by rw [h.2.len,length_map,length_take];omega⟩) ?_ ?_
  ·rintro i y ys H4 hy hi ⟨g4,r4⟩
   have il:i < ns.length:=by omega
   have ey:y = .str (T ns[i]):=by
    unfold tsV at hy
    rw [getElem?_map,getElem?_eq_getElem il] at hy
    exact (Option.some.inj hy).symm
   subst ey
   walk_at "rd"
   rename_i p5 H5 g5 e5
   refine nxC hi ⟨g4.trans g5,?_⟩
   rw [List.take_succ_eq_append_getElem il,map_append]
   exact (r4.same g5).app (.cons e5 .nil)
  ·rintro ys H4 ⟨g4,r4⟩ p5 H5 g5 e5
   rw [tl,take_length] at r4
   exact j0 R3 (g4.trans g5) e5 (r4.same g5) (by show 2+_<=1000;rw [length_map];omega) fun L6 H6 g6 R6=>q L6 H6 _ (g03.trans (g4.trans (g5.trans g6))) (by show _=ZB ns [];unfold ZB;rw [append_nil];rfl) R6
theorem jK {c:Bool} {l:List Row}:(qm c l).length<=l.length:=by
 cases c with
 | true=>exact Nat.le_refl _
 | false=>exact zero_le _
theorem SpA.bd {p:Addr} {x:Str} {W:List Row->Prop} {d:Str} {sh:Int} (h:SpA H p wd f x st W d sh):0<=wd/\wd<=40/\Sgn f/\zAO x /\ ∀ ws,W ws->ws.length<=14:=by
 rcases h with ⟨fg,pl,b,sn,z,m,pt,wy,hp,ok,sg3,hs,rfl,rfl,rfl⟩ | ⟨sg,lo,hi,hp,se,wr,hs,rfl,rfl,rfl⟩ | ⟨L0,ns,hp,hL,nm,n1,n12,wc,hs,rfl,rfl,rfl⟩
 ·refine ⟨ok.wd1,ok.wd2,sg3.2.2,ok.x,?_⟩
  rintro ws ⟨cb,cg,cp,cw,_,rfl⟩
  unfold Kc
  simp only [length_cons,length_append,length_nil]
  have a1:=jK (c:=cb) (l:=[kr kH,⟨dw b, "number", 2,16⟩])
  have a2:=jK (c:=cg) (l:=[kr kC,⟨Lt sn, "style", 0,0⟩])
  have a3:=jK (c:=decide (0 < z)) (l:=[kr qt,⟨dw z, "number", 1,9⟩,⟨sw m, "sign", 0,0⟩])
  have a4:=jK (c:=cp) (l:=[kr jQ,⟨sw pt, "sign", 0,0⟩])
  have a5:=jK (c:=cw) (l:=[kr ZS,⟨Lt wy, "way", 0,0⟩])
  simp only [length_cons,length_nil] at a1 a2 a3 a4 a5
  omega
 ·refine ⟨wr.wd1,wr.wd2,wr.f,.inl wr.x,?_⟩
  rintro ws ⟨w,_,rfl⟩
  have:=jK (c:=decide (32 ∈ sg)) (l:=[kr jT])
  unfold zAK
  simp only [length_cons,length_append,length_nil] at this ⊢
  omega
 ·refine ⟨wc.wd1,wc.wd2,wc.f,.inl wc.x,?_⟩
  rintro ws rfl
  unfold ZB
  simp only [length_cons,length_append,length_map,length_nil]
  omega
def y4 (K:PySem.W.Frag):Sp:=fun vs H Q _=>∃ (p:Addr) (bits wd:Int) (f:Nat) (x:Str) (st:Bool) (W:List Row->Prop) (d:Str) (sh:Int),vs=[.ref p,.int bits]/\SpA H p wd f x st W d sh /\ ∀ L H' ws cf cs,zc H H'->W ws->Rws H' L (ws++jP wd f (Lt x) cf cs st)->Q (.ref L) H'
include Z in
theorem Jr:Has P w K mg base "_law_word_rows" 5 ["_law_spec", "_law_bits"] (y4 K):=by
 refine xz Z.kn Z.bK (l2N (by intros;rfl)) fun fq fd F=>?_
 refine F.ok zw (fun vs H Q E=>?_) (fun _ _ _ s H vs Q E hr h=>?_)
 ·walk_at "ln"
 obtain ⟨p,bits,wd,f,x,st,W,d,sh,rfl,hA,q⟩:=h
 refine ⟨_,zD (zI (i:=2) zw.nd rfl (Or.inl rfl) (zH (JP Z) hr rfl (zA (pv 0) (zA (pv 1) (zC)))))
  (zD (ZU (zt Kr (pv 0) (zx (Zk xr (zB))) (qL)) (Vl rfl (qN (qF (i:=3) zw.nd rfl (Or.inl rfl)) (qN (qF (i:=4) zw.nd rfl (Or.inl rfl)) (qN (qF (i:=5) zw.nd rfl (Or.inl rfl)) (qN (qF (i:=6) zw.nd rfl (Or.inl rfl)) (XO)))))))
  (zD (zI (i:=7) zw.nd rfl (Or.inl rfl) (za zi (zd (zA (zZ) (zA (zZ) (zC)))) (qC j3 rfl Z.aw QN (zA (zy qJ (za zl (pv 0) (zB) (fun _ _=>rfl)) (zE (l:=[110,117,109,98,101,114]) (by decide +kernel)) (zS _)) (zC))) (fun _ _=>rfl)))
  (zD (z5 (zT Zp (pv 3) (zB) (zS _)) (zF (zI (i:=2) zw.nd rfl (Or.inl rfl) (zP jX (pv 2) (zd (zA (zo (zA (zE (l:=[119,105,100,116,104]) (by decide +kernel)) (zA (zZ) (zA (zB) (zA (zB) (zC)))))) (zA (zo (zA (qC xC rfl Z.ar y7 (zA (pv 3) (zC))) (zA (zZ) (zA (zB) (zA (zB) (zC)))))) (zC))))))) (zX))
  (zD (z5 (PW.pt (kz (zT kg (pv 4) (zE (l:=[32]) (by decide +kernel)) (zS _)) (j8 (zT qJ (zP qE (zP qb (pv 1) (zB)) (zB)) (zB) (zS _))))) (zF (zI (i:=2) zw.nd rfl (Or.inl rfl) (zP jX (pv 2) (zd (zA (zo (zA (zE (l:=[102,105,108,108]) (by decide +kernel)) (zA (zZ) (zA (zB) (zA (zB) (zC)))))) (zA (zo (zA (zH (xc Z) hr rfl (zA (pv 4) (zC))) (zA (zZ) (zA (zB) (zA (zB) (zC)))))) (zC))))))) (zX))
  (zD (z5 (PW.pt (kz (zT kg (pv 5) (pv 7) (zS _)) (j8 (zT qJ (zP qE (zP qb (pv 1) (zB)) (zB)) (zB) (zS _))))) (zF (zI (i:=2) zw.nd rfl (Or.inl rfl) (zP jX (pv 2) (zd (zA (zo (zA (zE (l:=[115,105,100,101]) (by decide +kernel)) (zA (zZ) (zA (zB) (zA (zB) (zC)))))) (zA (zo (zA (pv 5) (zA (zZ) (zA (zB) (zA (zB) (zC)))))) (zC))))))) (zX))
  (zF (zQ (zP jX (pv 2) (zt yU (zd (zA (zo (zA (zE (l:=[115,116,114,105,99,116]) (by decide +kernel)) (zA (zZ) (zA (zB) (zA (zB) (zC)))))) (zC))) (qL) (zx (qC j3 rfl Z.aw QN (zA (pv 6) (zC))))))))))))),?_⟩
 walk_at "st"
 obtain ⟨o9,o10,_,_,hW⟩:=hA.bd
 refine z7 (fun σ' H'=>∃ L ws,zc H H'/\σ'=[some (.ref p),some (.int bits),some (.ref L),none,none,none,none,none]/\W ws/\Rws H' L ws) (fun σ1 H1 h=>?_) (fun R hR=>?_)
 ·obtain ⟨L,ws1,g1,rfl,w1,R1⟩:=h
  have l1:=hW ws1 w1
  have hA1:=hA.same g1
  refine z7 (fun σ' H'=>zc H H'/\Rws H' L ws1/\SpA H' p wd f x st W d sh/\σ'=[some (.ref p),some (.int bits),some (.ref L),some (.int wd),some (.str (T [f])),some (.str x),some (.bl st),none]) (fun σ2 H2 h=>?_) (fun R hR=>?_)
  ·obtain ⟨g2,R2,hA2,rfl⟩:=h
   clear R1 hA1
   refine z7 (fun σ' H'=>zc H H'/\Rws H' L ws1/\σ'=[some (.ref p),some (.int bits),some (.ref L),some (.int wd),some (.str (T [f])),some (.str x),some (.bl st),some (.str d)]) (fun σ3 H3 h=>?_) (fun R hR=>?_)
   ·obtain ⟨g3,R3,rfl⟩:=h
    clear hA2
    refine z7 (fun σ' H'=>∃ L,zc H H'/\σ'=[some (.ref p),some (.int bits),some (.ref L),some (.int wd),some (.str (T [f])),some (.str x),some (.bl st),some (.str d)]/\Rws H' L (ws1++qm (decide (0 < wd)) [kr jq,⟨dw wd, "number", 1,40⟩])) (fun σ4 H4 h=>?_) (fun R hR=>?_)
    ·obtain ⟨L,g4,rfl,R4⟩:=h
     clear R3 g3
     have l4:(ws1++qm (decide (0 < wd)) [kr jq,⟨dw wd, "number", 1,40⟩]).length<=16:=by
      have:=jK (c:=decide (0 < wd)) (l:=[kr jq,⟨dw wd, "number", 1,40⟩])
      simp only [length_cons,length_nil] at this
      rw [length_append];omega
     generalize hw4:ws1++qm (decide (0 < wd)) [kr jq,⟨dw wd, "number", 1,40⟩]=ws4 at *
     refine z7 (fun σ' H'=>∃ L cf,zc H H'/\σ'=[some (.ref p),some (.int bits),some (.ref L),some (.int wd),some (.str (T [f])),some (.str x),some (.bl st),some (.str d)]/\True/\Rws H' L (ws4++qm cf [kr jS,⟨sw f, "sign", 0,0⟩])) (fun σ5 H5 h=>?_) (fun R hR=>?_)
     ·obtain ⟨L,cf,g5,rfl,i5,R5⟩:=h
      clear R4 g4
      have l5:(ws4++qm cf [kr jS,⟨sw f, "sign", 0,0⟩]).length<=18:=by
       have:=jK (c:=cf) (l:=[kr jS,⟨sw f, "sign", 0,0⟩])
       simp only [length_cons,length_nil] at this
       rw [length_append];omega
      generalize hw5:ws4++qm cf [kr jS,⟨sw f, "sign", 0,0⟩]=ws5 at *
      refine z7 (fun σ' H'=>∃ L cs,zc H H'/\σ'=[some (.ref p),some (.int bits),some (.ref L),some (.int wd),some (.str (T [f])),some (.str x),some (.bl st),some (.str d)]/\True/\Rws H' L (ws5++qm cs [kr jv,⟨Lt x, "side", 0,0⟩])) (fun σ6 H6 h=>?_) (fun R hR=>?_)
      ·obtain ⟨L,cs,g6,rfl,i6,R6⟩:=h
       clear R5 g5
       have l6:(ws5++qm cs [kr jv,⟨Lt x, "side", 0,0⟩]).length<=20:=by
        have:=jK (c:=cs) (l:=[kr jv,⟨Lt x, "side", 0,0⟩])
        simp only [length_cons,length_nil] at this
        rw [length_append];omega
       have fin : ∀ L2 H2,zc H6 H2->Rws H2 L2 ((ws5++qm cs [kr jv,⟨Lt x, "side", 0,0⟩])++qm st [kr zu])->Q (.ref L2) H2:=fun L2 H2 g r=>by
        refine q L2 H2 ws1 cf cs (g6.trans g) w1 ?_
        rw [<- hw5,<- hw4] at r
        unfold jP
        simp only [append_assoc,append_nil] at r ⊢
        exact r
       cases st with
       | true =>
        walk_at "rd"
        rename_i p7 H7 g7 e7 l8 H8 g8 e8 l9 H9 g9 e9
        have e9':H9 l9=some (.lst [.ref p7]):=e9
        exact j0 R6 (g7.trans (g8.trans g9)) e9' (.cons (g9.at (g8.at e7)) .nil) (by show _+1<=1000;omega) fun L2 H2 g r=>fin L2 H2 (g7.trans (g8.trans (g9.trans g))) r
       | false =>
        walk_at "rd"
        rename_i p7 H7 g7 e7 l8 H8 g8 e8 l9 H9 g9 e9
        have e9':H9 l9=some (.lst []):=e9
        exact j0 R6 (g7.trans (g8.trans g9)) e9' .nil (by show _+0<=1000;omega) fun L2 H2 g r=>fin L2 H2 (g7.trans (g8.trans (g9.trans g))) r
      ·have done : ∀ {l:Addr} {us:List V} {H':Hp},zc H5 H'->H' l=some (.lst us)->Rw H' us [kr jv,⟨Lt x, "side", 0,0⟩]->zC2 (.ref L) (.ref l) H' (fun y H5=>R { nx:=fun x H'=>Q V.non H',rt:=Q } ([some (.ref p),some (.int bits),some (.ref L),some (.int wd),some (.str (T [f])),some (.str x),some (.bl st),some (.str d)].set 2 (some y)) H5):=fun g e r=>j0 R5 g e r (by show _+2<=1000;omega) fun L2 H6 g6 R6=>hR _ _ ⟨L2,true,g5.trans (g.trans g6),rfl,trivial,R6⟩
       walk_at "rd"
       ·rename_i hc hd p6 H6 g6 e6 p7 H7 g7 e7 l8 H8 g8 e8
        exact done (g6.trans (g7.trans g8)) e8 (.cons (g8.at (g7.at e6)) (.cons (by rw [ZY];exact g8.at e7) .nil))
       ·rename_i hc hd
        exact hR _ _ ⟨L,false,g5,rfl,trivial,by rw [Jt,append_nil];exact R5⟩
       ·rename_i hc p6 H6 g6 e6 p7 H7 g7 e7 l8 H8 g8 e8
        exact done (g6.trans (g7.trans g8)) e8 (.cons (g8.at (g7.at e6)) (.cons (by rw [ZY];exact g8.at e7) .nil))
     ·have done : ∀ {l:Addr} {us:List V} {H':Hp},zc H4 H'->H' l=some (.lst us)->Rw H' us [kr jS,⟨sw f, "sign", 0,0⟩]->zC2 (.ref L) (.ref l) H' (fun y H5=>R { nx:=fun x H'=>Q V.non H',rt:=Q } ([some (.ref p),some (.int bits),some (.ref L),some (.int wd),some (.str (T [f])),some (.str x),some (.bl st),some (.str d)].set 2 (some y)) H5):=fun g e r=>j0 R4 g e r (by show _+2<=1000;omega) fun L2 H6 g6 R6=>hR _ _ ⟨L2,true,g4.trans (g.trans g6),rfl,trivial,R6⟩
      walk_at "rd"
      ·rename_i hc hd p6 H6 g6 e6 p7 H7 g7 e7 l8 H8 g8 e8
       exact done (g6.trans (g7.trans g8)) e8 (.cons (g8.at (g7.at e6)) (.cons (g8.at e7) .nil))
      ·rename_i hc hd
       exact hR _ _ ⟨L,false,g4,rfl,trivial,by rw [Jt,append_nil];exact R4⟩
      ·rename_i hc p6 H6 g6 e6 p7 H7 g7 e7 l8 H8 g8 e8
       exact done (g6.trans (g7.trans g8)) e8 (.cons (g8.at (g7.at e6)) (.cons (g8.at e7) .nil))
    ·walk_at "rd"
     ·rename_i hc p6 H6 g6 e6 p7 H7 g7 e7 l8 H8 g8 e8
      refine j0 (ts:=[kr jq,⟨dw wd, "number", 1,40⟩]) R3 (g6.trans (g7.trans g8)) e8 (.cons (g8.at (g7.at e6)) (.cons (g8.at e7) .nil)) (by show _+2<=1000;omega) fun L2 H9 g9 R9=>?_
      walk_at "rd"
      refine hR _ _ ⟨L2,g3.trans (g6.trans (g7.trans (g8.trans g9))),rfl,?_⟩
      rw [decide_eq_true hc];exact R9
     ·rename_i hc
      refine hR _ _ ⟨L,g3,rfl,?_⟩
      rw [decide_eq_false hc,Jt,append_nil];exact R3
   ·rcases hA2 with ⟨fg,pl,b,sn,z,m,pt,wy,hp,ok,sg3,hs,rfl,rfl,rfl⟩ | ⟨sg,lo,hi,hp,se,wr,hs,rfl,rfl,rfl⟩ | ⟨L0,ns,hp,hL,nm,n1,n12,wc,hs,rfl,rfl,rfl⟩
    ·unfold Xo at hp
     walk_at "rd"
     rename_i l3 H3 g3 e3
     exact hR _ _ ⟨g2.trans g3,R2.same g3,rfl⟩
    ·unfold QU at hp
     walk_at "rd"
     rename_i l3 H3 g3 e3
     exact hR _ _ ⟨g2.trans g3,R2.same g3,rfl⟩
    ·unfold Xf at hp
     walk_at "rd"
     rename_i l3 H3 g3 e3
     exact hR _ _ ⟨g2.trans g3,R2.same g3,rfl⟩
  ·have hA0:=hA1
   rcases hA1 with ⟨fg,pl,b,sn,z,m,pt,wy,hp,ok,sg3,hs,rfl,rfl,rfl⟩ | ⟨sg,lo,hi,hp,se,wr,hs,rfl,rfl,rfl⟩ | ⟨L0,ns,hp,hL,nm,n1,n12,wc,hs,rfl,rfl,rfl⟩
   ·unfold Xo at hp
    walk_at "rd"
    refine Vr (n:=13) hp rfl (by decide) fun p2 H3 g3 e3=>?_
    have e3':H3 p2=some (.tup [.int wd,.str (T [f]),.str x,.bl st]):=e3
    clear e3
    walk_at "rd"
    exact hR _ _ ⟨g1.trans g3,R1.same g3,hA0.same g3,rfl⟩
   ·unfold QU at hp
    walk_at "rd"
    refine Vr (n:=8) hp rfl (by decide) fun p2 H3 g3 e3=>?_
    have e3':H3 p2=some (.tup [.int wd,.str (T [f]),.str x,.bl st]):=e3
    clear e3
    walk_at "rd"
    exact hR _ _ ⟨g1.trans g3,R1.same g3,hA0.same g3,rfl⟩
   ·unfold Xf at hp
    walk_at "rd"
    refine Vr (n:=6) hp rfl (by decide) fun p2 H3 g3 e3=>?_
    have e3':H3 p2=some (.tup [.int wd,.str (T [f]),.str x,.bl st]):=e3
    clear e3
    walk_at "rd"
    exact hR _ _ ⟨g1.trans g3,R1.same g3,hA0.same g3,rfl⟩
 ·walk_at "rd"
  refine ⟨p,bits,wd,f,x,st,W,d,sh,rfl,hA,fun L H1 ws g1 w1 R1=>?_⟩
  walk_at "rd"
  exact hR _ _ ⟨L,ws,g1,rfl,w1,R1⟩
def wok (w:Wd):Bool:=w.all (fun c=>decide (c ∈ Lt Q6)) && decide (w.length<=100) && (decide (w.length<=60) || decide (w.head? = some 61))
structure Wk1 (w:Wd):Prop where
 sg : ∀ c ∈ w,c ∈ Lt Q6
 l:w.length<=100
 h:w.length<=60\/w.head? = some 61
theorem qw {w:Wd}:wok w=true↔Wk1 w:=by
 unfold wok
 simp only [Bool.and_eq_true,Bool.or_eq_true,decide_eq_true_eq,all_eq_true]
 exact ⟨fun h=>⟨h.1.1,h.1.2,h.2⟩,fun h=>⟨⟨h.sg,h.l⟩,h.h⟩⟩
theorem zHx {c:Nat} (h:c ∈ Lt Q6):c < 127:=(show ∀ c ∈ Lt Q6,c < 127 by decide +kernel) c h
theorem zKZ {c:Nat} (h:c ∈ Lt Q6):c≠32:=fun e=>absurd (e ▸ h) (by decide +kernel)
theorem Wk1.wk {w:Wd} (h:Wk1 w):WkW w:=⟨fun c hc=>zHx (h.sg c hc),h.l,h.h⟩
theorem zA6 {u:Wd} {us:List Wd}:jn [32] (u::us)=u++(us.map ([32] ++ ·)).flatten:=rfl
theorem KW {ws:List Wd} (h : ∀ w ∈ ws,Wk1 w):(jn [32] ws).all sgB=true/\(jn [32] ws).length<=101*ws.length/\ws.flatten.length<=100*ws.length:=by
 have one : ∀ {u:Wd},Wk1 u->u.all sgB=true:=fun {u} k=>by
  rw [all_eq_true]
  intro c hc
  unfold sgB
  rw [decide_eq_true (k.sg c hc),Bool.or_true]
 have tail : ∀ (us:List Wd),(∀ t ∈ us,Wk1 t)->((us.map ([32] ++ ·)).flatten).all sgB=true/\((us.map ([32] ++ ·)).flatten).length<=101*us.length/\us.flatten.length<=100*us.length:=fun us=>by
  induction us with
  | nil=>exact fun _=>⟨rfl,Nat.le_refl _,Nat.le_refl _⟩
  | cons u us ih =>
   intro hu
   obtain ⟨a1,a2,a3⟩:=ih fun t ht=>hu t (mem_cons_of_mem _ ht)
   have w:=hu u (mem_cons_self ..)
   have wl:=w.l
   refine ⟨?_,?_,?_⟩
   ·rw [map_cons,flatten_cons,all_append,all_append,a1,one w];rfl
   ·simp only [map_cons,flatten_cons,length_append,length_cons,length_nil];omega
   ·rw [flatten_cons,length_append,length_cons];omega
 refine ⟨?_,?_,(tail ws h).2.2⟩
 ·cases ws with
  | nil=>rfl
  | cons u us =>
   rw [zA6,all_append,one (h u (mem_cons_self ..)),(tail us fun t ht=>h t (mem_cons_of_mem _ ht)).1];rfl
 ·cases ws with
  | nil=>exact zero_le _
  | cons u us =>
   have t:=(tail us fun t ht=>h t (mem_cons_of_mem _ ht)).2.1
   have wl:=(h u (mem_cons_self ..)).l
   rw [zA6,length_append,length_cons];omega
theorem YH {ws:List Wd} (ne:ws≠[]) (l:ws.length<=45) (h : ∀ w ∈ ws,Wk1 w):Wds ws:=
 ⟨ne,fun t ht z=>zKZ ((h t ht).sg 32 z) rfl,(KW h).1,le_trans (KW h).2.1 (by omega),by omega,fun t ht=>(h t ht).wk⟩
def nz (ws:List Wd):List Wd:=if ws=[] then [[]] else ws
theorem zKf {ws:List Wd}:jn [32] (nz ws)=jn [32] ws:=by
 unfold nz
 split
 ·rename_i h;rw [h];rfl
 ·rfl
theorem zJk {ws:List Wd} (l:ws.length<=45) (h : ∀ w ∈ ws,Wk1 w):Wds (nz ws):=by
 unfold nz
 split
 ·exact YH (by simp) (by decide) fun w hw=>by rw [List.mem_singleton.mp hw];exact qw.mp (by decide +kernel)
 ·rename_i hn;exact YH hn l h
def zJe:List Str:=["kind", "number", "style", "way", "sign", "signs", "name", "side", "key"]
structure RwP (r:Row):Prop where
 w:Wk1 r.w
 role:r.role ∈ zJe
 lo0:0<=r.lo
 lo1:r.lo<=24
 hi0:0<=r.hi
 hi1:r.hi<=40
theorem zBn {n:Int} (h0:0<=n) (h1:n<=41):Wk1 (dw n):=by
 obtain ⟨a,b,c,d⟩:=zAj h0
 have l:(dw n).length<=2:=by rw [zIQ h0 h1];split <;> simp
 refine ⟨fun e he=>?_,by omega,.inl (by omega)⟩
 have g:=List.all_eq_true.mp (Kk a) e he
 simp only [Bool.and_eq_true,decide_eq_true_eq] at g
 have : ∀ e,e < 58->48<=e->e ∈ Lt Q6:=by decide +kernel
 exact this e (by omega) g.1
theorem zGW {c:Nat} (h:Sgn c):Wk1 (sw c):=by
 unfold sw
 split
 ·exact qw.mp (by decide +kernel)
 ·rename_i z
  exact ⟨fun d hd=>by rw [List.mem_singleton.mp hd];exact h.resolve_left z,by show 1<=100;decide,.inl (by show 1<=60;decide)⟩
theorem zFC : ∀ {l:List Nat} {a b:Nat},l.Pairwise (· < ·)->(∀ c ∈ l,a<=c/\c < b)->l.length<=b - a
 | [],_,_,_,_=>zero_le _
 | c::r,a,b,h,k=>by
  have hc:=k c (mem_cons_self ..)
  obtain ⟨h1,h2⟩:=List.pairwise_cons.mp h
  have:=zFC (a:=c+1) (b:=b) h2 fun d hd=>⟨h1 d hd,(k d (mem_cons_of_mem _ hd)).2⟩
  rw [length_cons];omega
theorem zIy {w sg:Wd} (hs:SgE sg) (h:SgW w (wo 32 sg)):Wk1 w:=by
 rcases h.2 with ⟨n,v,hk,rfl⟩ | rfl
 ·rcases hk with ⟨rfl,_⟩ | ⟨rfl,_⟩ | ⟨rfl,_⟩ | ⟨rfl,_⟩ <;> exact qw.mp (by decide +kernel)
 ·have l:=zFC (a:=32) (b:=127) hs.d.up fun c hc=>⟨zE0 (hs.d.sgn c hc),WA (hs.d.sgn c hc)⟩
  have l2:(wo 32 sg).length<=sg.length:=List.length_filter_le _ _
  refine ⟨fun c hc=>?_,by rw [length_cons];omega,.inr rfl⟩
  rcases List.mem_cons.mp hc with rfl | hc
  ·decide +kernel
  ·obtain ⟨h3,h4⟩:=List.mem_filter.mp hc
   have h5:c≠32:=by simpa using h4
   exact (hs.d.sgn c h3).resolve_left h5
theorem yT {k:Wd} (h:wok k=true):RwP (kr k):=⟨qw.mp h,show ("key" : Str) ∈ zJe by decide +kernel,Int.le_refl _,show (0:Int)<=24 by decide,Int.le_refl _,show (0:Int)<=40 by decide⟩
theorem kW {w:Wd} {role:Str} (h:Wk1 w) (hr:role ∈ zJe):RwP ⟨w,role,0,0⟩:=⟨h,hr,Int.le_refl _,show (0:Int)<=24 by decide,Int.le_refl _,show (0:Int)<=40 by decide⟩
theorem kq {n:Int} (h0:0<=lo) (h1:lo<=24) (h2:lo<=n) (h3:n<=hi) (h4:hi<=40):RwP ⟨dw n, "number", lo,hi⟩:=⟨zBn (by omega) (by omega),show ("number" : Str) ∈ zJe by decide +kernel,h0,h1,show 0<=hi by omega,h4⟩
def Up (kw:Wd):Nat->List Row->Prop
 | _,[]=>True
 | j,r::rs=>(r.role = "key" -> j<=(yW kw).idxOf r.w/\r.w ∈ yW kw)/\Up kw (Vy kw j r) rs
theorem Up.mono : ∀ {rs:List Row} {i j:Nat},i<=j->Up kw j rs->Up kw i rs
 | [],_,_,_,_=>trivial
 | r::rs,i,j,hij,h=>by
  refine ⟨fun z=>⟨by have:=(h.1 z).1;omega,(h.1 z).2⟩,?_⟩
  have h2:=h.2
  unfold Vy at h2 ⊢
  split
  ·rename_i z;rw [if_pos z] at h2;exact h2
  ·rename_i z;rw [if_neg z] at h2;exact h2.mono hij
theorem Up.le : ∀ {rs:List Row} {j:Nat},Up kw j rs->j<=rs.foldl (Vy kw) j /\ ∀ r ∈ rs,r.role = "key" -> (yW kw).idxOf r.w+1<=rs.foldl (Vy kw) j/\r.w ∈ yW kw
 | [],_,_=>⟨Nat.le_refl _,fun r h=>nomatch h⟩
 | r::rs,j,h=>by
  obtain ⟨h1,h2⟩:=h.2.le
  have tj:j<=Vy kw j r:=by
   unfold Vy
   split
   ·rename_i z;have:=(h.1 z).1;omega
   ·exact Nat.le_refl _
  refine ⟨le_trans tj h1,fun q hq hk=>?_⟩
  rcases List.mem_cons.mp hq with rfl | hq
  ·have e:Vy kw j q=(yW kw).idxOf q.w+1:=if_pos hk
   rw [e] at h1
   exact ⟨by rw [List.foldl_cons,e];exact h1,(h.1 hk).2⟩
  ·exact h2 q hq hk
theorem yz {w:Wd} {role:Str} (h:role ≠ "key") (u:Up kw j rs):Up kw j (⟨w,role,lo,hi⟩::rs):=⟨fun z=>absurd z h,by unfold Vy;rw [if_neg (show ¬ (⟨w,role,lo,hi⟩:Row).role = "key" from h)];exact u⟩
theorem Zd {key:Wd} {c:Bool} {l:List Row} (hk:Kd kw) (h:(yW kw)[i]? = some key) (hl:Up kw (i+1) (l++rs)) (u:Up kw (i+1) rs):Up kw i (qm c (kr key::l)++rs):=by
 cases c with
 | false=>exact u.mono (by omega)
 | true =>
  have ix:(yW kw).idxOf key=i:=by
   obtain ⟨hi,e⟩:=List.getElem?_eq_some_iff.mp h
   rw [<- e];exact (ZP hk).idxOf_getElem i hi
  refine ⟨fun _=>⟨Nat.le_of_eq ix.symm,mem_of_getElem? h⟩,?_⟩
  have:Vy kw i (kr key)=i+1:=by
   show (if ("key" : Str) = "key" then (yW kw).idxOf key+1 else i)=_
   rw [if_pos rfl,ix]
  rw [this];exact hl
theorem V4 (hk:Kd kw) (l:L4 kw i):Up kw i (jP wd f x cf cs st):=by
 have u3:Up kw (i+3) (qm st [kr zu]++[]):=Zd hk l.d trivial trivial
 have u2:Up kw (i+2) (qm cs [kr jv,⟨x, "side", 0,0⟩]++(qm st [kr zu]++[])):=Zd hk l.c (yz (by decide +kernel) u3) u3
 have u1:Up kw (i+1) (qm cf [kr jS,⟨sw f, "sign", 0,0⟩]++(qm cs [kr jv,⟨x, "side", 0,0⟩]++(qm st [kr zu]++[]))):=Zd hk l.b (yz (by decide +kernel) u2) u2
 exact Zd hk l.a (yz (by decide +kernel) u1) u1
structure Xb (kw:Wd) (st okS:Bool) (rs:List Row):Prop where
 kd:Kd kw
 good:V6 kw st okS [] 0 p0 rs
 hd : ∃ tl,rs=⟨kw, "kind", 0,0⟩::tl
 row : ∀ r ∈ rs,RwP r
 len:rs.length<=21
 up:Up kw 0 rs
section
variable {P : Row -> Prop}
theorem wX {c:Bool} {l:List Row} (h : ∀ r ∈ l,P r) (k : ∀ r ∈ rs,P r) : ∀ r ∈ qm c l++rs,P r:=fun r hr=>by
 rcases List.mem_append.mp hr with q | q
 ·cases c with
  | true=>exact h r q
  | false=>cases q
 ·exact k r q
theorem all_cons {r0:Row} (h:P r0) (k : ∀ r ∈ rs,P r) : ∀ r ∈ r0::rs,P r:=fun r hr=>by
 rcases List.mem_cons.mp hr with rfl | q
 ·exact h
 ·exact k r q
theorem xL : ∀ r ∈ ([]:List Row),P r:=fun r h=>nomatch h
end
theorem zDj {x:Str} (h0:0<=wd) (h1:wd<=40) (hf:Sgn f) (hx:zAO x):(∀ r ∈ jP wd f (Lt x) cf cs st,RwP r)/\(jP wd f (Lt x) cf cs st).length<=7:=by
 have wx:Wk1 (Lt x):=by rcases hx with (rfl | rfl | rfl) | rfl <;> exact qw.mp (by decide +kernel)
 have k3 : ∀ r ∈ qm st [kr zu]++[],RwP r:=wX (all_cons (yT (by decide +kernel)) xL) xL
 have k2 : ∀ r ∈ qm cs [kr jv,⟨Lt x, "side", 0,0⟩]++(qm st [kr zu]++[]),RwP r:=wX (all_cons (yT (by decide +kernel)) (all_cons (kW wx (by decide +kernel)) xL)) k3
 have k1 : ∀ r ∈ qm cf [kr jS,⟨sw f, "sign", 0,0⟩]++(qm cs [kr jv,⟨Lt x, "side", 0,0⟩]++(qm st [kr zu]++[])),RwP r:=wX (all_cons (yT (by decide +kernel)) (all_cons (kW (zGW hf) (by decide +kernel)) xL)) k2
 have k0 : ∀ r ∈ (if (decide (0 < wd))=true then [kr jq,⟨dw wd, "number", 1,40⟩] else []),RwP r:=by
  split
  ·rename_i hc
   exact all_cons (yT (by decide +kernel)) (all_cons (kq (by decide) (by decide) (by have:=of_decide_eq_true hc;omega) h1 (by decide)) xL)
  ·exact xL
 refine ⟨fun r hr=>?_,?_⟩
 ·rcases List.mem_append.mp hr with q | q
  ·exact k0 r q
  ·exact k1 r q
 ·unfold jP
  have a0:=jK (c:=decide (0 < wd)) (l:=[kr jq,⟨dw wd, "number", 1,40⟩])
  have a1:=jK (c:=cf) (l:=[kr jS,⟨sw f, "sign", 0,0⟩])
  have a2:=jK (c:=cs) (l:=[kr jv,⟨Lt x, "side", 0,0⟩])
  have a3:=jK (c:=st) (l:=[kr zu])
  simp only [length_append,length_cons,length_nil] at a0 a1 a2 a3 ⊢
  omega
theorem SpA.ok {p:Addr} {x:Str} {W:List Row->Prop} {d:Str} {sh:Int} (h:SpA H p wd f x st W d sh) (hw:W ws) (cf cs:Bool) : ∃ kw,Xb kw st (decide (sh<=wd)) (ws++jP wd f (Lt x) cf cs st):=by
 obtain ⟨b0,b1,b2,b3,bl⟩:=h.bd
 have rl:=zDj (cf:=cf) (cs:=cs) (st:=st) b0 b1 b2 b3
 have lw:=bl ws hw
 have len:(ws++jP wd f (Lt x) cf cs st).length<=21:=by rw [length_append];have:=rl.2;omega
 rcases h with ⟨fg,pl,b,sn,z,m,pt,wy,hp,ok,sg3,hs,rfl,rfl,rfl⟩ | ⟨sg,lo,hi,hp,se,wr,hs,rfl,rfl,rfl⟩ | ⟨L0,ns,hp,hL,nm,n1,n12,wc,hs,rfl,rfl,rfl⟩
 ·obtain ⟨cb,cg,cp,cw,ic,rfl⟩:=hw
  have o1:=ok.fg1;have o2:=ok.fg2;have o3:=ok.pl1;have o4:=ok.pl2;have o5:=ok.b1;have o6:=ok.b2;have o7:=ok.z1;have o8:=ok.z2
  have hk:Kd zb:=.inl rfl
  have e:Kc fg pl b (Lt sn) z m pt (Lt wy) cb cg cp cw []++jP wd f (Lt x) cf cs st=Kc fg pl b (Lt sn) z m pt (Lt wy) cb cg cp cw (jP wd f (Lt x) cf cs st):=by
   unfold Kc;simp only [List.cons_append,append_assoc,nil_append]
  rw [e] at len ⊢
  have hst:Lt sn ∈ zDf:=by rcases ok.sn with rfl | rfl | rfl | rfl | rfl <;> decide +kernel
  have hwy:Lt wy ∈ zCN:=by rcases ok.wy with rfl | rfl | rfl | rfl | rfl <;> decide +kernel
  have hx:Lt x ∈ zC3:=by rcases ok.x with (rfl | rfl | rfl) | rfl <;> decide +kernel
  have wst:Wk1 (Lt sn):=by rcases ok.sn with rfl | rfl | rfl | rfl | rfl <;> exact qw.mp (by decide +kernel)
  have wwy:Wk1 (Lt wy):=by rcases ok.wy with rfl | rfl | rfl | rfl | rfl <;> exact qw.mp (by decide +kernel)
  refine ⟨zb,hk,zCu o1 o2 o3 o4 o5 o6 hst o7 o8 hwy ok.wd1 ok.wd2 hx (fun hc=>by rw [ic hc]) hs,⟨_,rfl⟩,?_,len,?_⟩
  ·have k5:=rl.1
   refine all_cons (kW (qw.mp (by decide +kernel)) (by decide +kernel)) (all_cons (kq (by decide) (by decide) o1 o2 (by decide)) (all_cons (kq (by decide) (by decide) o3 o4 (by decide)) (wX (all_cons (yT (by decide +kernel)) (all_cons (kq (by decide) (by decide) o5 o6 (by decide)) xL)) (wX (all_cons (yT (by decide +kernel)) (all_cons (kW wst (by decide +kernel)) xL)) ?_))))
   intro r hr
   rcases List.mem_append.mp hr with q | q
   ·unfold qm at q
    split at q
    ·rename_i hc
     exact all_cons (P:=RwP) (yT (by decide +kernel)) (all_cons (kq (by decide) (by decide) (by have:=of_decide_eq_true hc;omega) o8 (by decide)) (all_cons (kW (zGW sg3.1) (by decide +kernel)) xL)) r q
    ·cases q
   ·exact wX (P:=RwP) (all_cons (yT (by decide +kernel)) (all_cons (kW (zGW sg3.2.1) (by decide +kernel)) xL)) (wX (all_cons (yT (by decide +kernel)) (all_cons (kW wwy (by decide +kernel)) xL)) k5) r q
  ·have u5:=V4 hk q4N (wd:=wd) (f:=f) (x:=Lt x) (cf:=cf) (cs:=cs) (st:=st)
   have u4:Up zb 4 (qm cw [kr ZS,⟨Lt wy, "way", 0,0⟩]++jP wd f (Lt x) cf cs st):=Zd hk (by decide) (yz (by decide +kernel) u5) u5
   have u3:Up zb 3 (qm cp [kr jQ,⟨sw pt, "sign", 0,0⟩]++(qm cw [kr ZS,⟨Lt wy, "way", 0,0⟩]++jP wd f (Lt x) cf cs st)):=Zd hk (by decide) (yz (by decide +kernel) u4) u4
   have u2:Up zb 2 (qm (decide (0 < z)) [kr qt,⟨dw z, "number", 1,9⟩,⟨sw m, "sign", 0,0⟩]++(qm cp [kr jQ,⟨sw pt, "sign", 0,0⟩]++(qm cw [kr ZS,⟨Lt wy, "way", 0,0⟩]++jP wd f (Lt x) cf cs st))):=Zd hk (by decide) (yz (by decide +kernel) (yz (by decide +kernel) u3)) u3
   have u1:Up zb 1 (qm cg [kr kC,⟨Lt sn, "style", 0,0⟩]++(qm (decide (0 < z)) [kr qt,⟨dw z, "number", 1,9⟩,⟨sw m, "sign", 0,0⟩]++(qm cp [kr jQ,⟨sw pt, "sign", 0,0⟩]++(qm cw [kr ZS,⟨Lt wy, "way", 0,0⟩]++jP wd f (Lt x) cf cs st)))):=Zd hk (by decide) (yz (by decide +kernel) u2) u2
   exact yz (by decide +kernel) (yz (by decide +kernel) (yz (by decide +kernel) (Zd hk (by decide) (yz (by decide +kernel) u1) u1)))
 ·obtain ⟨w,hw,rfl⟩:=hw
  have o1:=wr.lo1;have o2:=wr.lo2;have o3:=wr.hi2
  have hk:Kd ja:=.inr (.inl rfl)
  have e:zAK w lo hi (decide (32 ∈ sg)) []++jP wd f (Lt x) cf cs st=zAK w lo hi (decide (32 ∈ sg)) (jP wd f (Lt x) cf cs st):=by
   unfold zAK;simp only [List.cons_append,append_assoc,nil_append]
  rw [e] at len ⊢
  have hx:Lt x ∈ YT:=by rcases wr.x with rfl | rfl | rfl <;> decide +kernel
  refine ⟨ja,hk,zAp hw.1 o1 o2 o3 wr.wd1 wr.wd2 hx hs,⟨_,rfl⟩,?_,len,?_⟩
  ·exact all_cons (kW (qw.mp (by decide +kernel)) (by decide +kernel)) (all_cons (kW (zIy se hw) (by decide +kernel)) (all_cons (kq (by decide) (by decide) o1 (by omega) (by decide)) (all_cons (kq o1 (by omega) o2 o3 (by decide)) (wX (all_cons (yT (by decide +kernel)) xL) rl.1))))
  ·have u1:=V4 hk q4W (wd:=wd) (f:=f) (x:=Lt x) (cf:=cf) (cs:=cs) (st:=st)
   exact yz (by decide +kernel) (yz (by decide +kernel) (yz (by decide +kernel) (yz (by decide +kernel) (Zd hk (by decide) u1 u1))))
 ·cases hw
  have hk:Kd qi:=.inr (.inr rfl)
  have e:ZB ns []++jP wd f (Lt x) cf cs st=ZB ns (jP wd f (Lt x) cf cs st):=by
   unfold ZB;simp only [List.cons_append,append_assoc,nil_append]
  rw [e] at len ⊢
  have hx:Lt x ∈ YT:=by rcases wc.x with rfl | rfl | rfl <;> decide +kernel
  refine ⟨qi,hk,V7 n1 n12 nm.len nm.nd wc.wd1 wc.wd2 hx hs,⟨_,rfl⟩,?_,len,?_⟩
  ·refine all_cons (kW (qw.mp (by decide +kernel)) (by decide +kernel)) (all_cons (kq (by decide) (by decide) (by omega) (by omega) (by decide)) ?_)
   intro r hr
   rcases List.mem_append.mp hr with q | q
   ·obtain ⟨t,ht,rfl⟩:=List.mem_map.mp q
    have:=nm.len t ht
    exact kW ⟨fun c hc=>nm.sgn t ht c hc,by omega,.inl (by omega)⟩ (by decide +kernel)
   ·exact rl.1 r q
  ·have u0:=V4 hk q4C (wd:=wd) (f:=f) (x:=Lt x) (cf:=cf) (cs:=cs) (st:=st)
   have un : ∀ l:List Wd,Up qi 0 (l.map zAR++jP wd f (Lt x) cf cs st):=fun l=>by
    induction l with
    | nil=>exact u0
    | cons t l ih=>exact yz (show ("name" : Str) ≠ "key" by decide +kernel) ih
   exact yz (by decide +kernel) (yz (by decide +kernel) (un ns))
theorem Qk (e:X.K=K):IxR X (zKE K):=e ▸ zl
theorem Rw.get : ∀ {vs:List V} {rs:List Row} {i:Nat} {x:V},Rw H vs rs->vs[i]? = some x -> ∃ p r,x = .ref p/\H p=some (.tup [.str (T r.w),.str r.role,.int r.lo,.int r.hi])/\rs[i]? = some r
 | _,_,_,_,.nil,h=>by cases h
 | _,_,0,_,.cons a _,h=>by cases h;exact ⟨_,_,rfl,a,rfl⟩
 | _,_,i+1,_,.cons _ t,h=>t.get (i:=i) h
def zI9:List V->Hp->VK->Prop:=fun xs H Q=>∃ i:Int,xs=[.int i] /\ -1<=i/\i<=41/\Q (.str (toString i)) H
theorem VO:jC X (.type "str") zI9:=fun pins s σ H xs us Q I r z=>by
 obtain ⟨i,e,h0,h1,q⟩:=z
 refine Qy pins s σ H xs us Q I r ⟨i,e,?_,q⟩
 rcases Nat.eq_zero_or_pos i.natAbs with z | z
 ·rw [z];decide
 ·exact Nat.lt_of_lt_of_le ((Nat.log2_lt (Nat.ne_of_gt z)).mpr (show i.natAbs < 2 ^ 6 by omega)) (by decide)
theorem zJs {i:Int} (h0 : -1<=i) (h1:i<=41) (q:Q (.str (toString i)) H):zI9 [.int i] H Q:=⟨i,rfl,h0,h1,q⟩
theorem zHt {l:Addr} (h:H l=some (.lst xs)) (h0:0<=k) (h1:k<=100) (hz:xs.length<=10) (q : ∀ p H',zc H H'->H' p=some (.lst (List.replicate k.toNat xs).flatten)->Q (.ref p) H'):zLp (.ref l) (.int k) H Q:=
 ⟨l,k,xs,rfl,rfl,h,by omega,by omega,le_trans (Nat.mul_le_mul hz (show k.toNat<=100 by omega)) (by decide),fun p hp=>q p _ (jB hp _) zK⟩
theorem zB5:X0=[[],[87,105,100,116,104],[55],[98,97,115,105,115],[61],[115,116,114,105,99,116,101,114],[119,105,100,116,104,115]]:=by decide +kernel
theorem zAW:Yo=[[],[78,117,109,98,101,114],[110,117,109,98,101,114,115],[102,111,114,109],[48]]:=by decide +kernel
theorem Kf:Ja=[[],[77,105,110,117,115],[110,111,110,101],[108,101,102,116],[43]]:=by decide +kernel
theorem zCC:Wb=[[],[110,101,97,114,101,115,116],[78,101,97,114],[48]]:=by decide +kernel
theorem Wo:Jy=[[],[98,108,97,110,107,115],[97,98],[45,45],[66,108,97,110,107]]:=by decide +kernel
theorem V9:QR=[[],[61],[76,111,119,101,114],[61,98,97],[61,97,97],[97,98,99],[98,108,97,110,107],[61,97,61],[61,97,99,98]]:=by decide +kernel
theorem K0 (h:r.role = "number"):Zl kw pre r=Xz r.lo r.hi:=if_pos h
theorem zCR (h:r.role = "name"):Zl kw pre r=J6 ((pre.drop 2).map (·.w)):=by
 unfold Zl;rw [h];rfl
theorem zLC (h:i<=xs.length):YV xs (some 2) (some (i:Int))=(xs.take i).drop 2:=by
 unfold YV
 rw [show ((2:Int))=((2:Nat):Int) from rfl,HT.sIx_nat,HT.sIx_nat,List.drop_take,Nat.min_eq_left h]
 rcases lt_or_ge xs.length 2 with z | z
 ·rw [drop_eq_nil_of_le (show xs.length<=min 2 xs.length by omega),drop_eq_nil_of_le (show xs.length<=2 by omega)];simp
 ·rw [Nat.min_eq_left z]
theorem Rw.take : ∀ {vs:List V} {rs:List Row} (i:Nat),Rw H vs rs->Rw H (vs.take i) (rs.take i)
 | _,_,0,_=>.nil
 | _,_,_+1,.nil=>.nil
 | _,_,i+1,.cons a t=>.cons a (t.take i)
theorem Rw.drop : ∀ {vs:List V} {rs:List Row} (i:Nat),Rw H vs rs->Rw H (vs.drop i) (rs.drop i)
 | _,_,0,h=>h
 | _,_,_+1,.nil=>.nil
 | _,_,i+1,.cons a t=>t.drop i
theorem VD {x:V}:(YV [x] none (some k)).length<=1:=by unfold YV;rw [length_take,length_drop,List.length_singleton];omega
def kB (K:W.Frag):Sp:=fun vs H Q _=>∃ (L:Addr) (i:Nat) (kw:Wd) (st okS:Bool) (rs:List Row) (r:Row),vs=[.ref L,.int i]/\Rws H L rs/\Xb kw st okS rs/\rs[i]? = some r /\ ∀ l H',zc H H'->H' l=some (.lst (tsV (Zl kw (rs.take i) r)))->Q (.ref l) H'
local macro_rules | `(tactic| walk_at "rdc")=>`(tactic| ((with_reducible refine' zJs ?h0 ?h1 ?_);(case h0|h1=>omega)))
variable {okS:Bool}
theorem zJS {vs:List V} (ok:Xb kw st okS rs) (R:Rw H vs rs) : ∃ p,vs[0]? = some (.ref p)/\H p=some (.tup [.str (T kw),.str "kind", .int 0,.int 0]):=by
 obtain ⟨tl,rfl⟩:=ok.hd
 cases R with
 | cons a t=>exact ⟨_,rfl,a⟩
include Z in
theorem Js:Has P w K mg base "_law_bad_words" 1 ["_law_rows", "_law_at"] (kB K):=by
 refine xz Z.kn Z.bL (l2N (by intros;rfl)) fun fq fd F=>?_
 refine F.ok qD (fun vs H Q E=>?_) (fun _ _ _ s H vs Q E hr h=>?_)
 ·walk_at "ln"
 obtain ⟨L,i,kw,st,okS,rs,r,rfl,⟨vs,eL,R0⟩,ok,hr,q⟩:=h
 refine ⟨_,zD (ZU (za zi (pv 0) (pv 1) (fun _ _=>rfl)) (Vl rfl (qN (qF (i:=2) qD.nd rfl (Or.inl rfl)) (qN (qF (i:=3) qD.nd rfl (Or.inl rfl)) (qN (qF (i:=4) qD.nd rfl (Or.inl rfl)) (qN (qF (i:=5) qD.nd rfl (Or.inl rfl)) (XO)))))))
  (zD (z5 (zT qJ (pv 3) (zZ) (zS _)) (zD (zI (i:=6) qD.nd rfl (Or.inl rfl) (zd (zA (zE (l:=[]) (by decide +kernel)) (zA (zE (l:=[45,49]) (by decide +kernel)) (zA (zE (l:=[48,49]) (by decide +kernel)) (zA (zE (l:=[120]) (by decide +kernel)) (zA (zE (l:=[49,46,48]) (by decide +kernel)) (zA (zE (l:=[49,48,48]) (by decide +kernel)) (zA (zE (l:=[43,49]) (by decide +kernel)) (zA (zE (l:=[48,48]) (by decide +kernel)) (zA (qC VO rfl Z.ar y7 (zA (zP z9 (pv 5) (zB)) (zC))) (zA (zE (l:=[49,97]) (by decide +kernel)) (zC) zY) zGV) zY) zY) zY) zY) zY) zY) zY) zY)))
  (zF (zQ (zP jX (pv 6) (zP zI8 (zt yU (zd (zA (qC VO rfl Z.ar y7 (zA (zP k7 (pv 4) (zB)) (zC))) (zC))) (qL) (zx (qC j3 rfl Z.aw QN (zA (zy Zp (pv 4) (zB) (zS _)) (zC))))) (zB)))))) (zX))
  (zD (z5 (zT qJ (pv 3) (zZ) (zS _)) (zF (zQ (zP jX (zd (zA (zE (l:=[]) (by decide +kernel)) (zA (zE (l:=[97,98,99,100,101,102,103,104,105,106,107,108,109]) (by decide +kernel)) (zC)))) (yq (cl:=[]) (fr:=[]) (is:=[]) rfl rfl trivial rfl trivial (by decide) (by decide +kernel) rfl (by decide +kernel) rfl (y0 (zt yU (pv 0) (zx (zB)) (zx (pv 1)))) (fun _ _ _ _=>j7) (fun _ _ _ _=>za (Qk (K:=K) rfl) (pv 0) (zB) (fun _ _=>rfl)))))) (zX))
  (zD (zI (i:=7) qD.nd rfl (Or.inl rfl) (zP jX (zd (zA (zE (l:=[]) (by decide +kernel)) (zA (zE (l:=[99,101,110,116,101,114]) (by decide +kernel)) (zA (zE (l:=[82,105,103,104,116]) (by decide +kernel)) (zA (zE (l:=[115,116,114,105,99,116]) (by decide +kernel)) (zC)))))) (zt yU (zd (zA (zE (l:=[105,110,115,105,100,101]) (by decide +kernel)) (zC))) (qL) (zx (qC j3 rfl Z.aw QN (zA (zy kg (za zl (za zi (pv 0) (zB) (fun _ _=>rfl)) (zB) (fun _ _=>rfl)) (zE (l:=[110,117,109,98,101,114]) (by decide +kernel)) (zS _)) (zC)))))))
  (zD (zI (i:=6) qD.nd rfl (Or.inl rfl) (zJT (Kb (x:="kind") (zd (zA (zE (l:=[]) (by decide +kernel)) (zA (zE (l:=[78,117,109,98,101,114]) (by decide +kernel)) (zA (zE (l:=[110,117,109,98,101,114,115]) (by decide +kernel)) (zA (zE (l:=[102,111,114,109]) (by decide +kernel)) (zA (zE (l:=[48]) (by decide +kernel)) (zC))))))) (Kb (x:="style") (zd (zA (zE (l:=[]) (by decide +kernel)) (zA (zE (l:=[77,105,110,117,115]) (by decide +kernel)) (zA (zE (l:=[110,111,110,101]) (by decide +kernel)) (zA (zE (l:=[108,101,102,116]) (by decide +kernel)) (zA (zE (l:=[43]) (by decide +kernel)) (zC))))))) (Kb (x:="side") (pv 7) (zHo)))) rfl rfl (by simp) (by decide) (by decide +kernel)))
  (zD (ZU (zd (zA (zE (l:=[]) (by decide +kernel)) (zA (zE (l:=[110,101,97,114,101,115,116]) (by decide +kernel)) (zA (zE (l:=[78,101,97,114]) (by decide +kernel)) (zA (zE (l:=[48]) (by decide +kernel)) (zC)))))) (YG (pv 6) (zZ) Yw))
  (zD (ZU (zd (zA (zE (l:=[]) (by decide +kernel)) (zA (zE (l:=[98,108,97,110,107,115]) (by decide +kernel)) (zA (zE (l:=[97,98]) (by decide +kernel)) (zA (zE (l:=[45,45]) (by decide +kernel)) (zA (zE (l:=[66,108,97,110,107]) (by decide +kernel)) (zC))))))) (YG (pv 6) (zZ) Yw))
  (zD (ZU (zd (zA (zE (l:=[]) (by decide +kernel)) (zA (zE (l:=[61]) (by decide +kernel)) (zA (zE (l:=[76,111,119,101,114]) (by decide +kernel)) (zA (zE (l:=[61,98,97]) (by decide +kernel)) (zA (zE (l:=[61,97,97]) (by decide +kernel)) (zA (zE (l:=[97,98,99]) (by decide +kernel)) (zA (zE (l:=[98,108,97,110,107]) (by decide +kernel)) (zA (zE (l:=[61,97,61]) (by decide +kernel)) (zA (zE (l:=[61,97,99,98]) (by decide +kernel)) (zC) zY) zY) zY) zY) zY) zY) zY) zY) zY)) (YG (pv 6) (zZ) Yw))
  (zD (ZU (zd (zA (zE (l:=[]) (by decide +kernel)) (zA (zE (l:=[87,105,100,116,104]) (by decide +kernel)) (zA (zE (l:=[55]) (by decide +kernel)) (zA (zE (l:=[98,97,115,105,115]) (by decide +kernel)) (zA (zE (l:=[61]) (by decide +kernel)) (zA (zE (l:=[115,116,114,105,99,116,101,114]) (by decide +kernel)) (zA (zE (l:=[119,105,100,116,104,115]) (by decide +kernel)) (zC) zY) zY) zY) zY) zY) zY) zY)) (YG (pv 6) (zZ) Yw))
  (zF (zQ (za zHy (pv 6) (pv 3) (fun _ _=>rfl)))))))))))),?_⟩
 walk_at "st"
 have ln:=R0.len
 have il:i < rs.length:=(List.getElem?_eq_some_iff.mp hr).1
 have l21:=ok.len
 have rp:=ok.row r (mem_of_getElem? hr)
 have lo0:=rp.lo0;have lo1:=rp.lo1;have hi0:=rp.hi0;have hi1:=rp.hi1
 walk_at "rd"
 refine qU (SqL.of eL) (by omega) (by omega) fun x hx=>?_
 rw [toNat_natCast] at hx
 obtain ⟨p,r',rfl,ep,hr'⟩:=R0.get hx
 have er:r'=r:=by rw [hr] at hr';cases hr';rfl
 subst er
 walk_at "rd"
 ·rename_i hc p2 H2 g2 e2 p3 H3 g3 e3 hl p4 H4 g4 e4
  rw [zCp (by omega) (by omega)] at e2 e3 e4
  refine zHt e4 (by decide) (by decide) (by show 1<=10;decide) fun p5 H5 g5 e5=>?_
  refine Qg (g5.at (g4.at (g3.at e2))) e5 (qz (by show 10+4<=1000;decide)) fun p6 H6 g6 e6=>?_
  refine q p6 H6 (g2.trans (g3.trans (g4.trans (g5.trans g6)))) ?_
  rw [e6,K0 hc]
  unfold Xz tsV
  rw [if_pos hl];rfl
 ·rename_i hc p2 H2 g2 e2 p3 H3 g3 e3 hl p4 H4 g4 e4
  rw [zCp (by omega) (by omega)] at e2
  refine zHt e4 (by decide) (by decide) (by show 0<=10;decide) fun p5 H5 g5 e5=>?_
  refine Qg (g5.at (g4.at (g3.at e2))) e5 (qz (by show 10+0<=1000;decide)) fun p6 H6 g6 e6=>?_
  refine q p6 H6 (g2.trans (g3.trans (g4.trans (g5.trans g6)))) ?_
  rw [e6,K0 hc]
  unfold Xz tsV
  rw [if_neg hl];rfl
 ·rename_i hc hn p2 H2 g2 e2 p3 H3 g3 e3
  have R3:Rw H3 (YV vs (some 2) (some (i:Int))) ((rs.take i).drop 2):=by
   rw [zLC (by omega)];exact (((R0.same (g2.trans g3)).take i).drop 2)
  generalize YV vs (some 2) (some (i:Int))=us at *
  have lu:=R3.len
  have ls:((rs.take i).drop 2).length<=21:=by rw [length_drop,length_take];omega
  generalize hts:(rs.take i).drop 2=ts at *
  refine yr (SqL.of e3) (qz (by omega)) (fun j ys H'=>H'=H3/\ys=tsV ((ts.take j).map (·.w))) ⟨rfl,rfl⟩ (fun j ys H' hj h=>by
   obtain ⟨rfl,rfl⟩:=h
   exact ⟨SqL.of e3,by unfold tsV;rw [length_map,length_map,length_take];omega⟩) ?_ ?_
  ·rintro j y ys H' hy hj ⟨rfl,rfl⟩
   obtain ⟨p4,r4,rfl,e4,h4⟩:=R3.get hy
   walk_at "rd"
   refine nxC hj ⟨rfl,?_⟩
   rw [take_add_one,h4]
   unfold tsV
   rw [map_append,map_append];rfl
  ·rintro ys H' ⟨rfl,rfl⟩ p4 H4 g4 e4
   refine Qg (g4.at (g3.at e2)) e4 (qz (by show 2+_<=1000;unfold tsV;rw [length_map,length_map,length_take];omega)) fun p6 H6 g6 e6=>?_
   refine q p6 H6 (g2.trans (g3.trans (g4.trans g6))) ?_
   rw [e6,zCR hn,lu,take_length,hts]
   unfold J6 tsV
   rw [map_append,show Lt "abcdefghijklm" = [97,98,99,100,101,102,103,104,105,106,107,108,109] by decide +kernel];rfl
 ·rename_i hc hn p2 H2 g2 e2 p3 H3 g3 e3
  obtain ⟨ph,hv,eh⟩:=zJS ok R0
  refine qU (SqL.of (g3.at (g2.at eL))) (by decide) (by omega) fun x hx=>?_
  have ex:x = .ref ph:=by rw [show Int.toNat 0=0 from rfl,hv] at hx;cases hx;rfl
  subst ex
  walk_at "rd"
  rename_i p4 H4 g4 e4
  refine Qg (g4.at (g3.at e2)) e4 (qz (by have:=VD (x:=V.str (T [105,110,115,105,100,101])) (k:=if (!decide (kw=[110,117,109,98,101,114]))=true then 1 else 0);show 4+_<=1000;omega)) fun p5 H5 g5 e5=>?_
  have g05:zc H H5:=g2.trans (g3.trans (g4.trans g5))
  have eS:H5 p5=some (.lst (tsV (XH kw))):=by
   rw [e5]
   unfold XH tsV
   rw [map_append,show Lt "center" = [99,101,110,116,101,114] by decide +kernel,show Lt "Right" = [82,105,103,104,116] by decide +kernel,show Lt "strict" = [115,116,114,105,99,116] by decide +kernel,show Lt "inside" = [105,110,115,105,100,101] by decide +kernel]
   by_cases z:kw=zb
   ·rw [if_pos z,decide_eq_true z];rfl
   ·rw [if_neg z,decide_eq_false z];rfl
  clear e2 e3 e4 e5 g2 g3 g4 g5 hx eh hv
  walk_at "rd"
  refine zK6 fun pm H6 n6 g6 e6=>?_
  walk_at "rd"
  rename_i pk H7 g7 e7 ps H8 g8 e8
  refine ⟨g8.at (g7.at e6),rfl,fun H9 s9 e9=>?_⟩
  have ne : ∀ {Hx:Hp} {b:Addr} {xs:List V} {kvs:List (Str × V)},Hx pm=some (V1 P w pm kvs)->Hx b=some (.lst xs)->b≠pm:=fun h1 h2 z=>by rw [z,h1] at h2;cases h2
  have m8:=g8.at (g7.at e6)
  have k9:=s9 _ _ (ne m8 (g8.at e7)) (g8.at e7)
  have y9:=s9 _ _ (ne m8 e8) e8
  have d9:=s9 _ _ (ne m8 (g8.at (g7.at (g6.at eS)))) (g8.at (g7.at (g6.at eS)))
  have o9:zc H5 H9:=fun b o e=>s9 b o (fun z=>by rw [z,n6] at e;cases e) (g8.at (g7.at (g6.at e)))
  have nm : ∀ {b:Addr} {o:HO},H5 b=some o->b≠pm:=fun e z=>by rw [z,n6] at e;cases e
  walk_at "rd"
  rename_i pw H10 g10 e10
  refine YE ?_
  walk_at "rd"
  refine WE (g10.at e9) (by show 3<=1000;decide) rfl fun H11 s11 e11=>?_
  have k11:=s11 _ _ (ne (g10.at e9) (g10.at k9)) (g10.at k9)
  have y11:=s11 _ _ (ne (g10.at e9) (g10.at y9)) (g10.at y9)
  have d11:=s11 _ _ (ne (g10.at e9) (g10.at d9)) (g10.at d9)
  have w11:=s11 _ _ (ne (g10.at e9) e10) e10
  have o11:zc H5 H11:=fun b o e=>s11 b o (nm e) (g10.at (o9.at e))
  clear k9 y9 d9 o9 e10 m8 e9 s9 s11
  walk_at "rd"
  rename_i pi H12 g12 e12
  refine YE ?_
  walk_at "rd"
  refine WE (g12.at e11) (by show 4<=1000;decide) rfl fun H13 s13 e13=>?_
  have k13:=s13 _ _ (ne (g12.at e11) (g12.at k11)) (g12.at k11)
  have y13:=s13 _ _ (ne (g12.at e11) (g12.at y11)) (g12.at y11)
  have d13:=s13 _ _ (ne (g12.at e11) (g12.at d11)) (g12.at d11)
  have w13:=s13 _ _ (ne (g12.at e11) (g12.at w11)) (g12.at w11)
  have i13:=s13 _ _ (ne (g12.at e11) e12) e12
  have o13:zc H5 H13:=fun b o e=>s13 b o (nm e) (g12.at (o11.at e))
  clear k11 y11 d11 w11 o11 e12 e11 s13
  walk_at "rd"
  rename_i pg H14 g14 e14
  refine YE ?_
  walk_at "rd"
  refine WE (g14.at e13) (by show 5<=1000;decide) rfl fun H15 s15 e15=>?_
  have k15:=s15 _ _ (ne (g14.at e13) (g14.at k13)) (g14.at k13)
  have y15:=s15 _ _ (ne (g14.at e13) (g14.at y13)) (g14.at y13)
  have d15:=s15 _ _ (ne (g14.at e13) (g14.at d13)) (g14.at d13)
  have w15:=s15 _ _ (ne (g14.at e13) (g14.at w13)) (g14.at w13)
  have i15:=s15 _ _ (ne (g14.at e13) (g14.at i13)) (g14.at i13)
  have n15:=s15 _ _ (ne (g14.at e13) e14) e14
  have o15:zc H5 H15:=fun b o e=>s15 b o (nm e) (g14.at (o13.at e))
  clear k13 y13 d13 w13 i13 o13 e14 e13 s15
  walk_at "rd"
  rename_i py H16 g16 e16
  refine YE ?_
  walk_at "rd"
  refine WE (g16.at e15) (by show 6<=1000;decide) rfl fun H17 s17 e17=>?_
  have k17:=s17 _ _ (ne (g16.at e15) (g16.at k15)) (g16.at k15)
  have y17:=s17 _ _ (ne (g16.at e15) (g16.at y15)) (g16.at y15)
  have d17:=s17 _ _ (ne (g16.at e15) (g16.at d15)) (g16.at d15)
  have w17:=s17 _ _ (ne (g16.at e15) (g16.at w15)) (g16.at w15)
  have i17:=s17 _ _ (ne (g16.at e15) (g16.at i15)) (g16.at i15)
  have n17:=s17 _ _ (ne (g16.at e15) (g16.at n15)) (g16.at n15)
  have x17:=s17 _ _ (ne (g16.at e15) e16) e16
  have o17:zc H H17:=g05.trans fun b o e=>s17 b o (nm e) (g16.at (o15.at e))
  clear k15 y15 d15 w15 i15 n15 o15 e16 e15 s17
  walk_at "rd"
  have fin : ∀ {l:Addr} {bs:List Wd},YZ _ r'.role=some (.ref l)->H17 l=some (.lst (tsV bs))->Zl kw (rs.take i) r'=bs->zKN P w (.ref pm) (.str r'.role) H17 Q:=fun lk e eb=>zKn e17 lk (q _ _ o17 (by rw [eb];exact e))
  have hro:=rp.role
  unfold zJe at hro
  simp only [mem_cons,not_mem_nil,or_false] at hro
  rcases hro with h | h | h | h | h | h | h | h | h
  ·exact fin (l:=pk) (bs:=Yo) (by rw [h];rfl) (by rw [zAW];exact k17) (by unfold Zl;rw [h];rfl)
  ·exact absurd h hc
  ·exact fin (l:=ps) (bs:=Ja) (by rw [h];rfl) (by rw [Kf];exact y17) (by unfold Zl;rw [h];rfl)
  ·exact fin (l:=pw) (bs:=Wb) (by rw [h];rfl) (by rw [zCC];exact w17) (by unfold Zl;rw [h];rfl)
  ·exact fin (l:=pi) (bs:=Jy) (by rw [h];rfl) (by rw [Wo];exact i17) (by unfold Zl;rw [h];rfl)
  ·exact fin (l:=pg) (bs:=QR) (by rw [h];rfl) (by rw [V9];exact n17) (by unfold Zl;rw [h];rfl)
  ·exact absurd h hn
  ·exact fin (l:=p5) (bs:=XH kw) (by rw [h];rfl) d17 (by unfold Zl;rw [h];rfl)
  ·exact fin (l:=py) (bs:=X0) (by rw [h];rfl) (by rw [zB5];exact x17) (by unfold Zl;rw [h];rfl)
def zKY (K:W.Frag):List V->Hp->VK->Prop:=fun xs H Q=>∃ p ks,xs=[.ref p]/\SqL K H p (ks.map V.int)/\ks≠[] /\ ∀ k,k ∈ ks->(∀ u ∈ ks,u<=k)->Q (.int k) H
open PyProof.Rows in
theorem zA7 (hc:X.calm=true):jC X (.builtin "max") (zKY X.K):=by
 intro pins s σ H xs us Q I r h
 obtain ⟨pp,ks,rfl,hq,hne,q⟩:=h
 obtain ⟨u,rfl,rx⟩:=Jm r
 cases rx
 obtain ⟨its,rv,pl,hz⟩:=I.list hq
 have ln:its.length=ks.length:=by have:=rv.length;rw [length_map] at this;omega
 have pos0:0 < ks.length:=List.length_pos_iff.mpr hne
 refine call_max_walk (wpAny_pyIter_list pl.isList ?_)
 have nI:pp≠s.heap.objs.size:=fun e=>by
  obtain ⟨o,n,g,_⟩:=pl
  have:=Heap.lt_size g
  rw [e] at this;exact lt_irrefl _ this
 have W:=Yf (P':=fun i v=>∃ t,v=Value.int (ks.getD i 0) t) (Walks.list (prog:=X.prog) (w:=X.w) (A:=X.A.in1) (I.ok.hd hc) s.heap.objs.size pp nI its.toArray) (fun i v e=>Zu rv i v (by rw [<- List.getElem?_toArray];exact e))
 have szs:its.toArray.size=ks.length:=by simp [ln]
 refine ⟨_,_,_,_,_,_,fun i j=>decide (ks.getD i 0 > ks.getD j 0),rfl,W,⟨⟨_,Heap.get?_push_size _ rfl,rfl,rfl⟩,?_⟩,fun b hb=>?_,by rw [szs];exact pos0,CmpOf.ints_gt (fun i=>ks.getD i 0) (fun _ _ z=>z),fun v h' tk pv keep=>?_⟩
 ·obtain ⟨o,n,g,r⟩:=pl.isList
  exact ⟨o,Heap.get?_push_of_some _ n,g,r⟩
 ·have lt:b < s.heap.objs.size+1:=by
   rcases List.mem_cons.mp hb with e | e
   ·rw [e];exact Nat.lt_succ_self _
   ·rw [List.mem_singleton.mp e]
    obtain ⟨o,g,_⟩:=pl.isList
    exact Nat.lt_succ_of_lt (Heap.lt_size g)
  exact Nat.lt_of_lt_of_le lt (Nat.le_of_eq (Array.size_push _).symm)
 ·obtain ⟨t,rfl⟩:=pv
  obtain ⟨c1,c2⟩:=Jj (fun i=>-ks.getD i 0) (its.toArray.size - 1)
  rw [show (fun i j=>decide (-ks.getD i 0 < -ks.getD j 0))=fun i j=>decide (ks.getD i 0 > ks.getD j 0) from funext fun i=>funext fun j=>decide_eq_decide.mpr (by omega)] at c1 c2
  generalize argBest (fun i j=>decide (ks.getD i 0 > ks.getD j 0)) (its.toArray.size - 1)=i at c1 c2 ⊢
  have il:i < ks.length:=by omega
  have mem:ks.getD i 0 ∈ ks:=by rw [getD_eq_getElem?_getD,getElem?_eq_getElem il];exact getElem_mem il
  refine ⟨.int (ks.getD i 0),H,I.kept (t':=tk) (fun b o e=>keep b o (fun m=>?_) (Heap.get?_push_of_some _ e)),⟨t,rfl⟩,q _ mem fun u hu=>?_⟩
  ·rw [List.mem_singleton.mp m] at e
   exact lt_irrefl _ (Heap.lt_size e)
  ·obtain ⟨k,hk,rfl⟩:=List.mem_iff_getElem.mp hu
   have:=c2 k (by omega)
   rw [show ks.getD k 0=ks[k] by rw [getD_eq_getElem?_getD,getElem?_eq_getElem hk];rfl] at this
   omega
def cl4:List (List Wd):=[[jq,[53]],[jS,[120]],[jv,[108,101,102,116]],[zu]]
def clW (kw:Wd):List (List Wd):=(if kw=zb then [[kH,[51]],[kC,[112,108,117,115]],[qt,[51],[59]],[jQ,[59]],[ZS,[117,112]]] else if kw=ja then [[jT]] else [])++cl4
theorem zIf (h:Kd kw):(clW kw).map (·.headD [])=yW kw/\((clW kw).all fun ws=>ws.all wok && decide (ws≠[]) && decide (ws.length<=3))=true:=by
 rcases h with rfl | rfl | rfl <;> decide +kernel
def yJ (K:W.Frag):Sp:=fun vs H Q _=>∃ kw:Wd,vs=[.str (T kw)]/\Kd kw /\ ∀ l H',zc H H'->H' l=some (.lst (tsV ((clW kw).map (jn [32]))))->Q (.ref l) H'
include Z in
theorem Qf:Has P w K mg base "_law_all_clauses" 1 ["_law_kind"] (yJ K):=by
 refine xz Z.kn Z.bM (l1N (by intros;rfl)) fun fq fd F=>?_
 refine F.ok jA (fun vs H Q E=>?_) (fun _ _ _ s H vs Q E hr h=>?_)
 ·walk_at "ln"
 obtain ⟨kw,rfl,hk,q⟩:=h
 refine ⟨_,zD (zI (i:=1) jA.nd rfl (Or.inl rfl) (zd (zA (zE (l:=[98,97,115,101,32,51]) (by decide +kernel)) (zA (zE (l:=[115,105,103,110,32,112,108,117,115]) (by decide +kernel)) (zA (zE (l:=[103,114,111,117,112,115,32,51,32,59]) (by decide +kernel)) (zA (zE (l:=[112,111,105,110,116,32,59]) (by decide +kernel)) (zA (zE (l:=[119,97,121,32,117,112]) (by decide +kernel)) (zC))))))))
  (zD (z5 (zT qJ (pv 0) (zE (l:=[119,111,114,100]) (by decide +kernel)) (zS _)) (zF (zI (i:=1) jA.nd rfl (Or.inl rfl) (zd (zA (zE (l:=[98,108,97,110,107]) (by decide +kernel)) (zC))))) (zX))
  (zD (z5 (zT qJ (pv 0) (zE (l:=[99,104,111,105,99,101]) (by decide +kernel)) (zS _)) (zF (zI (i:=1) jA.nd rfl (Or.inl rfl) (zd (zC)))) (zX))
  (zF (zQ (zP jX (pv 1) (zd (zA (zE (l:=[119,105,100,116,104,32,53]) (by decide +kernel)) (zA (zE (l:=[102,105,108,108,32,120]) (by decide +kernel)) (zA (zE (l:=[115,105,100,101,32,108,101,102,116]) (by decide +kernel)) (zA (zE (l:=[115,116,114,105,99,116]) (by decide +kernel)) (zC))))))))))),?_⟩
 walk_at "st"
 rcases hk with rfl | rfl | rfl
 ·walk_at "rd"
  rename_i p1 H1 g1 e1 p2 H2 g2 e2
  exact Qg (g2.at e1) e2 (qz (by show 5+4<=1000;decide)) fun p3 H3 g3 e3=>q p3 H3 (g1.trans (g2.trans g3)) e3
 ·walk_at "rd"
  rename_i p0 H0 g0 e0 p1 H1 g1 e1 p2 H2 g2 e2
  exact Qg (g2.at e1) e2 (qz (by show 1+4<=1000;decide)) fun p3 H3 g3 e3=>q p3 H3 (g0.trans (g1.trans (g2.trans g3))) e3
 ·walk_at "rd"
  rename_i p0 H0 g0 e0 p1 H1 g1 e1 p2 H2 g2 e2
  exact Qg (g2.at e1) e2 (qz (by show 0+4<=1000;decide)) fun p3 H3 g3 e3=>q p3 H3 (g0.trans (g1.trans (g2.trans g3))) e3
theorem zA1 (h:Kd kw) (q : ∀ l H',zc H H'->H' l=some (.lst (tsV ((clW kw).map (jn [32]))))->Q (.ref l) H'):yJ K ([.str (T kw)]++[]) H Q E:=⟨kw,rfl,h,q⟩
theorem zDq (e:X.K=K):IxR X (zGp K):=e ▸ zi
theorem zEv {o e:Expr} {es:List Expr} {to:TE} {t:TA} {name:Str} {apos cpos:Pos} {T id:String} {r:V->List V->Hp->VK->Prop} (eK:X.K=K) (pa:PlainAttrs T) (slot:Slot T name id) (hty:typeOf (.builtin id)=pure (.type "method_descriptor")) (hm:MtR X id r) (ho:PE X o to) (ha:PA X (e::es) t)
  (hbase:attributeBase o name X.env (eval o X.env)=eval o X.env:=by rfl)
  (hfew:((backTo cpos (starEach (e::es) X.env)).all (fun x=>!x.1) && (backToKw cpos (keywordEach [] X.env)).all (fun x=>x.1.isSome)
   && decide ((e::es).length+([]:List Keyword).length+(if ([]:List Keyword).isEmpty then 0 else 1) < 30))=true:=by rfl)
  (hline:(apos.endLine == cpos.line)=true:=by rfl) (hs:starEach (e::es) X.env=(false,eval e X.env)::starEach es X.env:=by rfl) (hplain:(backTo cpos (starEach es X.env)).any (·.1)=false:=by rfl) :
  PE X (.Call (.Attribute o name apos) (e::es) [] cpos) (tBM K T r to t):=by
 subst eK
 exact yx pa slot hty hm ho ha hbase hfew hline hs hplain
def kx (kw:Wd) (rs:List Row):List Int:=(rs.filter fun r=>decide (r.role=("key" : Str))).map fun r=>((yW kw).idxOf r.w:Int)
theorem zJK (kw:Wd) (rs ts:List Row):kx kw (rs++ts)=kx kw rs++kx kw ts:=by unfold kx;rw [List.filter_append,map_append]
theorem zHl (h:r.role = "key"):kx kw [r]=[((yW kw).idxOf r.w:Int)]:=by
 unfold kx
 rw [List.filter_cons,if_pos (decide_eq_true h)];rfl
theorem zKQ (h : ¬ r.role = "key"):kx kw [r]=[]:=by
 unfold kx
 rw [List.filter_cons,if_neg (by rw [decide_eq_false h];exact Bool.false_ne_true)];rfl
theorem zJl (kw:Wd) (rs:List Row):(kx kw rs).length<=rs.length:=by unfold kx;rw [length_map];exact List.length_filter_le _ _
def QV (K:W.Frag):Sp:=fun vs H Q _=>∃ (L:Addr) (n:Int) (kw:Wd) (st okS:Bool) (rs:List Row),vs=[.ref L,.int n]/\Rws H L rs/\Xb kw st okS rs/\0<=n/\(∃ r ∈ rs,r.role = "key") /\ ∀ l j ws H',zc H H'->(clW kw)[j]? = some ws->j < rs.foldl (Vy kw) 0->H' l=some (.lst (tsV ws))->Q (.ref l) H'
include Z in
theorem JK:Has P w K mg base "_law_told_again" 2 ["_law_rows", "_law_number"] (QV K):=by
 refine xz Z.kn Z.bN (l2N (by intros;rfl)) fun fq fd F=>?_
 refine F.ok jH (fun vs H Q E=>?_) (fun _ _ _ s H vs Q E hr h=>?_)
 ·walk_at "ln"
 obtain ⟨L,n,kw,st,okS,rs,rfl,⟨vs,eL,R0⟩,ok,hn,hkey,q⟩:=h
 refine ⟨_,zD (zI (i:=2) jH.nd rfl (Or.inl rfl) (zH (Qf Z) hr rfl (zA (za zl (za zi (pv 0) (zB) (fun _ _=>rfl)) (zB) (fun _ _=>rfl)) (zC))))
  (zD (zI (i:=3) jH.nd rfl (Or.inr rfl) (yq (cl:=[]) (fr:=[]) (is:=[]) rfl rfl trivial rfl trivial (by decide) (by decide +kernel) rfl (by decide +kernel) rfl (y0 (pv 2)) (fun _ _ _ _=>j7) (fun _ _ _ _=>za (zDq (K:=K) rfl) (zEv (K:=K) rfl PySem.F.plainAttrs_str PySem.F.slot_str_split PySem.F.type_str_split ko (pv 0) (zA (zE (l:=[32]) (by decide +kernel)) (zC))) (zB) (fun _ _=>rfl))))
  (zD (YD (cl:=[("_law_keys", s.heap.objs.size+1+0)]) (fr:=["_law_keys"]) (is:=[3]) (i:=4) jH.nd rfl (Or.inl rfl) rfl rfl rfl ⟨rfl,trivial⟩ rfl ⟨⟨rfl,rfl,Or.inl rfl⟩,trivial⟩ (by decide) (by decide +kernel) rfl (by decide +kernel) rfl (y0 (pv 0)) (fun _ _ _ _=>zEC (zT qJ (za (Qk (K:=K) rfl) (pv 0) (zB) (fun _ _=>rfl)) (zZ) (zS _))) (fun _ _ _ _=>zEv (K:=K) rfl PySem.F.plainAttrs_list PySem.F.slot_list_index PySem.F.type_list_index zBo (pv 1) (zA (za (Qk (K:=K) rfl) (pv 0) (zB) (fun _ _=>rfl)) (zC))))
  (zF (zQ (yx PySem.F.plainAttrs_str PySem.F.slot_str_split PySem.F.type_str_split ko (za zi (pv 2) (zP qE (pv 1) (zP z9 (zR (zA7 rfl) Z.au rfl zA4 (zA (pv 4) (zC))) (zB))) (fun _ _=>rfl)) (zA (zE (l:=[32]) (by decide +kernel)) (zC))))))),?_⟩
 walk_at "st"
 have ln:=R0.len
 have l21:=ok.len
 obtain ⟨ph,hv,eh⟩:=zJS ok R0
 obtain ⟨tl,hrs⟩:=ok.hd
 have l1:1<=rs.length:=by rw [hrs];simp
 walk_at "rd"
 refine qU (SqL.of eL) (by decide) (by omega) fun x hx=>?_
 have ex:x = .ref ph:=by rw [show Int.toNat 0=0 from rfl,hv] at hx;cases hx;rfl
 subst ex
 walk_at "rd"
 refine zA1 ok.kd fun l1 H1 g1 e1=>?_
 obtain ⟨ck,ca⟩:=zIf ok.kd
 have cW : ∀ {j:Nat} {ws:List Wd},(clW kw)[j]? = some ws->(yW kw)[j]? = some (ws.headD [])/\(∀ w ∈ ws,Wk1 w)/\ws≠[]/\ws.length<=3:=fun {j ws} hj=>by
  have h1:=List.all_eq_true.mp ca ws (mem_of_getElem? hj)
  simp only [Bool.and_eq_true,decide_eq_true_eq,all_eq_true] at h1
  refine ⟨by rw [<- ck,getElem?_map,hj];rfl,fun w hw=>qw.mp (h1.1.1 w hw),h1.1.2,h1.2⟩
 have lc:(clW kw).length=(yW kw).length:=by rw [<- ck,length_map]
 have l9:(yW kw).length<=9:=by rcases ok.kd with rfl | rfl | rfl <;> decide +kernel
 have tl1:(tsV ((clW kw).map (jn [32]))).length=(clW kw).length:=by unfold tsV;rw [length_map,length_map]
 walk_at "rd"
 refine yr (SqL.of e1) (qz (by omega)) (fun i ys H'=>zc H1 H'/\ys=tsV ((yW kw).take i)) ⟨zc.refl _,rfl⟩ (fun i ys H' hi h=>⟨SqL.of (h.1.at e1),by rw [h.2];unfold tsV;rw [length_map,length_take];omega⟩) ?_ ?_
 ·rintro i y ys H2 hy hi ⟨g2,rfl⟩
  have ic:i < (clW kw).length:=by omega
  obtain ⟨c1,c2,c3,c4⟩:=cW (getElem?_eq_getElem ic)
  have ey:y = .str (T (jn [32] (clW kw)[i])):=by
   unfold tsV at hy
   rw [getElem?_map,getElem?_map,getElem?_eq_getElem ic] at hy
   exact (Option.some.inj hy).symm
  subst ey
  generalize (clW kw)[i]=ws at c1 c2 c3 c4 ⊢
  have js:=KW c2
  have l0:0 < ws.length:=List.length_pos_iff.mpr c3
  walk_at "rd"
  refine j6 c3 (fun t ht z=>zKZ ((c2 t ht).sg 32 z) rfl) (by omega) (by omega) fun l3 H3 g3 n3 e3=>?_
  have tl3:(tsV ws).length=ws.length:=length_map _
  walk_at "rd"
  refine nxC hi ⟨g2.trans g3,?_⟩
  rw [take_add_one,c1]
  unfold tsV
  rw [map_append]
  cases ws with
  | nil=>exact absurd rfl c3
  | cons u us=>rfl
 ·rintro ys H2 ⟨g2,rfl⟩ p3 H3 g3 e3
  rw [tl1,lc,take_length] at e3
  have g13:=g2.trans g3
  have e1':=g13.at e1
  have R3:=R0.same (g1.trans g13)
  have eL3:=g13.at (g1.at eL)
  have e3':H3 p3=some (.lst (((yW kw).map T).map V.str)):=by rw [e3];unfold tsV;rw [map_map];rfl
  walk_at "rd"
  refine yr (SqL.of eL3) (qz (by omega)) (fun i ys H'=>H'=H3/\ys=(kx kw (rs.take i)).map V.int) ⟨rfl,rfl⟩ (fun i ys H' hi h=>⟨by rw [h.1];exact SqL.of eL3,by rw [h.2,length_map];exact le_trans (zJl _ _) (by rw [length_take];omega)⟩) ?_ ?_
  ·rintro i y ys H4 hy hi ⟨rfl,rfl⟩
   obtain ⟨p4,r4,rfl,e4,h4⟩:=R3.get hy
   have ks:kx kw (rs.take (i+1))=kx kw (rs.take i)++kx kw [r4]:=by rw [take_add_one,h4];exact zJK _ _ _
   walk_at "rd"
   ·rename_i hc
    have km:=(ok.up.le.2 r4 (mem_of_getElem? h4) hc).2
    have il:=List.idxOf_lt_length_of_mem km
    refine zDZ (zs:=(yW kw).map T) ((yW kw).idxOf r4.w) e3' ?_ ?_ (by omega) ?_
    ·rw [getElem?_map,getElem?_eq_getElem il,List.getElem_idxOf il];rfl
    ·intro m hm z
     rw [getElem?_map,getElem?_eq_getElem (by omega)] at z
     have z2:(yW kw)[m]=r4.w:=by
      have:=congrArg Lt (Option.some.inj z)
      rwa [Xr,Xr] at this
     have:=(ZP ok.kd).idxOf_getElem m (by omega)
     rw [z2] at this;omega
    ·refine nxC hi ⟨rfl,?_⟩
     rw [ks,map_append,zHl hc];rfl
   ·rename_i hc
    refine nxC hi ⟨rfl,?_⟩
    rw [ks,zKQ hc,append_nil]
  ·rintro ys H4 ⟨rfl,rfl⟩ p5 H5 g5 e5
   rw [ln,take_length] at e5
   walk_at "rd"
   refine ⟨p5,kx kw rs,rfl,SqL.of e5,?_,fun k hk hm=>?_⟩
   ·obtain ⟨r,hr,hkr⟩:=hkey
    exact List.ne_nil_of_mem (List.mem_map.mpr ⟨r,List.mem_filter.mpr ⟨hr,decide_eq_true hkr⟩,rfl⟩)
   ·obtain ⟨r,hr,rfl⟩:=List.mem_map.mp hk
    obtain ⟨hr1,hr2⟩:=List.mem_filter.mp hr
    obtain ⟨u1,u2⟩:=ok.up.le.2 r hr1 (of_decide_eq_true hr2)
    have il:=List.idxOf_lt_length_of_mem u2
    generalize (yW kw).idxOf r.w=ix at *
    have a0:=emod_nonneg n (show ((ix:Int)+1)≠0 by omega)
    have a1:=emod_lt_of_pos n (show (0:Int) < (ix:Int)+1 by omega)
    have e1'':=g5.at e1'
    walk_at "rd"
    refine qU (SqL.of e1'') a0 (by omega) fun y hy=>?_
    obtain ⟨jj,hjj⟩ : ∃ jj:Nat,n % ((ix:Int)+1)=jj:=⟨(n % ((ix:Int)+1)).toNat,by omega⟩
    rw [hjj,toNat_natCast] at hy
    have ic:jj < (clW kw).length:=by omega
    obtain ⟨c1,c2,c3,c4⟩:=cW (getElem?_eq_getElem ic)
    have ey:y = .str (T (jn [32] (clW kw)[jj])):=by
     unfold tsV at hy
     rw [getElem?_map,getElem?_map,getElem?_eq_getElem ic] at hy
     exact (Option.some.inj hy).symm
    subst ey
    have hws:(clW kw)[jj]? = some (clW kw)[jj]:=getElem?_eq_getElem ic
    generalize (clW kw)[jj]=ws at c1 c2 c3 c4 hws ⊢
    have js:=KW c2
    walk_at "rd"
    exact j6 c3 (fun t ht z=>zKZ ((c2 t ht).sg 32 z) rfl) (by omega) (by omega) fun l6 H6 g6 n6 e6=>q l6 jj ws H6 (g1.trans (g13.trans (g5.trans g6))) hws (by omega) e6
theorem zKO (h1:Rws H L rs) (h2:Xb kw st okS rs) (h3:rs[i]? = some r) (q : ∀ l H',zc H H'->H' l=some (.lst (tsV (Zl kw (rs.take i) r)))->Q (.ref l) H'):kB K ([.ref L,.int i]++[]) H Q E:=⟨L,i,kw,st,okS,rs,r,rfl,h1,h2,h3,q⟩
theorem zDL:0 < (Zl kw pre r).length:=List.length_pos_of_mem Yi
theorem zFY (hk:Kd kw) (hp : ∀ q ∈ pre,RwP q) (hr:RwP r) : ∀ b ∈ Zl kw pre r,Wk1 b:=by
 have dec : ∀ {l:List Wd},l.all wok=true -> ∀ b ∈ l,Wk1 b:=fun h b hb=>qw.mp (List.all_eq_true.mp h b hb)
 have lo0:=hr.lo0;have lo1:=hr.lo1;have hi0:=hr.hi0;have hi1:=hr.hi1
 unfold Zl
 split
 ·intro b hb
  unfold Xz at hb
  rcases List.mem_append.mp hb with hb | hb
  ·simp only [mem_cons,not_mem_nil,or_false] at hb
   rcases hb with rfl | rfl | rfl | rfl | rfl | rfl | rfl | rfl | rfl | rfl
   all_goals first | exact zBn (by omega) (by omega) | exact qw.mp (by decide +kernel)
  ·split at hb
   ·rw [List.eq_of_mem_replicate hb];exact zBn (by omega) (by omega)
   ·cases hb
 split
 ·intro b hb
  unfold J6 at hb
  rcases List.mem_append.mp hb with hb | hb
  ·exact dec (l:=[[],Lt "abcdefghijklm"]) (by decide +kernel) b hb
  ·obtain ⟨q,hq,rfl⟩:=List.mem_map.mp hb
   exact (hp q (mem_of_mem_drop hq)).w
 split
 ·exact dec (by rcases hk with rfl | rfl | rfl <;> decide +kernel)
 repeat' split
 all_goals exact dec (by decide +kernel)
structure Spt (ws:List Wd) (a:Int):Prop where
 wk : ∀ w ∈ ws,Wk1 w
 l:ws.length<=45
 run:Au.run (nz ws) p0 0=a
section
variable {kw : Wd} {st okS : Bool} {rs : List Row}
theorem Xb.wk (ok:Xb kw st okS rs) : ∀ w ∈ qu rs,Wk1 w:=fun w hw=>by
 obtain ⟨r,hr,rfl⟩:=List.mem_map.mp hw
 exact (ok.row r hr).w
theorem Km {ws:List Wd} (h:ws≠[]):nz ws=ws:=if_neg h
theorem Je:qu (rs.take i)=(qu rs).take i:=map_take
theorem zr:(qu rs).length=rs.length:=length_map _
theorem zAl (ok:Xb kw st okS rs) (hr:rs[i]? = some r) {b:Wd} (hb:b ∈ Zl kw (rs.take i) r) {tl:List Wd} (ht : ∀ w ∈ tl,Wk1 w) (hl:tl.length<=20):Spt ((qu rs).take i++b::tl) i:=by
 have l21:=ok.len
 obtain ⟨hi,rfl⟩:=List.getElem?_eq_some_iff.mp hr
 refine ⟨fun w hw=>?_,?_,?_⟩
 ·rcases List.mem_append.mp hw with q | q
  ·exact ok.wk w (mem_of_mem_take q)
  ·rcases List.mem_cons.mp q with rfl | q
   ·exact zFY ok.kd (fun q hq=>ok.row q (mem_of_mem_take hq)) (ok.row _ (getElem_mem hi)) w hb
   ·exact ht w q
 ·rw [length_append,length_take,length_cons,zr];omega
 ·rw [Km (by simp),<- Je]
  have:=JX (b:=b) (tl:=tl) rs [] 0 p0 0 i hi ok.good (by rw [nil_append];exact hb)
  rw [this];omega
theorem zFc (ok:Xb kw st okS rs) (hr:rs[i]? = some r) (hn : ¬ r.role = "key"):Spt ((qu rs).take i) i:=by
 have l21:=ok.len
 obtain ⟨hi,rfl⟩:=List.getElem?_eq_some_iff.mp hr
 refine ⟨fun w hw=>ok.wk w (mem_of_mem_take hw),by rw [length_take,zr];omega,?_⟩
 cases i with
 | zero =>
  have:=JX (b:=[]) (tl:=[]) rs [] 0 p0 0 0 hi ok.good Yi
  exact this
 | succ i =>
  rw [Km,<- Je]
  ·have:=WX rs [] 0 p0 0 (i+1) hi ok.good hn
   rw [this];omega
  ·intro h
   have:=congrArg List.length h
   rw [length_take,zr,length_nil] at this
   omega
theorem Ks (ok:Xb kw st okS rs) {b:Wd} {tl:List Wd} (hb:b ∉ (yW kw).drop (rs.foldl (Vy kw) 0)) (ht : ∀ w ∈ b::tl,Wk1 w) (hl:tl.length<=10):Spt (qu rs++b::tl) rs.length:=by
 have l21:=ok.len
 refine ⟨fun w hw=>?_,by rw [length_append,length_cons,zr];omega,?_⟩
 ·rcases List.mem_append.mp hw with q | q
  ·exact ok.wk w q
  ·exact ht w q
 ·rw [Km (by simp)]
  have:=Jk (b:=b) (tl:=tl) rs [] 0 p0 0 ok.good hb
  rw [this];omega
end
def Wn:List Wd:=[[],[87,105,100,116,104],[55],[120],[115,116,114,105,99,116,101,114],[61]]
theorem zD6 (h:Kd kw) : ∀ b ∈ Wn,b ∉ yW kw:=by rcases h with rfl | rfl | rfl <;> decide +kernel
theorem zDw : ∀ b ∈ Wn,Wk1 b:=fun b hb=>qw.mp ((show ∀ b ∈ Wn,wok b=true by decide +kernel) b hb)
theorem Vx {ws:List Wd} (h:i<=ws.length):YV (tsV ws) none (some (i:Int))=tsV (ws.take i):=by
 rw [WP (by omega) (by unfold tsV;rw [length_map];omega),toNat_natCast]
 unfold tsV;rw [map_take]
theorem WB : ∀ {rs:List Row},inV (.str "key") (rs.map fun r=>V.str r.role)=true ↔ ∃ r ∈ rs,r.role = "key" := by
 intro rs
 unfold inV
 rw [List.any_eq_true]
 constructor
 ·rintro ⟨y,hy,e⟩
  obtain ⟨r,hr,rfl⟩:=List.mem_map.mp hy
  refine ⟨r,hr,?_⟩
  have e2:inV (.str (T (Lt "key"))) (tsV [Lt r.role])=true:=by
   unfold inV tsV
   rw [map_cons,map_nil,List.any_cons,ZY,ZY,e];rfl
  rw [Wa,decide_eq_true_iff,List.mem_singleton] at e2
  rw [<- ZY r.role,<- e2,ZY]
 ·rintro ⟨r,hr,h⟩
  refine ⟨_,List.mem_map.mpr ⟨r,hr,rfl⟩,?_⟩
  rw [h]
  have e2:=Wa (Lt "key") [Lt "key"]
  unfold inV tsV at e2
  rw [map_cons,map_nil,List.any_cons,ZY,List.any_nil,Bool.or_false] at e2
  rw [e2];decide +kernel
theorem zFX {ws:List Wd} {b:Wd} (h:i < ws.length):ws.set i b=ws.take i++b::ws.drop (i+1):=by
 rw [List.set_eq_take_append_cons_drop,if_pos h]
theorem Wp {a t:List Wd} {k:Nat} {b c:Wd} (h:a.length=i):(a++b::t).set (i+1+k) c=a++b::t.set k c:=by
 rw [List.set_append_right _ _ (by omega),h,show i+1+k - i=k+1 by omega];rfl
def zHZ:List Wd:=[[],[81],[48],[115,116,114,105,99,116]]
theorem zHE : ∀ b ∈ zHZ,Wk1 b:=fun b hb=>qw.mp ((show ∀ b ∈ zHZ,wok b=true by decide +kernel) b hb)
def Zy (K:W.Frag):Sp:=fun vs H Q _=>∃ (L:Addr) (n:Int) (kw:Wd) (st okS:Bool) (rs:List Row),vs=[.ref L,.int n]/\Rws H L rs/\Xb kw st okS rs/\0<=n /\ ∀ p l ws a H',zc H H'->Spt ws a->H' p=some (.tup [.ref l,.int a])->H' l=some (.lst (tsV ws))->Q (.ref p) H'
include Z in
theorem Z6:Has P w K mg base "_law_spoilt_words" 3 ["_law_rows", "_law_number"] (Zy K):=by
 refine xz Z.kn Z.bO (l2N (by intros;rfl)) fun fq fd F=>?_
 refine F.ok qG (fun vs H Q E=>?_) (fun _ _ _ s H vs Q E hr h=>?_)
 ·walk_at "ln"
 obtain ⟨L,n,kw,st,okS,rs,rfl,⟨vs,eL,R0⟩,ok,hn,q⟩:=h
 refine ⟨_,zD (YD (cl:=[]) (fr:=[]) (is:=[]) (i:=2) qG.nd rfl (Or.inl rfl) rfl rfl rfl trivial rfl trivial (by decide) (by decide +kernel) rfl (by decide +kernel) rfl (y0 (pv 0)) (fun _ _ _ _=>j7) (fun _ _ _ _=>za (Qk (K:=K) rfl) (pv 0) (zB) (fun _ _=>rfl)))
  (zD (zI (i:=3) qG.nd rfl (Or.inl rfl) (zP qE (pv 1) (zR qh Z.ao rfl qy (zA (pv 0) (zC)))))
  (zD (zI (i:=4) qG.nd rfl (Or.inl rfl) (zP qE (zP qb (pv 1) (zB)) (zB)))
  (zD (z5 (PW.pt (Ji (zT qJ (pv 4) (zB) (zS _)) (Zv (zT kg (za zl (za zi (pv 0) (pv 3) (fun _ _=>rfl)) (zB) (fun _ _=>rfl)) (zZ) (zS _))))) (zF (zQ (zo (zA (zt yU (pv 2) (qL) (zx (pv 3))) (zA (pv 3) (zC)))))) (zX))
  (zD (z5 (zT qJ (pv 4) (zB) (zS _)) (zF (zQ (zo (zA (zP jX (pv 2) (zd (zA (za zi (zd (zA (zE (l:=[]) (by decide +kernel)) (zA (zE (l:=[87,105,100,116,104]) (by decide +kernel)) (zA (zE (l:=[55]) (by decide +kernel)) (zA (zE (l:=[120]) (by decide +kernel)) (zA (zE (l:=[115,116,114,105,99,116,101,114]) (by decide +kernel)) (zA (zE (l:=[61]) (by decide +kernel)) (zC)))))))) (zP qE (zP qb (pv 1) (zB)) (zB)) (fun _ _=>rfl)) (zC)))) (zA (zR qh Z.ao rfl qy (zA (pv 2) (zC))) (zC)))))) (zX))
  (zD (z5 (PW.pt (Ji (zT qJ (pv 4) (zB) (zS _)) (Zv (zT XR (zZ) (yq (cl:=[]) (fr:=[]) (is:=[]) rfl rfl trivial rfl trivial (by decide) (by decide +kernel) rfl (by decide +kernel) rfl (y0 (pv 0)) (fun _ _ _ _=>j7) (fun _ _ _ _=>za (Qk (K:=K) rfl) (pv 0) (zB) (fun _ _=>rfl))) (by with_unfolding_all rfl))))) (zF (zQ (zo (zA (zP jX (pv 2) (zH (JK Z) hr rfl (zA (pv 0) (zA (zP qb (pv 1) (zB)) (zC))))) (zA (zR qh Z.ao rfl qy (zA (pv 2) (zC))) (zC)))))) (zX))
  (zD (zI (i:=5) qG.nd rfl (Or.inl rfl) (zH (Js Z) hr rfl (zA (pv 0) (zA (pv 3) (zC)))))
  (zD (ZU (za zi (pv 5) (zP qE (zP qb (pv 1) (zB)) (zR qh Z.ao rfl qy (zA (pv 5) (zC)))) (fun _ _=>rfl)) (YG (pv 2) (pv 3) WY))
  (zD (zI (i:=6) qG.nd rfl (Or.inl rfl) (zP k7 (zP k7 (zR qh Z.ao rfl qy (zA (pv 2) (zC))) (pv 3)) (zB)))
  (zD (z5 (PW.pt (Ji (zT Zp (pv 4) (zB) (zS _)) (Zv (zT Zp (pv 6) (zB) (zS _))))) (zF (ZU (za zi (zd (zA (zE (l:=[]) (by decide +kernel)) (zA (zE (l:=[81]) (by decide +kernel)) (zA (zE (l:=[48]) (by decide +kernel)) (zA (zE (l:=[115,116,114,105,99,116]) (by decide +kernel)) (zC)))))) (zP qE (zP qb (pv 1) (zB)) (zB)) (fun _ _=>rfl)) (YG (pv 2) (zP z9 (zP z9 (pv 3) (zB)) (zP qE (zP qb (pv 1) (zB)) (pv 6))) WY))) (zX))
  (zF (zQ (zo (zA (pv 2) (zA (pv 3) (zC))))))))))))))),?_⟩
 walk_at "st"
 have ln:=R0.len
 have l21:=ok.len
 have l1:1<=rs.length:=by obtain ⟨tl,h⟩:=ok.hd;rw [h];simp
 walk_at "rd"
 refine zAg (SqL.of eL) (qz (by omega)) (fun i ys H'=>H'=H/\ys=tsV ((qu rs).take i)) ⟨rfl,rfl⟩ (fun i ys H' hi h=>⟨by rw [h.1];exact SqL.of eL,by rw [h.2];unfold tsV;rw [length_map,length_take];omega⟩) ?_ ?_
 ·rintro i y ys H' hy hi ⟨rfl,rfl⟩
  obtain ⟨p4,r4,rfl,e4,h4⟩:=R0.get hy
  walk_at "rd"
  refine nxC hi ⟨rfl,?_⟩
  rw [take_add_one,show (qu rs)[i]? = some r4.w by unfold qu;rw [getElem?_map,h4];rfl]
  unfold tsV
  rw [map_append];rfl
 rintro ys H' ⟨rfl,rfl⟩ l2 H2 g2 n2 e2
 rw [ln,<- zr,take_length] at e2
 have eL2:=g2.at eL
 have tl2:(tsV (qu rs)).length=rs.length:=by unfold tsV;rw [length_map,zr]
 have a0:=emod_nonneg n (show ((vs.length:Int))≠0 by omega)
 have a1:=emod_lt_of_pos n (show (0:Int) < (vs.length:Int) by omega)
 have b0:=emod_nonneg (n / 64) (show (8:Int)≠0 by decide)
 obtain ⟨i,hi⟩ : ∃ i:Nat,n % (vs.length:Int)=i:=⟨(n % (vs.length:Int)).toNat,by omega⟩
 have il:i < rs.length:=by omega
 have hr:rs[i]? = some rs[i]:=getElem?_eq_getElem il
 generalize rs[i]=r at hr
 refine VI ?_
 refine z7 (fun σ' H'=>σ'=[some (.ref L),some (.int n),some (.ref l2),none,none,none,none]/\H'=H2) (fun σ3 H3 h=>?_) (fun R hR=>?_)
 rotate_left
 ·walk_at "rd"
  exact hR _ _ ⟨rfl,rfl⟩
 obtain ⟨rfl,rfl⟩:=h
 refine z7 (fun σ' H'=>σ'=[some (.ref L),some (.int n),some (.ref l2),some (.int i),none,none,none]/\H'=H3) (fun σ3 H3 h=>?_) (fun R hR=>?_)
 rotate_left
 ·walk_at "rd"
  rw [hi]
  exact hR _ _ ⟨rfl,rfl⟩
 obtain ⟨rfl,rfl⟩:=h
 refine z7 (fun σ' H'=>σ'=[some (.ref L),some (.int n),some (.ref l2),some (.int i),some (.int (n / 64 % 8)),none,none]/\H'=H3) (fun σ4 H4 h=>?_) (fun R hR=>?_)
 rotate_left
 ·walk_at "rd"
  exact hR _ _ ⟨rfl,rfl⟩
 obtain ⟨rfl,rfl⟩:=h
 have R4:=R0.same g2
 refine z7 (fun σ' H'=>σ'=[some (.ref L),some (.int n),some (.ref l2),some (.int i),some (.int (n / 64 % 8)),none,none]/\H'=H4) (fun σ5 H5 h=>?_) (fun R hR=>?_)
 rotate_left
 ·walk_at "rd"
  ·refine qU (SqL.of eL2) (by omega) (by omega) fun x hx=>?_
   rw [toNat_natCast] at hx
   obtain ⟨p4,r4,rfl,e4,h4⟩:=R4.get hx
   have er:r4=r:=by rw [hr] at h4;cases h4;rfl
   subst er
   walk_at "rd"
   ·exact hR _ _ ⟨rfl,rfl⟩
   ·rename_i hw hk p5 H5 g5 e5 p6 H6 g6 e6
    rw [Vx (by rw [zr];omega)] at e5
    exact q p6 p5 _ i H6 (g2.trans (g5.trans g6)) (zFc ok hr hk) e6 (g6.at e5)
  ·exact hR _ _ ⟨rfl,rfl⟩
 obtain ⟨rfl,rfl⟩:=h
 refine z7 (fun σ' H'=>σ'=[some (.ref L),some (.int n),some (.ref l2),some (.int i),some (.int (n / 64 % 8)),none,none]/\H'=H5) (fun σ6 H6 h=>?_) (fun R hR=>?_)
 rotate_left
 ·have c0:=emod_nonneg (n / 512) (show (6:Int)≠0 by decide)
  have c1:=emod_lt_of_pos (n / 512) (show (0:Int) < 6 by decide)
  walk_at "rd"
  ·rename_i hw p5 H5' g5 e5
   refine qU (SqL.of e5) c0 c1 fun x hx=>?_
   obtain ⟨b,rfl,hb⟩ : ∃ b:Wd,x = .str (T b)/\b ∈ Wn:=by
    have hm:=mem_of_getElem? hx
    have : ∀ x ∈ tsV Wn,∃ b:Wd,x = .str (T b)/\b ∈ Wn:=fun x hx=>by
     obtain ⟨b,hb,rfl⟩:=List.mem_map.mp hx
     exact ⟨b,rfl,hb⟩
    exact this x hm
   walk_at "rd"
   rename_i p6 H6 g6 e6
   refine Qg (g6.at (g5.at e2)) e6 (qz (by rw [tl2];show _+1<=1000;omega)) fun p7 H7 g7 e7=>?_
   have e2':=g7.at (g6.at (g5.at e2))
   walk_at "rd"
   rename_i p8 H8 g8 e8
   rw [tl2] at e8
   refine q p8 p7 (qu rs++[b]) rs.length H8 (g2.trans (g5.trans (g6.trans (g7.trans g8)))) (Ks ok (fun z=>zD6 ok.kd b hb (mem_of_mem_drop z)) (fun w hw=>by rw [List.mem_singleton.mp hw];exact zDw b hb) (by decide)) e8 ?_
   rw [g8.at e7];unfold tsV;rw [map_append];rfl
  ·exact hR _ _ ⟨rfl,rfl⟩
 obtain ⟨rfl,rfl⟩:=h
 refine z7 (fun σ' H'=>σ'=[some (.ref L),some (.int n),some (.ref l2),some (.int i),some (.int (n / 64 % 8)),none,none]/\zc H6 H') (fun σ7 H7 h=>?_) (fun R hR=>?_)
 rotate_left
 ·walk_at "rd"
  ·refine yr (SqL.of eL2) (qz (by omega)) (fun i ys H'=>H'=H6/\ys=(rs.take i).map fun r=>V.str r.role) ⟨rfl,rfl⟩ (fun i ys H' hi h=>⟨by rw [h.1];exact SqL.of eL2,by rw [h.2,length_map,length_take];omega⟩) ?_ ?_
   ·rintro i y ys H' hy hi ⟨rfl,rfl⟩
    obtain ⟨p4,r4,rfl,e4,h4⟩:=R4.get hy
    walk_at "rd"
    refine nxC hi ⟨rfl,?_⟩
    rw [take_add_one,h4,map_append];rfl
   ·rintro ys H' ⟨rfl,rfl⟩ p5 H5' g5 e5
    rw [ln,take_length] at e5
    refine ⟨p5,_,rfl,.inl (SqL.of e5),rfl,by rw [List.all_map];exact List.all_eq_true.mpr fun _ _=>rfl,?_⟩
    rw [if_neg Bool.false_ne_true]
    rcases Classical.em (∃ r ∈ rs,r.role = "key") with hk | hk
    ·rw [show inV (.str "key") (rs.map fun r=>V.str r.role)=true from WB.mpr hk]
     walk_at "rd"
     refine ⟨L,n / 512,kw,st,okS,rs,rfl,⟨vs,g5.at eL2,R4.same g5⟩,ok,Int.ediv_nonneg hn (by decide),hk,fun l6 j ws H6' g6 hj hlt e6=>?_⟩
     obtain ⟨ck,ca⟩:=zIf ok.kd
     have h1:=List.all_eq_true.mp ca ws (mem_of_getElem? hj)
     simp only [Bool.and_eq_true,decide_eq_true_eq,all_eq_true] at h1
     have kj:(yW kw)[j]? = some (ws.headD []):=by rw [<- ck,getElem?_map,hj];rfl
     have lw:(tsV ws).length=ws.length:=length_map _
     walk_at "rd"
     refine Qg (g6.at (g5.at e2)) e6 (qz (by rw [tl2,lw];omega)) fun p7 H7 g7 e7=>?_
     have e2':=g7.at (g6.at (g5.at e2))
     walk_at "rd"
     rename_i p8 H8 g8 e8
     rw [tl2] at e8
     cases ws with
     | nil=>exact absurd rfl h1.1.2
     | cons b tl =>
      refine q p8 p7 (qu rs++b::tl) rs.length H8 (g2.trans (g5.trans (g6.trans (g7.trans g8)))) (Ks ok (fun z=>?_) (fun w hw=>qw.mp (h1.1.1 w hw)) (by have:=h1.2;rw [length_cons] at this;omega)) e8 ?_
      ·obtain ⟨m,hm,em⟩:=List.mem_iff_getElem.mp z
       rw [List.getElem_drop] at em
       have nd:=(ZP ok.kd).idxOf_getElem (rs.foldl (Vy kw) 0+m) (by rw [length_drop] at hm;omega)
       obtain ⟨hj2,ej⟩:=List.getElem?_eq_some_iff.mp kj
       have nd2:=(ZP ok.kd).idxOf_getElem j hj2
       rw [em] at nd
       rw [ej] at nd2
       have:j=rs.foldl (Vy kw) 0+m:=nd2.symm.trans nd
       omega
      ·rw [g8.at e7];unfold tsV;rw [map_append]
    ·rw [show inV (.str "key") (rs.map fun r=>V.str r.role)=false from by
      cases hv:inV (.str "key") (rs.map fun r=>V.str r.role) with
      | false=>rfl
      | true=>exact absurd (WB.mp hv) hk]
     walk_at "rd"
     exact hR _ _ ⟨rfl,g5⟩
  ·exact hR _ _ ⟨rfl,zc.refl _⟩
 obtain ⟨rfl,g7⟩:=h
 walk_at "rd"
 refine zKO (r:=r) ⟨vs,g7.at eL2,R4.same g7⟩ ok hr fun l8 H8 g8 e8=>?_
 have bl:=zDL (kw:=kw) (pre:=rs.take i) (r:=r)
 have tb:(tsV (Zl kw (rs.take i) r)).length=(Zl kw (rs.take i) r).length:=length_map _
 have d0:=emod_nonneg (n / 512) (show (((tsV (Zl kw (rs.take i) r)).length:Int))≠0 by omega)
 have d1:=emod_lt_of_pos (n / 512) (show (0:Int) < ((tsV (Zl kw (rs.take i) r)).length:Int) by omega)
 walk_at "rd"
 obtain ⟨b,hb,eb⟩ : ∃ b:Wd,b ∈ Zl kw (rs.take i) r/\(Zl kw (rs.take i) r).getD (n / 512 % ((tsV (Zl kw (rs.take i) r)).length:Int)).toNat []=b:=⟨_,by rw [getD_eq_getElem?_getD,getElem?_eq_getElem (by omega)];exact getElem_mem _,rfl⟩
 rw [eb]
 clear eb d0 d1 tb bl
 refine YE ?_
 walk_at "rd"
 refine zEy (g8.at (g7.at e2)) (by omega) (by omega) ?_
 rw [toNat_natCast]
 have e9:upd H8 l2 (.lst ((tsV (qu rs)).set i (.str (T b)))) l2=some (.lst (tsV ((qu rs).take i++b::(qu rs).drop (i+1)))):=by
  rw [zK]
  unfold tsV
  rw [<- List.map_set,zFX (by rw [zr];exact il)]
 have g9:zc H' (upd H8 l2 (.lst ((tsV (qu rs)).set i (.str (T b))))):=fun c u e=>by
  rw [zf (zg e n2)];exact g8.at (g7.at (g2.at e))
 generalize upd H8 l2 (.lst ((tsV (qu rs)).set i (.str (T b))))=H9 at e9 g9 ⊢
 have ld:((qu rs).drop (i+1)).length=rs.length - (i+1):=by rw [length_drop,zr]
 have wd : ∀ w ∈ (qu rs).drop (i+1),Wk1 w:=fun w hw=>ok.wk w (mem_of_mem_drop hw)
 have l9:(tsV ((qu rs).take i++b::(qu rs).drop (i+1))).length=rs.length:=by unfold tsV;rw [length_map,length_append,length_take,length_cons,ld,zr];omega
 have c0:=emod_nonneg (n / 32768) (show (4:Int)≠0 by decide)
 have c1:=emod_lt_of_pos (n / 32768) (show (0:Int) < 4 by decide)
 walk_at "rd"
 ·rename_i hw hm p5 H5' g5 e5
  refine qU (SqL.of e5) c0 c1 fun x hx=>?_
  obtain ⟨c,rfl,hc⟩ : ∃ c:Wd,x = .str (T c)/\c ∈ zHZ:=by
   have hm:=mem_of_getElem? hx
   have : ∀ x ∈ tsV zHZ,∃ b:Wd,x = .str (T b)/\b ∈ zHZ:=fun x hx=>by
    obtain ⟨b,hb,rfl⟩:=List.mem_map.mp hx
    exact ⟨b,rfl,hb⟩
   exact this x hm
  refine YE ?_
  have f0:=emod_nonneg (n / 4096) (show ((tsV ((qu rs).take i++b::(qu rs).drop (i+1))).length:Int) - i - 1≠0 by omega)
  have f1:=emod_lt_of_pos (n / 4096) hm
  walk_at "rd"
  refine zEy (g5.at e9) (by omega) (by omega) ?_
  obtain ⟨k,hk⟩ : ∃ k:Nat,n / 4096 % (((tsV ((qu rs).take i++b::(qu rs).drop (i+1))).length:Int) - i - 1)=k:=⟨(n / 4096 % (((tsV ((qu rs).take i++b::(qu rs).drop (i+1))).length:Int) - i - 1)).toNat,by omega⟩
  rw [hk,show ((i:Int)+1+(k:Int)).toNat=i+1+k by omega]
  have e10:upd H5' l2 (.lst ((tsV ((qu rs).take i++b::(qu rs).drop (i+1))).set (i+1+k) (.str (T c)))) l2=some (.lst (tsV ((qu rs).take i++b::((qu rs).drop (i+1)).set k c))):=by
   rw [zK]
   unfold tsV
   rw [<- List.map_set,Wp (by rw [length_take,zr];omega)]
  have g10:zc H' (upd H5' l2 (.lst ((tsV ((qu rs).take i++b::(qu rs).drop (i+1))).set (i+1+k) (.str (T c))))):=fun c u e=>by
   rw [zf (zg e n2)];exact g5.at (g9.at e)
  generalize upd H5' l2 (.lst ((tsV ((qu rs).take i++b::(qu rs).drop (i+1))).set (i+1+k) (.str (T c))))=H10 at e10 g10 ⊢
  walk_at "rd"
  rename_i p11 H11 g11 e11
  refine q p11 l2 _ i H11 (g10.trans g11) (zAl ok hr hb (fun w hw=>?_) (by rw [List.length_set,ld];omega)) e11 (g11.at e10)
  rcases List.mem_or_eq_of_mem_set hw with q' | q'
  ·exact wd w q'
  ·rw [q'];exact zHE c hc
 all_goals
  rename_i p11 H11 g11 e11
  exact q p11 l2 _ i H11 (g9.trans g11) (zAl ok hr hb wd (by rw [ld];omega)) e11 (g11.at e9)
theorem Xb.text (ok:Xb kw st okS rs):qu rs≠[]/\Wds (qu rs)/\(jn [32] (qu rs)).length<=2121/\(qu rs).flatten.length<=2100:=by
 have l21:=ok.len
 have ne:qu rs≠[]:=by obtain ⟨tl,h⟩:=ok.hd;rw [h];exact List.cons_ne_nil _ _
 have js:=KW ok.wk
 rw [zr] at js
 exact ⟨ne,YH ne (by rw [zr];omega) ok.wk,by omega,by omega⟩
theorem Xb.strict {sh:Int} (ok:Xb kw st (decide (sh<=wd)) rs):Au.run (qu rs++[zu]) p0 0=if st=true\/wd < sh then (rs.length:Int) else -1:=by
 rw [Jp rs [] 0 p0 0 ok.good]
 by_cases h:sh<=wd
 ·rw [decide_eq_true h]
  by_cases z:st=true
  ·rw [if_pos (.inl z),if_pos (.inl z)];omega
  ·rw [if_neg (by rintro (q | q);exact z q;cases q),if_neg (by rintro (q | q);exact z q;omega)]
 ·rw [decide_eq_false h,if_pos (.inr rfl),if_pos (.inr (by omega))];omega
def xa (K:PySem.W.Frag):Sp:=fun vs H Q _=>∃ (p:Addr) (wd:Int) (f:Nat) (x:Str) (st:Bool) (W:List Row->Prop) (d:Str) (sh:Int) (kw:Wd) (rs:List Row),vs=[.ref p,.str (T (jn [32] (qu rs)))]/\SpA H p wd f x st W d sh/\Xb kw st (decide (sh<=wd)) rs /\ ∀ H',zc H H'->Q (.bl true) H'
include Z in
theorem Zz:Has P w K mg base "_law_strict_right" 10 ["_law_spec", "_law_text"] (xa K):=by
 refine xz Z.kn Z.bP (l2N (by intros;rfl)) fun fq fd F=>?_
 refine F.ok xY (fun vs H Q E=>?_) (fun _ _ _ s H vs Q E hr h=>?_)
 ·walk_at "ln"
 obtain ⟨p,wd,f,x,st,W,d,sh,kw,rs,rfl,hA,ok,q⟩:=h
 refine ⟨_,zD (zI (i:=2) xY.nd rfl (Or.inl rfl) (zH (qT Z) hr rfl (zA (zP jR (pv 1) (zE (l:=[32,115,116,114,105,99,116]) (by decide +kernel))) (zC))))
  (zD (z5 (PW.pt (kz (qd (za zl (pv 0) (Zk xr (zB)) (fun _ _=>rfl))) (j8 (zT Zp (zH (ZW Z) hr rfl (zA (pv 0) (zC))) (za zl (pv 0) (Zk xr (zB)) (fun _ _=>rfl)) (zS _))))) (zF (zQ (zy qJ (pv 2) (zR qh Z.ao rfl qy (zA (yx PySem.F.plainAttrs_str PySem.F.slot_str_split PySem.F.type_str_split ko (pv 1) (zA (zE (l:=[32]) (by decide +kernel)) (zC))) (zC))) (zS _)))) (zX))
  (zF (zQ (zy qJ (pv 2) (Zk xr (zB)) (zS _))))),?_⟩
 walk_at "st"
 obtain ⟨ne,wds,tl1,tl2⟩:=ok.text
 have l21:=ok.len
 have sj:jn [32] (qu rs)++[32,115,116,114,105,99,116]=jn [32] (qu rs++[zu]):=(zBr [32] ne zu).symm
 have sw:Wds (qu rs++[zu]):=YH (by simp) (by rw [length_append,zr];show _+1<=45;omega) fun w hw=>by
  rcases List.mem_append.mp hw with z | z
  ·exact ok.wk w z
  ·rw [List.mem_singleton.mp z];exact qw.mp (by decide +kernel)
 have lw:(tsV (qu rs)).length=rs.length:=by unfold tsV;rw [length_map,zr]
 refine z7 (fun σ' H'=>σ'=[some (.ref p),some (.str (T (jn [32] (qu rs)))),some (.int (if st=true\/wd < sh then (rs.length:Int) else -1))]/\zc H H') (fun σ1 H1 h=>?_) (fun R hR=>?_)
 rotate_left
 ·walk_at "rd"
  rw [sj]
  refine jm (.inl ⟨_,rfl,sw,ok.strict.symm⟩) fun H1 g1=>?_
  walk_at "rd"
  exact hR _ _ ⟨rfl,g1⟩
 obtain ⟨rfl,g1⟩:=h
 have hA1:=hA.same g1
 have fin : ∀ {H2:Hp},zc H1 H2->(st=true\/wd < sh) -> ∀ l H3,zc H2 H3->H3 l=some (.lst (tsV (qu rs)))->Q (.bl (decide ((if st=true\/wd < sh then (rs.length:Int) else -1)=((tsV (qu rs)).length:Int)))) H3:=fun g2 hs l H3 g3 e3=>by
  rw [if_pos hs,lw,decide_eq_true rfl];exact q _ (g1.trans (g2.trans g3))
 have fin2 : ∀ {H2:Hp},zc H1 H2 -> ¬ (st=true\/wd < sh)->Q (.bl (decide ((if st=true\/wd < sh then (rs.length:Int) else -1) = -1))) H2:=fun g2 hs=>by
  rw [if_neg hs,decide_eq_true rfl];exact q _ (g1.trans g2)
 generalize (if st=true\/wd < sh then (rs.length:Int) else -1)=F at *
 have hA0:=hA1
 rcases hA1 with ⟨fg,pl,b,sn,z,m,pt,wy,hp,ok',sg3,hs,rfl,rfl,rfl⟩ | ⟨sg,lo,hi,hp,se,wr,hs,rfl,rfl,rfl⟩ | ⟨L0,ns,hp,hL,nm,n1,n12,wc,hs,rfl,rfl,rfl⟩
 ·have hp0:=hp
  unfold Xo at hp
  walk_at "rd"
  ·rename_i hc
   refine j6 ne wds.fr (by omega) (by rw [zr];omega) fun l H2 g2 n2 e2=>?_
   walk_at "rd"
   exact fin (zc.refl _) (.inl hc) l H2 g2 e2
  ·rename_i hc
   refine .inl ⟨p,fg,pl,b,sn,z,m,pt,wy,wd,f,x,st,rfl,hp0,ok',fun H2 g2=>?_⟩
   have hp2:=g2.at hp
   walk_at "rd"
   ·rename_i hd
    refine j6 ne wds.fr (by omega) (by rw [zr];omega) fun l H3 g3 n3 e3=>?_
    walk_at "rd"
    exact fin g2 (.inr hd) l H3 g3 e3
   ·rename_i hd
    exact fin2 g2 (by rintro (z' | z');rw [hc] at z';cases z';omega)
 ·have hp0:=hp
  unfold QU at hp
  walk_at "rd"
  ·rename_i hc
   refine j6 ne wds.fr (by omega) (by rw [zr];omega) fun l H2 g2 n2 e2=>?_
   walk_at "rd"
   exact fin (zc.refl _) (.inl hc) l H2 g2 e2
  ·rename_i hc
   refine .inr (.inl ⟨p,sg,lo,hi,wd,f,x,st,rfl,hp0,?_⟩)
   walk_at "rd"
   ·rename_i hd
    refine j6 ne wds.fr (by omega) (by rw [zr];omega) fun l H3 g3 n3 e3=>?_
    walk_at "rd"
    exact fin (zc.refl _) (.inr hd) l H3 g3 e3
   ·rename_i hd
    exact fin2 (zc.refl _) (by rintro (z' | z');rw [hc] at z';cases z';omega)
 ·have hp0:=hp
  unfold Xf at hp
  walk_at "rd"
  ·rename_i hc
   refine j6 ne wds.fr (by omega) (by rw [zr];omega) fun l H2 g2 n2 e2=>?_
   walk_at "rd"
   exact fin (zc.refl _) (.inl hc) l H2 g2 e2
  ·rename_i hc
   refine .inr (.inr ⟨p,L0,ns,wd,f,x,st,rfl,hp0,hL,n1,n12,fun t ht=>(nm.len t ht).2,fun H2 g2=>?_⟩)
   have hp2:=g2.at hp
   walk_at "rd"
   ·rename_i hd
    refine j6 ne wds.fr (by omega) (by rw [zr];omega) fun l H3 g3 n3 e3=>?_
    walk_at "rd"
    exact fin g2 (.inr hd) l H3 g3 e3
   ·rename_i hd
    exact fin2 g2 (by rintro (z' | z');rw [hc] at z';cases z';omega)
theorem zEH {K:PySem.W.Frag} {p:Addr} {x:Str} {W:List Row->Prop} {d:Str} {sh:Int} (h1:SpA H p wd f x st W d sh) (h2:Xb kw st (decide (sh<=wd)) rs) (q : ∀ H',zc H H'->Q (.bl true) H'):xa K ([.ref p,.str (T (jn [32] (qu rs)))]++[]) H Q E:=⟨p,wd,f,x,st,W,d,sh,kw,rs,rfl,h1,h2,q⟩
theorem zMH {K:PySem.W.Frag} {o:Int} (q : ∀ p H' wd f x st W d sh,zc H H'->SpA H' p wd f x st W d sh->Q (.ref p) H') (k0:0<=k) (k3:k < 3):wY K ([.int c,.int o,.int k]++[]) H Q E:=⟨c,o,k,rfl,k0,k3,q⟩
theorem zJj {K:PySem.W.Frag} {p:Addr} {bits:Int} {x:Str} {W:List Row->Prop} {d:Str} {sh:Int} (h1:SpA H p wd f x st W d sh) (q : ∀ L H' rs kw,zc H H'->Xb kw st (decide (sh<=wd)) rs->Rws H' L rs->Q (.ref L) H'):y4 K ([.ref p,.int bits]++[]) H Q E:=⟨p,bits,wd,f,x,st,W,d,sh,rfl,h1,fun L H' ws cf cs g hw R=>by
 obtain ⟨kw,ok⟩:=h1.ok hw cf cs
 exact q L H' _ kw g ok R⟩
theorem Xb.text_pos (ok:Xb kw st okS rs):0 < (jn [32] (qu rs)).length:=by
 obtain ⟨tl,h⟩:=ok.hd
 have hk:0 < kw.length:=by rcases ok.kd with rfl | rfl | rfl <;> decide
 rw [h]
 show 0 < (kw++_).length
 rw [length_append];omega
theorem Xb.ins (ok:Xb kw st okS rs) {k:Nat} (hk:k<=rs.length):(∀ w ∈ (qu rs).take k++[]::(qu rs).drop k,Wk1 w)/\Au.run ((qu rs).take k++[]::(qu rs).drop k) p0 0=k:=by
 refine ⟨fun w hw=>?_,?_⟩
 ·rcases List.mem_append.mp hw with z | z
  ·exact ok.wk w (mem_of_mem_take z)
  ·rcases List.mem_cons.mp z with rfl | z
   ·exact qw.mp (by decide +kernel)
   ·exact ok.wk w (mem_of_mem_drop z)
 ·rcases lt_or_ge k rs.length with z | z
  ·rw [<- Je,JX rs [] 0 p0 0 k z ok.good Yi];omega
  ·have e:k=rs.length:=by omega
   subst e
   rw [List.take_of_length_le (by rw [zr];exact Nat.le_refl _),Jk rs [] 0 p0 0 ok.good (fun y=>zEV ok.kd [] (mem_cons_self ..) (mem_of_mem_drop y))];omega
def JD (K:W.Frag):Sp:=fun vs H Q _=>∃ c o:Int,vs=[.int c,.int o] /\ ∀ H',zc H H'->Q (.bl true) H'
include Z in
theorem Kg:Has P w K mg base "_law_right" 11 ["_law_cell", "_law_other"] (JD K):=by
 refine xz Z.kn Z.bQ (l2N (by intros;rfl)) fun fq fd F=>?_
 refine F.ok qK (fun vs H Q E=>?_) (fun _ _ _ s H vs Q E hr h=>?_)
 ·walk_at "ln"
 obtain ⟨c,o,rfl,q⟩:=h
 refine ⟨_,zD (zI (i:=2) qK.nd rfl (Or.inl rfl) (zH (Xg Z) hr rfl (zA (pv 0) (zA (pv 1) (zA (zH (zM Z) hr rfl (zA (pv 0) (zA (zB) (zA (zB) (zC))))) (zC))))))
  (zD (zI (i:=3) qK.nd rfl (Or.inl rfl) (zH (Jr Z) hr rfl (zA (pv 2) (zA (zH (zM Z) hr rfl (zA (pv 1) (zA (zB) (zA (zB) (zC))))) (zC)))))
  (zD (zI (i:=4) qK.nd rfl (Or.inl rfl) (yx PySem.F.plainAttrs_str PySem.F.slot_str_join PySem.F.type_str_join Z2 (zE (l:=[32]) (by decide +kernel)) (zA (yq (cl:=[]) (fr:=[]) (is:=[]) rfl rfl trivial rfl trivial (by decide) (by decide +kernel) rfl (by decide +kernel) rfl (y0 (pv 3)) (fun _ _ _ _=>j7) (fun _ _ _ _=>za (Qk (K:=K) rfl) (pv 0) (zB) (fun _ _=>rfl))) (zC))))
  (zD (z5 (PW.pt (kz (zT kg (zH (qT Z) hr rfl (zA (pv 4) (zC))) (Zk xr (zB)) (zS _)) (j8 (xb (qd (zH (Zz Z) hr rfl (zA (pv 2) (zA (pv 4) (zC))))))))) (zF (zQ (Qm))) (zX))
  (zD (zI (i:=5) qK.nd rfl (Or.inl rfl) (yx PySem.F.plainAttrs_str PySem.F.slot_str_split PySem.F.type_str_split ko (pv 4) (zA (zE (l:=[32]) (by decide +kernel)) (zC))))
  (zD (zI (i:=6) qK.nd rfl (Or.inl rfl) (zH (zM Z) hr rfl (zA (pv 1) (zA (zB) (zA (zP z9 (zR qh Z.ao rfl qy (zA (pv 5) (zC))) (zB)) (zC))))))
  (zD (z5 (zT kg (zH (qT Z) hr rfl (zA (yx PySem.F.plainAttrs_str PySem.F.slot_str_join PySem.F.type_str_join Z2 (zE (l:=[32]) (by decide +kernel)) (zA (zP jX (zP jX (zt yU (pv 5) (qL) (zx (pv 6))) (zd (zA (zE (l:=[]) (by decide +kernel)) (zC)))) (zt yU (pv 5) (zx (pv 6)) (qL))) (zC))) (zC))) (pv 6) (zS _)) (zF (zQ (Qm))) (zX))
  (zD (zI (i:=6) qK.nd rfl (Or.inl rfl) (zH (zM Z) hr rfl (zA (pv 1) (zA (zB) (zA (zR jG Z.ao rfl qy (zA (pv 4) (zC))) (zC))))))
  (zD (zI (i:=7) qK.nd rfl (Or.inl rfl) (za zi (zd (zA (zE (l:=[10]) (by decide +kernel)) (zA (zE (l:=[9]) (by decide +kernel)) (zC)))) (zH (zM Z) hr rfl (zA (pv 1) (zA (zB) (zA (zB) (zC))))) (fun _ _=>rfl)))
  (zD (z5 (PW.pt (kz (zT kg (zH (qT Z) hr rfl (zA (zP jR (zP jR (zt xl (pv 4) (qL) (zx (pv 6))) (pv 7)) (zt xl (pv 4) (zx (zP z9 (pv 6) (zB))) (qL))) (zC))) (zB) (zS _)) (j8 (zT kg (zH (qT Z) hr rfl (zA (zP jR (zP jR (zt xl (pv 4) (qL) (zx (pv 6))) (pv 7)) (zt xl (pv 4) (zx (pv 6)) (qL))) (zC))) (zB) (zS _))))) (zF (zQ (Qm))) (zX))
  (zD (J8 PassesOwn.never rfl (xp rfl Z.ap (zA (zB) (zC))) (qF (i:=8) qK.nd rfl (Or.inl rfl)) (zD (ZU (zH (Z6 Z) hr rfl (zA (pv 3) (zA (zH (zM Z) hr rfl (zA (pv 1) (zA (zP z9 (zB) (pv 8)) (zA (zB) (zC))))) (zC)))) (Vl rfl (qN (qF (i:=5) qK.nd rfl (Or.inl rfl)) (qN (qF (i:=6) qK.nd rfl (Or.inl rfl)) (XO)))))
  (zF (z5 (zT kg (zH (qT Z) hr rfl (zA (yx PySem.F.plainAttrs_str PySem.F.slot_str_join PySem.F.type_str_join Z2 (zE (l:=[32]) (by decide +kernel)) (zA (pv 5) (zC))) (zC))) (pv 6) (zS _)) (zF (zQ (Qm))) (zX)))))
  (zF (zQ (zy qJ (zH (qT Z) hr rfl (zA (pv 4) (zC))) (Zk xr (zB)) (zS _)))))))))))))),?_⟩
 walk_at "st"
 walk_at "rd"
 rename_i v0 a0 a1
 refine zMH (fun p H1 wd f x st W d sh g1 hA=>?_) a0 a1
 walk_at "rd"
 rename_i v1 b0 b1
 refine zJj hA fun L H2 rs kw g2 ok R2=>?_
 obtain ⟨vs,eL,R2⟩:=R2
 have ln:=R2.len
 have l21:=ok.len
 obtain ⟨ne,wds,tl1,tl2⟩:=ok.text
 have lw:(tsV (qu rs)).length=rs.length:=by unfold tsV;rw [length_map,zr]
 walk_at "rd"
 refine yr (SqL.of eL) (qz (by omega)) (fun i ys H'=>H'=H2/\ys=tsV ((qu rs).take i)) ⟨rfl,rfl⟩ (fun i ys H' hi h=>⟨by rw [h.1];exact SqL.of eL,by rw [h.2];unfold tsV;rw [length_map,length_take];omega⟩) ?_ ?_
 ·rintro i y ys H' hy hi ⟨rfl,rfl⟩
  obtain ⟨p4,r4,rfl,e4,h4⟩:=R2.get hy
  walk_at "rd"
  refine nxC hi ⟨rfl,?_⟩
  rw [take_add_one,show (qu rs)[i]? = some r4.w by unfold qu;rw [getElem?_map,h4];rfl]
  unfold tsV
  rw [map_append];rfl
 rintro ys H' ⟨rfl,rfl⟩ p3 H3 g3 e3
 rw [ln,<- zr,take_length] at e3
 walk_at "rd"
 refine XI e3 (by rw [zr];show _+rs.length*1<=16777216;omega) ?_
 rw [show Lt (T [32])=[32] from rfl]
 walk_at "rd"
 have gr:=WG rs [] 0 p0 0 ok.good
 refine jm (R:=-1) (.inl ⟨_,rfl,wds,gr.symm⟩) fun H4 g4=>?_
 walk_at "rd"
 refine zEH (hA.same (g2.trans (g3.trans g4))) ok fun H5 g5=>⟨_,rfl,?_⟩
 have g05:zc H' H5:=g3.trans (g4.trans g5)
 have eL5:=g05.at eL
 have R5:=R2.same g05
 have gH:zc H H5:=g1.trans (g2.trans g05)
 clear e3 eL R2 hA
 walk_at "rd"
 refine j6 ne wds.fr (by omega) (by rw [zr];omega) fun l6 H6 g6 n6 e6=>?_
 have tp:0 < (jn [32] (qu rs)).length:=ok.text_pos
 refine VI ?_
 refine z7 (fun σ' H'=>σ'=[some (.int c),some (.int o),some (.ref p),some (.ref L),some (.str (T (jn [32] (qu rs)))),some (.ref l6),none,none,none]/\H'=H6) (fun σ7 H7 h=>?_) (fun R hR=>?_)
 rotate_left
 ·walk_at "rd"
  exact hR _ _ ⟨rfl,rfl⟩
 obtain ⟨rfl,rfl⟩:=h
 refine z7 (fun σ' H'=>∃ k:Nat,σ'=[some (.int c),some (.int o),some (.ref p),some (.ref L),some (.str (T (jn [32] (qu rs)))),some (.ref l6),some (.int k),none,none]/\H'=H7/\k<=rs.length) (fun σ7 H7 h=>?_) (fun R hR=>?_)
 rotate_left
 ·walk_at "rd"
  rename_i v2 c0 c1
  obtain ⟨k,rfl⟩ : ∃ k:Nat,v2=k:=⟨v2.toNat,by omega⟩
  exact hR _ _ ⟨k,rfl,rfl,by omega⟩
 obtain ⟨k,rfl,rfl,hk⟩:=h
 refine z7 (fun σ' H'=>σ'=[some (.int c),some (.int o),some (.ref p),some (.ref L),some (.str (T (jn [32] (qu rs)))),some (.ref l6),some (.int k),none,none]/\zc H7 H') (fun σ8 H8 h=>?_) (fun R hR=>?_)
 rotate_left
 ·walk_at "rd"
  rename_i p7 H8 g8 e8 p8 H9 g9 e9
  rw [Vx (by rw [zr];omega)] at e8
  refine Qg (g9.at e8) e9 (qz (by unfold tsV;rw [length_map,length_take,zr];show _+1<=1000;omega)) fun p10 H10 g10 e10=>?_
  have e6':=g10.at (g9.at (g8.at e6))
  walk_at "rd"
  rename_i p11 H11 g11 e11
  rw [K9 (by omega) (by omega),toNat_natCast] at e11
  have e11':H11 p11=some (.lst (tsV ((qu rs).drop k))):=by rw [e11];unfold tsV;rw [List.map_drop]
  refine Qg (g11.at e10) e11' (qz (by unfold tsV;rw [length_append,length_map,length_map,length_take,length_drop,zr];show _+1+_<=1000;omega)) fun p12 H12 g12 e12=>?_
  have e12':H12 p12=some (.lst (tsV ((qu rs).take k++[]::(qu rs).drop k))):=by rw [e12];unfold tsV;rw [map_append,append_assoc];rfl
  obtain ⟨iw,ir⟩:=ok.ins hk
  have ij:=KW iw
  have il:((qu rs).take k++[]::(qu rs).drop k).length=rs.length+1:=by rw [length_append,length_take,length_cons,length_drop,zr];omega
  rw [il] at ij
  walk_at "rd"
  refine XI e12' (by rw [il];show _+(rs.length+1)*1<=16777216;omega) ?_
  rw [show Lt (T [32])=[32] from rfl]
  walk_at "rd"
  refine jm (R:=k) (.inl ⟨_,rfl,YH (by simp) (by rw [il];omega) iw,ir.symm⟩) fun H13 g13=>?_
  walk_at "rd"
  exact hR _ _ ⟨rfl,g8.trans (g9.trans (g10.trans (g11.trans (g12.trans g13))))⟩
 obtain ⟨rfl,g8⟩:=h
 refine z7 (fun σ' H'=>∃ k2:Nat,σ'=[some (.int c),some (.int o),some (.ref p),some (.ref L),some (.str (T (jn [32] (qu rs)))),some (.ref l6),some (.int k2),none,none]/\H'=H8/\k2 < (jn [32] (qu rs)).length) (fun σ9 H9 h=>?_) (fun R hR=>?_)
 rotate_left
 ·walk_at "rd"
  rename_i v2 c0 c1
  obtain ⟨k,rfl⟩ : ∃ k:Nat,v2=k:=⟨v2.toNat,by omega⟩
  exact hR _ _ ⟨k,rfl,rfl,by omega⟩
 obtain ⟨k2,rfl,rfl,hk2⟩:=h
 refine z7 (fun σ' H'=>∃ sg:Nat,σ'=[some (.int c),some (.int o),some (.ref p),some (.ref L),some (.str (T (jn [32] (qu rs)))),some (.ref l6),some (.int k2),some (.str (T [sg])),none]/\zc H9 H'/\sgB sg=false) (fun σ10 H10 h=>?_) (fun R hR=>?_)
 rotate_left
 ·walk_at "rd"
  ·rename_i p7 H10 g10 e10 v2 c0 c1 hv
   exact hR _ _ ⟨10,rfl,g10,by decide +kernel⟩
  ·rename_i p7 H10 g10 e10 v2 c0 c1 hv
   exact hR _ _ ⟨9,rfl,g10,by decide +kernel⟩
 obtain ⟨sg,rfl,g10,hsg⟩:=h
 refine z7 (fun σ' H'=>σ'=[some (.int c),some (.int o),some (.ref p),some (.ref L),some (.str (T (jn [32] (qu rs)))),some (.ref l6),some (.int k2),some (.str (T [sg])),none]/\zc H10 H') (fun σ11 H11 h=>?_) (fun R hR=>?_)
 rotate_left
 ·have st1 : ∀ a b:List Nat,(a++[sg]++b).all sgB=false:=fun a b=>by rw [all_append,all_append,List.all_cons,hsg,Bool.false_and,Bool.and_false,Bool.false_and]
  walk_at "rd"
  refine jm (R:=0) (.inr (.inl ⟨_,rfl,by simp only [length_append,length_take,length_drop,length_cons,length_nil];omega,st1 _ _,rfl⟩)) fun H11 g11=>?_
  walk_at "rd"
  refine jm (R:=0) (.inr (.inl ⟨_,rfl,by simp only [length_append,length_take,length_drop,length_cons,length_nil];omega,st1 _ _,rfl⟩)) fun H12 g12=>?_
  walk_at "rd"
  exact hR _ _ ⟨rfl,g11.trans g12⟩
 obtain ⟨rfl,g11⟩:=h
 have g5F:zc H5 H11:=g6.trans (g8.trans (g10.trans g11))
 have eL11:=g5F.at eL5
 have R11:=R5.same g5F
 have gHF:=gH.trans g5F
 clear g8 g10 g11 e6 g6 R5 eL5 g5 g4 g3 g05 n6
 walk_at "rd"
 refine Jv (by omega) (by omega) (fun i σ H'=>zc H11 H' /\ ∃ a b r:Option V,σ=[some (.int c),some (.int o),some (.ref p),some (.ref L),some (.str (T (jn [32] (qu rs)))),a,b,some (.str (T [sg])),r]) ⟨zc.refl _,_,_,none,rfl⟩ ?_ ?_
 ·rintro i σ H12 hlt ⟨gg,a,b,r,rfl⟩
  walk_at "rd"
  rename_i v2 c0 c1
  refine ⟨L,v2,kw,st,_,rs,rfl,⟨vs,gg.at eL11,R11.same gg⟩,ok,c0,fun p13 l13 ws a13 H13 g13 sp ep el=>?_⟩
  have wl:=KW sp.wk
  have wl2:=sp.l
  walk_at "rd"
  refine XI el (by show _+ws.length*1<=16777216;omega) ?_
  rw [show Lt (T [32])=[32] from rfl,<- zKf (ws:=ws)]
  walk_at "rd"
  refine jm (R:=a13) (.inl ⟨_,rfl,zJk sp.l sp.wk,sp.run.symm⟩) fun H14 g14=>?_
  walk_at "rd"
  exact ⟨gg.trans (g13.trans g14),_,_,_,rfl⟩
 ·rintro σ H12 ⟨gg,a,b,r,rfl⟩
  walk_at "rd"
  refine jm (R:=-1) (.inl ⟨_,rfl,wds,gr.symm⟩) fun H13 g13=>?_
  walk_at "rd"
  exact q _ (gHF.trans (gg.trans g13))
theorem zF4 {o:Int} (q : ∀ H',zc H H'->Q (.bl true) H'):JD K ([.int c,.int o]++[]) H Q E:=⟨c,o,rfl,q⟩
def K3 (K:W.Frag):Sp:=fun vs H Q _=>∃ (a:Addr) (ns:List Int),vs=[.ref a]/\SqL K H a (ns.map V.int)/\ns.length<=63 /\ ∀ H',Q (.bl true) H'
include Z in
theorem zIa {fq:Addr} {fd:FuncData} (F:Fun K "law" "law" KH fq fd):xx P w K mg base CX0 12 fq fd ["_law_script"] (K3 K):=by
 refine F.ok zBW (fun vs H Q E=>?_) (fun _ _ _ s H vs Q E hr h=>?_)
 ·walk_at "ln"
 obtain ⟨a,ns,rfl,hS,h63,q⟩:=h
 refine ⟨_,zD (J8 PassesOwn.never rfl (xp rfl Z.ap (zA (zR (YB rfl) Z.au rfl zA4 (zA (zB) (zA (zR (ZF rfl) Z.av rfl VB (zA (zB) (zA (zP qb (zR qh Z.ao rfl qy (zA (pv 0) (zC))) (zB)) (zC)))) (zC)))) (zC))) (qF (i:=1) zBW.nd rfl (Or.inl rfl)) (zF (z5 (xb (qd (zH (Kg Z) hr rfl (zA (zH (y1 Z) hr rfl (zA (pv 0) (zA (zP jk (zB) (pv 1)) (zC)))) (zA (zH (y1 Z) hr rfl (zA (pv 0) (zA (zP z9 (zP jk (zB) (pv 1)) (zB)) (zC)))) (zC)))))) (zF (zQ (Qm))) (zX))))
  (zD (zI (i:=2) zBW.nd rfl (Or.inl rfl) (zd (zA (Jl) (zA (zB) (zA (Qm) (zA (zd (zA (zE (l:=[110,117,109,98,101,114]) (by decide +kernel)) (zA (zE (l:=[49]) (by decide +kernel)) (zA (zE (l:=[48]) (by decide +kernel)) (zC))))) (zA (zo (zA (zE (l:=[110,117,109,98,101,114]) (by decide +kernel)) (zA (zE (l:=[49]) (by decide +kernel)) (zA (zE (l:=[48]) (by decide +kernel)) (zC))))) (zA (zFt) (zA (zB) (zC) zY) zGR) zD2) zHD) zY) zY) zY)))
  (zF (zQ (Qt (zy qJ (zH (qT Z) hr rfl (zA (za zi (pv 2) (zP qE (zH (y1 Z) hr rfl (zA (pv 0) (zA (zB) (zC)))) (zB)) (fun _ _=>rfl)) (zC))) (zB) (zS _)) (ku (zy qJ (zH (qT Z) hr rfl (zA (zE (l:=[]) (by decide +kernel)) (zC))) (zB) (zS _))))))),?_⟩
 walk_at "st"
 walk_at "rd"
 rename_i k1 hk1 k0 hk0
 rw [length_map] at hk1
 refine Jv (by omega) (by omega) (fun i σ H'=>zc H H' /\ ∃ r:Option V,σ=[some (.ref a),r,none]) ⟨zc.refl _,none,rfl⟩ ?_ ?_
 ·rintro i σ H1 hlt ⟨gg,r,rfl⟩
  have hS1:=gg.seq hS
  walk_at "rd"
  refine zF4 fun H2 g2=>⟨_,rfl,?_⟩
  walk_at "rd"
  exact ⟨gg.trans g2,_,rfl⟩
 ·rintro σ H1 ⟨gg,r,rfl⟩
  have hS1:=gg.seq hS
  walk_at "rd"
  rename_i p1 H2 g2 e2 p2 H3 g3 e3 p3 H4 g4 e4 p5 H5 g5 e5 v
  have m0:=emod_nonneg v (show (7:Int)≠0 by decide)
  have m1:=emod_lt_of_pos v (show (0:Int) < 7 by decide)
  refine qU (SqL.of e5) m0 m1 fun x hx=>?_
  have nt:NT H5 x:=by
   have hm:=mem_of_getElem? hx
   simp only [mem_cons,not_mem_nil,or_false] at hm
   rcases hm with rfl | rfl | rfl | rfl | rfl | rfl | rfl
   ·exact .non
   ·exact .int 5
   ·exact .bl true
   ·exact .lst (g5.at (g4.at (g3.at e2)))
   ·exact .tup (g5.at (g4.at e3))
   ·exact .dct (g5.at e4)
   ·exact .int 0
  walk_at "rd"
  refine jm (R:=0) (.inr (.inr ⟨nt,rfl⟩)) fun H6 g6=>?_
  walk_at "rd"
  refine jm (R:=0) (.inl ⟨[[]],rfl,YH (by simp) (by decide) (fun w hw=>by rw [List.mem_singleton.mp hw];exact qw.mp (by decide +kernel)),by decide +kernel⟩) fun H7 g7=>?_
  walk_at "rd"
  exact q _
end
theorem all_mk {l:W.OpenLaw} {w:World} {mg:Str->Option Value} {fa je jJ qA ji jg xU yw zO Z3 zJ zV zU zL qY jY Q4 jO:Addr} {wW jV:Tok} (hfa:mg "law" = some (.ref fa)) (Z:Zs w K mg je jJ qA ji jg xU yw zO Z3 zJ zV zU zL qY jY Q4 jO wW jV) :
  ∃ fd:FuncData,(∀ (s:Shared) (v:Value),BindsTo s fd ⟨[v],[]⟩ [("_law_script", v)]) /\ ∀ base:Heap,K.In base->base.Ns mainGlobals mg->xx l.prog w K mg base CX0 12 fa fd ["_law_script"] (K3 K):=by
 obtain ⟨h,X,G⟩:=Z.kn
 obtain ⟨f,oc,od,kV,dc,pm,an,cd,ct,sl,a,l',c,k⟩:=Z.bR
 have e:=hfa.symm.trans (W.mg_of X G a)
 cases e
 exact ⟨W.fnOf "law" "law" (qP KH) (z6 KH) (zG KH) .none kV dc pm an cd ct,fun s v=>.of_eq rfl,fun base _ _=>zIa Z (WD (st:=KH) l' c k)⟩
theorem walk {l:W.OpenLaw} {q:Program} {loose:List Str} {XP:(Str->Option Value)->Heap->Prop} {YP:World->Heap->Prop} {d:DefRec} {K:Params->W.Frag} (hn:l.most=some 63) (hdf:d.params.defaults=[])
  (hY : ∀ (w:World) (h:Heap),YP w h->(K w.params).In h)
  (F : ∀ (w:World) (mg:Str->Option Value) (fa:Addr) (h:Heap),(K w.params).In h->h.Ns mainGlobals mg->mg d.name=some (.ref fa) ->
   ∃ fd:FuncData,(∀ (s:Shared) (u:Value),BindsTo s fd ⟨[u],[]⟩ [("_law_script", u)]) /\ ∀ base:Heap,(K w.params).In base->base.Ns mainGlobals mg->xx l.prog w (K w.params) mg base CX0 12 fa fd ["_law_script"] (K3 (K w.params))) :
  W.WalkO q loose XP YP l.row.toRowW d [] (fun f vs=>PySem.call f vs):=
 L2.walk_of (n:=63) (k:=12) (x:="_law_script") (CX:=fun _=>CX0) (sp:=fun w=>K3 (K w.params)) hn (by decide) hdf ⟨rfl,by decide,by decide⟩ hY F (fun _ _ a ns hl _ hS=>⟨a,ns,rfl,hS,hl,fun _=>rfl⟩) fun _ _ _ _ _ z=>z
end Pw
namespace PySem.W.Fast
def tw10037706904862197831:=Nat
def tw10081988916008098336:=Nat
def tw1010161915461967944:=Nat
def tw1011723942572307855:=Nat
def tw10119372056211640865:=Nat
def tw10134494859377436316:=Nat
def tw10148040513622400191:=Nat
def tw10236805486037327536:=Nat
def tw10256577428947206298:=Nat
def tw10273297687099335417:=Nat
def tw10276748413708195023:=Nat
def tw10276818912359137164:=Nat
def tw10285629583649061274:=Nat
def tw10288867547035556890:=Nat
def tw10331461041237097149:=Nat
def tw10333519198177512607:=Nat
def tw10374958203641697763:=Nat
def tw10379903115731137619:=Nat
def tw10382455718696495811:=Nat
def tw10426718183047560313:=Nat
def tw10474888231582511739:=Nat
def tw10525234307150358464:=Nat
def tw1053391018559345834:=Nat
def tw10556600606066800702:=Nat
def tw1058628016044406632:=Nat
def tw10616505499878150976:=Nat
def tw10618401656952277172:=Nat
def tw10642363860468361867:=Nat
def tw10667256289368820954:=Nat
def tw10676962852082539240:=Nat
def tw10678347406433199805:=Nat
def tw10685363430327642671:=Nat
def tw10686458788612957191:=Nat
def tw10698556490773373876:=Nat
def tw10711843508431478987:=Nat
def tw10716221352129252017:=Nat
def tw10724872532558633147:=Nat
def tw10737683859448393284:=Nat
def tw10821189787715510498:=Nat
def tw10903795659311929775:=Nat
def tw10924136795675157687:=Nat
def tw10971195876864317960:=Nat
def tw10998888243326049737:=Nat
def tw11042288676716239873:=Nat
def tw11061210257642967385:=Nat
def tw11100576565415535805:=Nat
def tw11151278276952410153:=Nat
def tw11186751191653469231:=Nat
def tw11196323400093314481:=Nat
def tw11219791020946899870:=Nat
def tw11223070709603323054:=Nat
def tw11244982112504467414:=Nat
def tw11252095597183242532:=Nat
def tw11262666140189312297:=Nat
def tw11318250622768690474:=Nat
def tw11352090779734095275:=Nat
def tw11357334674704390919:=Nat
def tw11377538175797418128:=Nat
def tw11410281128796216779:=Nat
def tw11410542350247366:=Nat
def tw11450547486502654988:=Nat
def tw11482803303840188702:=Nat
def tw11485856932062497014:=Nat
def tw11523066473621576280:=Nat
def tw11554859580950609594:=Nat
def tw11560348590301754727:=Nat
def tw11653151092679211164:=Nat
def tw11664021887825929427:=Nat
def tw11668473684358914005:=Nat
def tw11682656779126507373:=Nat
def tw1168884092117705366:=Nat
def tw11699791175264760155:=Nat
def tw11715328601281665077:=Nat
def tw11774760726690991231:=Nat
def tw11811010947669175119:=Nat
def tw11849316978937875002:=Nat
def tw11866504220933223369:=Nat
def tw11872842258431402952:=Nat
def tw11883944003294475110:=Nat
def tw11896051323674404237:=Nat
def tw11896723435561309579:=Nat
def tw11924620196214404639:=Nat
def tw11932136837784166020:=Nat
def tw11963767007773810092:=Nat
def tw11964958112673432119:=Nat
def tw12010102240132602575:=Nat
def tw12040841638715597762:=Nat
def tw12075803700670768847:=Nat
def tw12090711201649647317:=Nat
def tw12093241824458389252:=Nat
def tw12094074680332728496:=Nat
def tw12101156743237915113:=Nat
def tw12132297950224902250:=Nat
def tw12153775709061103437:=Nat
def tw12168898190940950279:=Nat
def tw12174917566727039151:=Nat
def tw12215565194448152477:=Nat
def tw12250850136033412910:=Nat
def tw12278249061531313077:=Nat
def tw12323788792798372598:=Nat
def tw12336266368576019885:=Nat
def tw12373108179602028658:=Nat
def tw12412045967449243833:=Nat
def tw12441832514481892925:=Nat
def tw124434984561186794:=Nat
def tw12449147960648537911:=Nat
def tw12450644149040327833:=Nat
def tw12461151021216964516:=Nat
def tw12512305040587885941:=Nat
def tw12550372701300817732:=Nat
def tw12562699220116106915:=Nat
def tw12562786017961297333:=Nat
def tw12590547449167948670:=Nat
def tw12596890803062925666:=Nat
def tw12604755427490000303:=Nat
def tw12618693929146369081:=Nat
def tw12631869364220338231:=Nat
def tw12693159576277218907:=Nat
def tw12696442128450960464:=Nat
def tw12716306844037157464:=Nat
def tw12721535127872699125:=Nat
def tw12744061848361967345:=Nat
def tw12762777779915064275:=Nat
def tw12785132591163424874:=Nat
def tw12824202147294139943:=Nat
def tw12827837200216382656:=Nat
def tw12844309211060168768:=Nat
def tw12854010024334965453:=Nat
def tw12870673331903763521:=Nat
def tw12882183506126504379:=Nat
def tw12974206433607354075:=Nat
def tw12997816112563616913:=Nat
def tw13027047334722114490:=Nat
def tw13041588104541575254:=Nat
def tw13065717772909826120:=Nat
def tw13090077389417114188:=Nat
def tw13128652604696316853:=Nat
def tw13134694751974913263:=Nat
def tw13153911320932968175:=Nat
def tw13186074361802163039:=Nat
def tw1319806640302652306:=Nat
def tw13209380950796280319:=Nat
def tw1321823805046163524:=Nat
def tw13235975695762846505:=Nat
def tw13245988047336792694:=Nat
def tw13274852942750009518:=Nat
def tw13336526400860664808:=Nat
def tw13346273455438882969:=Nat
def tw13353671440790320062:=Nat
def tw13359049927028204644:=Nat
def tw13359920917610985386:=Nat
def tw13410150891145042106:=Nat
def tw13411924498311523799:=Nat
def tw13443938810152578107:=Nat
def tw13586566310004223167:=Nat
def tw13613070329188772450:=Nat
def tw13631317625836730127:=Nat
def tw13631690952759392346:=Nat
def tw13633208349908808747:=Nat
def tw13668457735534256529:=Nat
def tw13695751094885047403:=Nat
def tw13843041139844464023:=Nat
def tw13875739087469384531:=Nat
def tw13887515922612748948:=Nat
def tw13896641969572682333:=Nat
def tw1390926287983919551:=Nat
def tw139244497184835886:=Nat
def tw13939818089584502336:=Nat
def tw13966898004186872147:=Nat
def tw1399882513214323696:=Nat
def tw14009753387521904174:=Nat
def tw14025950428208551376:=Nat
def tw14045588782611387811:=Nat
def tw14079273367093018394:=Nat
def tw14104765778238473216:=Nat
def tw14125054979902182223:=Nat
def tw14134434252447386740:=Nat
def tw14144662496197397254:=Nat
def tw1416616444051280342:=Nat
def tw14168344765347042228:=Nat
def tw14172294293705647971:=Nat
def tw1418261356124697479:=Nat
def tw14189031358089855232:=Nat
def tw14193180638737911735:=Nat
def tw14202064777010949264:=Nat
def tw14206199230500559415:=Nat
def tw14224697522897181669:=Nat
def tw1425426938451900236:=Nat
def tw14260146986871939686:=Nat
def tw14264974796290892513:=Nat
def tw14265225896982965101:=Nat
def tw14277846158568105050:=Nat
def tw14330715166968381105:=Nat
def tw14337761766827423940:=Nat
def tw14361730128626952485:=Nat
def tw14371042869466391644:=Nat
def tw14408082737664047496:=Nat
def tw14416571117414643698:=Nat
def tw14429762968568320441:=Nat
def tw14450628918964229787:=Nat
def tw14465071098170753079:=Nat
def tw14488660003962164343:=Nat
def tw1450289181047166366:=Nat
def tw14520387043075799871:=Nat
def tw14534762410837349811:=Nat
def tw14557488877286108590:=Nat
def tw14558721331134064942:=Nat
def tw14559678930777126641:=Nat
def tw14574705588987919313:=Nat
def tw14583226825819529742:=Nat
def tw14585803170528304451:=Nat
def tw14588766534128984873:=Nat
def tw14620382182439719934:=Nat
def tw14657262282718866355:=Nat
def tw14660714179581253565:=Nat
def tw14670810295366126680:=Nat
def tw14681106881840393825:=Nat
def tw14727746921211152689:=Nat
def tw14740881689421862223:=Nat
def tw14755163345822375211:=Nat
def tw14769942184190359571:=Nat
def tw14774952919587914303:=Nat
def tw14815562606327000854:=Nat
def tw14817226866519821691:=Nat
def tw14824490916779415679:=Nat
def tw14834937814649415278:=Nat
def tw14844582003012492883:=Nat
def tw148841153900079037:=Nat
def tw14891056182483285274:=Nat
def tw14894122730936692806:=Nat
def tw14906937955802391718:=Nat
def tw14946971857447353204:=Nat
def tw14995086161759593856:=Nat
def tw15006972975060965578:=Nat
def tw15025609655226016375:=Nat
def tw15065470612933965145:=Nat
def tw15068732511754186135:=Nat
def tw15070581931183087996:=Nat
def tw15073150704596754691:=Nat
def tw15082608130217108920:=Nat
def tw15106097896002304027:=Nat
def tw15112667084708222738:=Nat
def tw15122834669409103207:=Nat
def tw1514567594882789516:=Nat
def tw15149792056809216882:=Nat
def tw15155336069668975914:=Nat
def tw15167989598688215150:=Nat
def tw15173858633853208752:=Nat
def tw15178165757813886226:=Nat
def tw151793689099843545:=Nat
def tw15185556081707271587:=Nat
def tw15227556239065001544:=Nat
def tw15237305811062558494:=Nat
def tw15251338108914827245:=Nat
def tw15272529825141189441:=Nat
def tw15282447245469067641:=Nat
def tw15298738087541154690:=Nat
def tw15313065842220556078:=Nat
def tw15372163301340065664:=Nat
def tw15390784260789354434:=Nat
def tw15405657536191470450:=Nat
def tw15411557065812284440:=Nat
def tw15438550563051366895:=Nat
def tw15450168949706972751:=Nat
def tw15470596623679288379:=Nat
def tw1547431421476120284:=Nat
def tw15533028877007627413:=Nat
def tw15569723117705333901:=Nat
def tw15573983744445324581:=Nat
def tw15575270945105812078:=Nat
def tw15591436274315588190:=Nat
def tw15612716608373309237:=Nat
def tw15621767912757502530:=Nat
def tw15661856017983054737:=Nat
def tw15679238835834187598:=Nat
def tw15692596961553698085:=Nat
def tw15706950130958968309:=Nat
def tw15735440019266022900:=Nat
def tw15804994183258222588:=Nat
def tw15805641471562600474:=Nat
def tw15817113946466398106:=Nat
def tw15881879448554269522:=Nat
def tw1593826210606885570:=Nat
def tw15952349972449966267:=Nat
def tw16016449142506356297:=Nat
def tw16032827034641185153:=Nat
def tw16048505670583166735:=Nat
def tw16134258523553417860:=Nat
def tw16134352911276855833:=Nat
def tw16144666479859400541:=Nat
def tw16148073079297360784:=Nat
def tw16159211764943479297:=Nat
def tw16163309776367768968:=Nat
def tw16167254126938020852:=Nat
def tw16172208782594649275:=Nat
def tw16208340727689952540:=Nat
def tw16231812020884994499:=Nat
def tw16235225185920982813:=Nat
def tw16279461997518682618:=Nat
def tw16327389708119284900:=Nat
def tw16343705812847353856:=Nat
def tw16354290474720680063:=Nat
def tw16374848108242240041:=Nat
def tw16383020966232210234:=Nat
def tw1639605374967214352:=Nat
def tw16402262885564794459:=Nat
def tw16406160207219708706:=Nat
def tw1645293595675132075:=Nat
def tw16460305724698137684:=Nat
def tw16499425895315422380:=Nat
def tw16530120602717306212:=Nat
def tw16534211017991289770:=Nat
def tw16539647136725039638:=Nat
def tw16574024628306984681:=Nat
def tw1659164773712657663:=Nat
def tw16596649244158636304:=Nat
def tw1659858038356890053:=Nat
def tw16609845343582907461:=Nat
def tw16623320053983907414:=Nat
def tw16649936266687734849:=Nat
def tw16705534136019767261:=Nat
def tw16741437336617681490:=Nat
def tw16788992954465965485:=Nat
def tw16794040901450995471:=Nat
def tw16824238323363963671:=Nat
def tw16840719038812389205:=Nat
def tw16883529874711184304:=Nat
def tw16894712074176098159:=Nat
def tw169148861163035897:=Nat
def tw16917738388548582045:=Nat
def tw16931717298978363634:=Nat
def tw17002249166808998352:=Nat
def tw17004547229550515682:=Nat
def tw17016192536205476212:=Nat
def tw17098814641003578625:=Nat
def tw17099985786132015596:=Nat
def tw17139584650653860410:=Nat
def tw17156752278057330155:=Nat
def tw17164538459059354489:=Nat
def tw17169004002655809102:=Nat
def tw17170409816511658109:=Nat
def tw17194270597136793603:=Nat
def tw17203169020660360905:=Nat
def tw17211504172648521446:=Nat
def tw17216984143656808308:=Nat
def tw17232131211734314109:=Nat
def tw17282460931471467116:=Nat
def tw17363596534063722374:=Nat
def tw17400136550474203212:=Nat
def tw1741240906526571400:=Nat
def tw17417184459875340580:=Nat
def tw17417959566706109854:=Nat
def tw17425226784950062963:=Nat
def tw17442612561677908906:=Nat
def tw17445448838895549722:=Nat
def tw17453862487365494612:=Nat
def tw1747026629822238778:=Nat
def tw17497554473243829862:=Nat
def tw17546997705940464601:=Nat
def tw1755056315333011972:=Nat
def tw17563296136946899113:=Nat
def tw1756785447646410034:=Nat
def tw17596161031292349427:=Nat
def tw17602953585003416850:=Nat
def tw17666363555917413905:=Nat
def tw1766709112229379292:=Nat
def tw17676940670913823898:=Nat
def tw176779731038520954:=Nat
def tw17691181484548043031:=Nat
def tw17710788666586198463:=Nat
def tw17744392393838104293:=Nat
def tw17746699172220288992:=Nat
def tw17758224865552149394:=Nat
def tw1777818386296171310:=Nat
def tw17826072019586914810:=Nat
def tw1786276486074349168:=Nat
def tw17899175243524002224:=Nat
def tw17906138984532187149:=Nat
def tw17906292681631964034:=Nat
def tw17939780707922081287:=Nat
def tw17949816312092143384:=Nat
def tw17977931504744964667:=Nat
def tw17984181921424977897:=Nat
def tw18009711865469232589:=Nat
def tw18019298235363128557:=Nat
def tw18020748761176731701:=Nat
def tw18026458311486340819:=Nat
def tw18027640386520877676:=Nat
def tw18032366665871169865:=Nat
def tw18032643814464017658:=Nat
def tw180589783605374406:=Nat
def tw18079557923715131871:=Nat
def tw18082465544521984663:=Nat
def tw18084634584607003893:=Nat
def tw18145940298480059249:=Nat
def tw18218528788621463808:=Nat
def tw1824765473738738133:=Nat
def tw18254710234855593615:=Nat
def tw18278940481457683224:=Nat
def tw18280097358931757967:=Nat
def tw18284260879048973219:=Nat
def tw18311355789154785546:=Nat
def tw18324630646854466883:=Nat
def tw18335212712018025625:=Nat
def tw18378537809299141390:=Nat
def tw18441679999695178236:=Nat
def tw18443033499452795563:=Nat
def tw1862048418328630311:=Nat
def tw1890370083928878819:=Nat
def tw1904583529738703411:=Nat
def tw1905177397605037731:=Nat
def tw1919977458501675925:=Nat
def tw1957083093638525224:=Nat
def tw1980935318680676128:=Nat
def tw1984753125454133205:=Nat
def tw2017194671570946571:=Nat
def tw2039888349400955496:=Nat
def tw2042023205795005089:=Nat
def tw2074824858115802695:=Nat
def tw2093729074809722796:=Nat
def tw2094764747870779600:=Nat
def tw2099688362377958093:=Nat
def tw210011299625240694:=Nat
def tw2137551634771005725:=Nat
def tw2157169728756415050:=Nat
def tw2169396194947618647:=Nat
def tw2178995687348215647:=Nat
def tw2181604610326417376:=Nat
def tw2186841353933321846:=Nat
def tw2237118521609168988:=Nat
def tw22424260019653487:=Nat
def tw2242920674352151578:=Nat
def tw2268260164123087182:=Nat
def tw2302554356424630632:=Nat
def tw2308120268032200714:=Nat
def tw2318228850143754134:=Nat
def tw2318779523906221317:=Nat
def tw2342336062649991624:=Nat
def tw234330271289567411:=Nat
def tw2378158848807180284:=Nat
def tw2387894092066618349:=Nat
def tw238992717224028840:=Nat
def tw2410986369281986858:=Nat
def tw2441908827932080619:=Nat
def tw2452398539998589752:=Nat
def tw2453004821103181636:=Nat
def tw2584016332444638917:=Nat
def tw2587299850905186248:=Nat
def tw2642711380102365474:=Nat
def tw2682407042185152075:=Nat
def tw2737010999992968312:=Nat
def tw2739570644431270451:=Nat
def tw2769916981374159705:=Nat
def tw2802299365190316573:=Nat
def tw2858191558966194139:=Nat
def tw2889445539343626193:=Nat
def tw2915465716764253198:=Nat
def tw2944082429769070671:=Nat
def tw2948593290752662680:=Nat
def tw2951463273114211018:=Nat
def tw2974668511469816643:=Nat
def tw2983480296105845872:=Nat
def tw2983767556460660307:=Nat
def tw3020576814781936979:=Nat
def tw3025724578197391538:=Nat
def tw3070004393486673084:=Nat
def tw3071704869059064282:=Nat
def tw3093384845026997410:=Nat
def tw3104281659897800895:=Nat
def tw313045940968122305:=Nat
def tw3166352826172182222:=Nat
def tw3203115306492677948:=Nat
def tw3257815013206042986:=Nat
def tw3282106182278054617:=Nat
def tw3290367612105422271:=Nat
def tw3328963400553642124:=Nat
def tw3366309757907970804:=Nat
def tw3367908017100510222:=Nat
def tw3381460001500161478:=Nat
def tw3392025308867975453:=Nat
def tw3398925615734926377:=Nat
def tw3415282145282204699:=Nat
def tw3434693815737794307:=Nat
def tw3438641760169564722:=Nat
def tw344115717635555445:=Nat
def tw3447403722407474954:=Nat
def tw3447800571469539628:=Nat
def tw3467826129401496739:=Nat
def tw3498605150968276794:=Nat
def tw3555845829855714530:=Nat
def tw3566080522019697760:=Nat
def tw3578188386955313216:=Nat
def tw357937041637857823:=Nat
def tw3607767171018820869:=Nat
def tw363761279345787368:=Nat
def tw3643056344065416322:=Nat
def tw369956124559680897:=Nat
def tw3706074135947540827:=Nat
def tw3733574068043988209:=Nat
def tw3747192145460031219:=Nat
def tw3759727562009289181:=Nat
def tw3810040657632259450:=Nat
def tw3814798741881201979:=Nat
def tw3855722870076118936:=Nat
def tw3857126271893602599:=Nat
def tw3863819430607234156:=Nat
def tw3938098232402895053:=Nat
def tw3958034815372737891:=Nat
def tw3958391095094560081:=Nat
def tw4000009717328111093:=Nat
def tw4010106064718675524:=Nat
def tw4049548405120462855:=Nat
def tw4062216678626237603:=Nat
def tw4067114308793314402:=Nat
def tw4081040520393375835:=Nat
def tw4090528471062927791:=Nat
def tw4148048351540512091:=Nat
def tw4161506892434768034:=Nat
def tw4172157652639162772:=Nat
def tw4188999689124739175:=Nat
def tw4203125917063215708:=Nat
def tw4216723329377084845:=Nat
def tw4221319600231162722:=Nat
def tw4226427295969950542:=Nat
def tw4236526938233305640:=Nat
def tw4248499363173935380:=Nat
def tw4256952403428301851:=Nat
def tw4265682287132715802:=Nat
def tw4307503841561036202:=Nat
def tw4312952207929197364:=Nat
def tw433623661446675272:=Nat
def tw436723047849742362:=Nat
def tw43692316235978778:=Nat
def tw4378062061799932710:=Nat
def tw4407738393832448439:=Nat
def tw4430498072763393027:=Nat
def tw4430645045890354505:=Nat
def tw4467519513171376885:=Nat
def tw4472323914515869082:=Nat
def tw4514257660265455325:=Nat
def tw4514556332711236073:=Nat
def tw4536509161894115901:=Nat
def tw4552374620048767839:=Nat
def tw4570705425872673138:=Nat
def tw4576870962921368102:=Nat
def tw4583927812294904004:=Nat
def tw4606680847459576903:=Nat
def tw462047504728601069:=Nat
def tw4632294325028451459:=Nat
def tw4636261496308293642:=Nat
def tw4652319563721582594:=Nat
def tw4732144887753871812:=Nat
def tw4735634587944801097:=Nat
def tw4737541216651053038:=Nat
def tw4748513599095655224:=Nat
def tw4749810773047668653:=Nat
def tw477167726904423219:=Nat
def tw4780247212872888730:=Nat
def tw4782074593524496651:=Nat
def tw4785926017868823203:=Nat
def tw4788803394773152095:=Nat
def tw4802208630608660299:=Nat
def tw4803062719339665988:=Nat
def tw4826964048949647898:=Nat
def tw4833939839203747979:=Nat
def tw4850001001678407751:=Nat
def tw4866260257330107972:=Nat
def tw489083097679309803:=Nat
def tw495398438083200900:=Nat
def tw4969610449978697994:=Nat
def tw4978371082481128194:=Nat
def tw499904691092873512:=Nat
def tw4999613920876202547:=Nat
def tw5066396505424653980:=Nat
def tw5083592034508896586:=Nat
def tw5092151799563781327:=Nat
def tw5125332945460664410:=Nat
def tw5125847814647054973:=Nat
def tw5132432579147441906:=Nat
def tw5137384542685269266:=Nat
def tw5141071549597947364:=Nat
def tw5192139877101912696:=Nat
def tw5197055298727744198:=Nat
def tw5197754579454647300:=Nat
def tw5200553094047830153:=Nat
def tw5228178146763519887:=Nat
def tw5243438251322313059:=Nat
def tw5259996945451859034:=Nat
def tw5289514531790117014:=Nat
def tw530986889570184852:=Nat
def tw5320533343705904885:=Nat
def tw5322876162821541924:=Nat
def tw5339007620163457512:=Nat
def tw536513592936782598:=Nat
def tw5372281300677586415:=Nat
def tw5373892495642757889:=Nat
def tw5389214060793739166:=Nat
def tw5390239540773790430:=Nat
def tw5393287272253720671:=Nat
def tw5397859846638581898:=Nat
def tw5451061500314180765:=Nat
def tw5473887202946723638:=Nat
def tw5502994070068123433:=Nat
def tw5506258747356967095:=Nat
def tw5512998962645238141:=Nat
def tw5525856347773526402:=Nat
def tw5531601975036570909:=Nat
def tw5569787465042306382:=Nat
def tw560831163900195661:=Nat
def tw566803892800510548:=Nat
def tw5688759456809376015:=Nat
def tw5701973053067244294:=Nat
def tw5710196548059776208:=Nat
def tw5718759239697107101:=Nat
def tw574617438280341027:=Nat
def tw5771991463133247896:=Nat
def tw5777381862288404079:=Nat
def tw5806012924771727100:=Nat
def tw5806812738863412264:=Nat
def tw5811070842683056951:=Nat
def tw583858170097250487:=Nat
def tw586597727660825000:=Nat
def tw5901175827622751885:=Nat
def tw5970847594300584334:=Nat
def tw5974084602197265680:=Nat
def tw5977940993167085918:=Nat
def tw6010297819556927645:=Nat
def tw6030544609255936720:=Nat
def tw6045484521448932019:=Nat
def tw6064263175949904468:=Nat
def tw6114298765312325786:=Nat
def tw6187718589421229590:=Nat
def tw6190592174404758504:=Nat
def tw6213922692976896666:=Nat
def tw626618264603714335:=Nat
def tw6269569587414168264:=Nat
def tw6285467335983263091:=Nat
def tw6288222950089890631:=Nat
def tw6319942723574325986:=Nat
def tw6331834267573053999:=Nat
def tw6375033369848192493:=Nat
def tw6405754835449758737:=Nat
def tw6419536121632603692:=Nat
def tw6434877451058046413:=Nat
def tw6447163307757920876:=Nat
def tw6469619438273115982:=Nat
def tw6484390958362601916:=Nat
def tw6529237612149157611:=Nat
def tw6586083743640241941:=Nat
def tw6588930873490161308:=Nat
def tw6604606882862043745:=Nat
def tw662132562616425633:=Nat
def tw6622068683743890091:=Nat
def tw6636256930984328262:=Nat
def tw6662832122946336788:=Nat
def tw6676460366728440188:=Nat
def tw6775910599996929178:=Nat
def tw6778389206056641223:=Nat
def tw6781624717410050838:=Nat
def tw6786867123622520596:=Nat
def tw6812489266732759214:=Nat
def tw6849931721069042859:=Nat
def tw6860996572081748203:=Nat
def tw6887477917920440125:=Nat
def tw6902733359387459477:=Nat
def tw6918802050348299157:=Nat
def tw6921002410440093160:=Nat
def tw692565431337372881:=Nat
def tw6933388448799870239:=Nat
def tw6999866554468004027:=Nat
def tw7006805515232376454:=Nat
def tw700796772569510019:=Nat
def tw704133837569279430:=Nat
def tw7093978257309897132:=Nat
def tw7107582670149705297:=Nat
def tw7110164174046001846:=Nat
def tw7113062677146700998:=Nat
def tw7116274261650883576:=Nat
def tw7170390413732141314:=Nat
def tw7213418459415489435:=Nat
def tw7224656913537351178:=Nat
def tw7232878706707198579:=Nat
def tw7249861403183638959:=Nat
def tw7269231513414370518:=Nat
def tw7283870252597484519:=Nat
def tw7293815440723233759:=Nat
def tw7298063143797691539:=Nat
def tw7430290097605377101:=Nat
def tw7446655171458844889:=Nat
def tw7462073989337450468:=Nat
def tw7500786923344331721:=Nat
def tw7520664779544553350:=Nat
def tw7541923847299929293:=Nat
def tw756990388292432933:=Nat
def tw7591466656618162650:=Nat
def tw7601092684191190640:=Nat
def tw763865403635681979:=Nat
def tw7655571969923775457:=Nat
def tw7682851112097900207:=Nat
def tw7749809494370918302:=Nat
def tw7762158838377823485:=Nat
def tw7765481553326612314:=Nat
def tw7767700116275948852:=Nat
def tw7774248237146474076:=Nat
def tw780258286712294480:=Nat
def tw7886271521750869131:=Nat
def tw7900977853343984687:=Nat
def tw7944594826238195789:=Nat
def tw7947374029333291930:=Nat
def tw7979108187145149492:=Nat
def tw8008522032491936957:=Nat
def tw804399094193677396:=Nat
def tw8059589470051036607:=Nat
def tw809182896602980065:=Nat
def tw8106508501212842704:=Nat
def tw8140139239239117878:=Nat
def tw8142417641810374929:=Nat
def tw8144127233790253554:=Nat
def tw8203061700446212597:=Nat
def tw8273004343723960572:=Nat
def tw8289255178282651487:=Nat
def tw8300497627401407802:=Nat
def tw8304332485156005868:=Nat
def tw8310696222616324422:=Nat
def tw833018269300835282:=Nat
def tw8336700139685838383:=Nat
def tw8346161009759061416:=Nat
def tw8369404425380906682:=Nat
def tw8372967279116345102:=Nat
def tw8378553569088438254:=Nat
def tw8382377338408433716:=Nat
def tw8384395920404472885:=Nat
def tw8390956216349758330:=Nat
def tw8400299064615038428:=Nat
def tw8423181434141466080:=Nat
def tw8444603891400105493:=Nat
def tw8513404557722813370:=Nat
def tw8517870470469547822:=Nat
def tw852164872116564230:=Nat
def tw852885975225680521:=Nat
def tw853765936415399556:=Nat
def tw854507455022877443:=Nat
def tw8555485444233902644:=Nat
def tw8557412106229673805:=Nat
def tw8567997675294326328:=Nat
def tw8574933111428983913:=Nat
def tw8591902139860201747:=Nat
def tw8604451202902564262:=Nat
def tw8616275918360609564:=Nat
def tw864864128421629109:=Nat
def tw8762995224249237662:=Nat
def tw876568484670201325:=Nat
def tw8805885459143413733:=Nat
def tw8813406257383050067:=Nat
def tw881625947270383821:=Nat
def tw8817440365006129117:=Nat
def tw8827286495640928230:=Nat
def tw8827457332395704225:=Nat
def tw8840907853778536078:=Nat
def tw8853014514325872205:=Nat
def tw8870687083418176777:=Nat
def tw8893762552920959768:=Nat
def tw8900889224021444464:=Nat
def tw8904663771656638687:=Nat
def tw8912341666382574919:=Nat
def tw8942527433854899007:=Nat
def tw8948196364689763820:=Nat
def tw8969450519654483380:=Nat
def tw9017223118117238487:=Nat
def tw9027023588337832721:=Nat
def tw9029011815516285266:=Nat
def tw9030553493072540126:=Nat
def tw9085439209214754582:=Nat
def tw9098264714045569138:=Nat
def tw910869872269453668:=Nat
def tw9115282954379174798:=Nat
def tw9125094721375778702:=Nat
def tw9138628684837695243:=Nat
def tw9139366179488984083:=Nat
def tw914257951249460217:=Nat
def tw9150489620355921710:=Nat
def tw9164548835672501714:=Nat
def tw9175307230468971285:=Nat
def tw9216657399255653982:=Nat
def tw9238208745031263300:=Nat
def tw9239114282803463864:=Nat
def tw9264284176486980514:=Nat
def tw9269891006767153477:=Nat
def tw9286823630679453426:=Nat
def tw9406663239077067308:=Nat
def tw9419399675113647799:=Nat
def tw943398485974462193:=Nat
def tw9441270087097208121:=Nat
def tw9448568079021222077:=Nat
def tw9452745590834598621:=Nat
def tw9490162881218149452:=Nat
def tw9493440971478494494:=Nat
def tw9501338144605088243:=Nat
def tw9513876463928040517:=Nat
def tw9578666772537180593:=Nat
def tw9663725916441483780:=Nat
def tw9665435910165187045:=Nat
def tw9707623999420188776:=Nat
def tw9730972229901228984:=Nat
def tw9742264107068728983:=Nat
def tw9755777238779897204:=Nat
def tw9777789517746218587:=Nat
def tw9780592102220422397:=Nat
def tw9804574774434791620:=Nat
def tw9822625401617261196:=Nat
def tw9832263542555459336:=Nat
def tw9885477882229816702:=Nat
def tw9896899472274266185:=Nat
def tw9917103581680286329:=Nat
def tw9955917255221556132:=Nat
def tw9958604517640531194:=Nat
def tw9965408453190376511:=Nat
def tw9966307607204807355:=Nat
def tw9977829132206429081:=Nat
def tw9984174234543085887:=Nat
end PySem.W.Fast
open PySem PySem.W PyProof.Rows
local macro_rules | `(tactic| walk_at "df")=>`(tactic| ((refine' L2.dfx_mk ?a ?l ?c ?k);(case a|l|c|k=>k_is)))
local macro_rules | `(tactic| walk_at "na")=>`(tactic| repeat (first | exact trivial | ((refine' And.intro ?_ ?_);next=>first | k_is | (show _=_;k_is))))
local macro_rules | `(tactic| walk_at "dm")=>`(tactic| ((refine' L2.dmx_mk ?a ?l ?c ?k ?n ?i);(case a|l|c|k|n=>k_is);(case i=>walk_at "na")))
local macro_rules | `(tactic| walk_at "dd")=>`(tactic| ((refine' L2.ddx_mk ?a ?l ?c ?k ?n ?d ?s ?i);(case a|l|c|k|n|d=>k_is);(case s=>rfl);(case i=>walk_at "na")))
local macro_rules | `(tactic| walk_at "dc")=>`(tactic| ((refine' L2.dcx_mk ?a ?l ?c ?k ?n ?d ?e ?f);(case a|l|c|k|n|d|e|f=>k_is)))
local macro_rules | `(tactic| walk_at "ex")=>`(tactic| ((refine' L2.Exc.mk ?x ?a ?b ?c ?d ?e ?f ?g ?h);(case x=>k_exc);(case a|b|c|d|e|f|g|h=>k_is)))
local macro_rules | `(tactic| walk_at "cl")=>`(tactic| ((refine' L2.Cls.mk ?a ?b ?c ?d);(case a|b|c|d=>k_is)))
local macro_rules | `(tactic| walk_at "mi")=>`(tactic| ((refine' And.intro ?a ?b);(case a|b=>k_is)))
set_option maxRecDepth 100000 in
set_option maxHeartbeats 0 in
theorem PySem.Challenge.cw_padwright_k53_first_wrong_word_holds : PySem.Challenge.rw_padwright_k53_first_wrong_word.Holds := by
 w_on;o_law;k_head;(case hw=>w_witness2)
 k_fill
 refine Pw.walk (l:=PySem.Challenge.rw_padwright_k53_first_wrong_word) rfl rfl (fun w h Y=>PySem.W.kIn_of Y) ?F
 case F =>
  intro w mg fa h KX G hmg
  refine' Pw.all_mk hmg (Pw.Zs.mk ⟨_,KX,G⟩ (PySem.W.mg_of KX G ?va) (PySem.W.mg_of KX G ?vb) (PySem.W.mg_of KX G ?vc) (PySem.W.mg_of KX G ?vd) (PySem.W.mg_of KX G ?ve) (PySem.W.mg_of KX G ?vf) (PySem.W.mg_of KX G ?vg) (PySem.W.mg_of KX G ?vh) (PySem.W.mg_of KX G ?vi) (PySem.W.mg_of KX G ?vj) (PySem.W.mg_of KX G ?vk) (PySem.W.mg_of KX G ?vl) (PySem.W.mg_of KX G ?vm) (PySem.W.mg_none_of KX G ?vn) (PySem.W.mg_none_of KX G ?vo) (PySem.W.mg_none_of KX G ?vp) (PySem.W.mg_none_of KX G ?vq) (PySem.W.mg_none_of KX G ?vr) (PySem.W.mg_none_of KX G ?vs) (PySem.W.mg_none_of KX G ?vt) (PySem.W.mg_none_of KX G ?vu) (PySem.W.mg_none_of KX G ?vv) (PySem.W.mg_none_of KX G ?vw) (PySem.W.mg_none_of KX G ?vx) (PySem.W.mg_none_of KX G ?vy) (PySem.W.mg_none_of KX G ?vz) (PySem.W.mg_of KX G ?vA) (PySem.W.mg_of KX G ?vB) (PySem.W.mg_of KX G ?vC) (PySem.W.mg_of KX G ?vD) (PySem.W.mg_of KX G ?vE) (PySem.W.mg_of KX G ?vF) ?vG ?f0 ?f1 ?f2 ?f3 ?f4 ?f5 ?f6 ?f7 ?f8 ?f9 ?vH ?vI ?vJ ?vK ?vL ?vM ?vN ?vO ?vP ?vQ ?vR ?vS ?vT ?vU ?vV ?vW ?vX ?vY ?vZ ?v0 ?v1 ?v2 ?v3 ?v4 ?v5 ?v6 ?v7 ?v8 ?v9 ?wa ?wb ?wc ?wd ?we ?wf ?wg ?wh ?wi ?wj ?wk ?wl ?wm ?wn ?wo ?wp ?wq ?wr ?ws ?wt ?wu ?wv ?ww ?wx ?wy ?wz ?wA ?wB ?wC ?wD ?wE ?vc ?wF ?wG ?wH ?wI ?wJ ?wK ?wL ?wM ?wN ?wO ?wP ?wQ ?wR ?hW ?ss ?hS ?pi ?wS ?wT ?wU ?wV ?k5 ?kv ?kf)
  (case va|vb|vc|vd|ve|vf|vg|vh|vi|vj|vk|vl|vm=>first | k_is | (show _=_;k_is))
  (case vn|vo|vp|vq|vr|vs|vt|vu|vv|vw|vx|vy|vz|vA|vB|vC|vD|vE|vF=>first | k_is | (show _=_;k_is))
  (case vG=>(refine' L2.sty_mk ?d ?hp0 ?ha0 ?hb0 ?hp1 ?ha1 ?hb1 ?hp2 ?ha2 ?hb2 ?hp3 ?ha3 ?hb3 ?hp4 ?ha4 ?hb4);(case d=>k_is);(case hp0=>k_is);(case ha0=>k_is);(case hb0=>k_is);(case hp1=>k_is);(case ha1=>k_is);(case hb1=>k_is);(case hp2=>k_is);(case ha2=>k_is);(case hb2=>k_is);(case hp3=>k_is);(case ha3=>k_is);(case hb3=>k_is);(case hp4=>k_is);(case ha4=>k_is);(case hb4=>k_is))
  (case f0|f1|f2|f3|f4|vH|vI|vJ|vK|vL|v1|v2|v3|v4|v5|v6|v7=>walk_at "dm")
  (case f5|f6|f7|f8|f9|vM|vN|vO|vP|vQ|vR|vS|vT|vU|vV|vW|v8|v9|wa|wb|wc|wd|we|wf|wg|wh|wi|wj|wk|wl|wm|wn|wo|wp|wq|wr|ws|wt|wu|wv|ww|wx|wy|wz|wA|wB|wC|wD=>walk_at "df")
  (case vX=>walk_at "dc")
  (case vY|vZ|v0=>walk_at "dd")
  (case wE=>walk_at "ex")
  (case wF|wI|wL|wO=>walk_at "cl")
  (case wG|wJ|wM|wP=>walk_at "na")
  (case wH|wK|wN|wQ=>walk_at "mi")
  (case wR=>(refine' L2.kds_sty ?lo ?hd;(case lo=>rfl);(case hd=>k_is)))
  (case hW=>(refine' Pw.sqm_ways ?h;(case h=>k_is)))
  (case ss=>(refine' Pw.sgsets_mk ?lo ?h;(case lo=>rfl);(case h=>k_is)))
  (case hS=>(refine' Pw.sqm_sides ?h;(case h=>k_is)))
  (case pi=>(refine' L2.PIni.mk ?a ?b ?c);(case a|b|c=>k_is))
  (case wS=>(refine' L2.xin_mk ?a ?e ?n ?k);(case a|n|k=>k_is);(case e=>kernel_rfl))
  (case wT=>(refine' L2.exf_mk (L2.xin_mk ?a ?e ?n ?k) (L2.ExcB.mk ?b1 ?b2 ?b3 ?b4 ?b5 ?b6 ?b7 ?b8) ?s ?z);(case a|n|k|b1|b2|b3|b4|b5|b6|b7|b8|s|z=>k_is);(case e=>kernel_rfl))
  (case wU|wV=>kts_exm)
  (case k5|kv|kf=>kit_is)

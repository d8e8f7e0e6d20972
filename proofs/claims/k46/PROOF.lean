import PyProof.Rows.All
import KE.KDictList
import KE.KFromBytes
import KE.KItem
import KE.KNestM
import KE.KTryMore
import KE.RegKIsAll
import KE.RegKTryMore
import Wide.FinOn
import PyProof.Rows.ZipGen
import PyProof.Rows.FactsT2
import PyProof.Rows.StrJoin2
import PySem.Challenge.RW_padwright_k46_whole_all_values_for_a_tex
set_option Elab.async false
set_option linter.all false
set_option maxRecDepth 100000
set_option compiler.extract_closed false
local macro_rules | `(tactic|omega)=>`(tactic|first|decide|lia|omega (config:={}))
namespace L2
open PySem PySem.Spec PyProof.Rows
open List (length_cons mem_append_right mem_cons_of_mem)
open Nat (le_refl le_trans lt_irrefl lt_of_lt_of_le ne_of_lt zero_le)
abbrev Key:=Sum Int Str
def zEZ:Key->Value->Bool
 | .inl k,v=>Value.isInt k v
 | .inr x,v=>Value.isStrOf x v
def zHz (w:World):Key->Int
 | .inl k=>hashInt k
 | .inr x=>hashStr w x
theorem qH : ∀ {k:Key} {v:Value},zEZ k v=true->(∃ i t,k=Sum.inl i/\v=Value.int i t)\/(∃ x t,k=Sum.inr x/\v=Value.str x t)
 | .inl i,v,h=>by
  obtain ⟨t,e⟩:=Value.isInt_shape (k:=i) (v:=v) h
  exact .inl ⟨i,t,rfl,e⟩
 | .inr x,v,h=>by
  obtain ⟨t,e⟩:=Value.isStrOf_shape (x:=x) (v:=v) h
  exact .inr ⟨x,t,rfl,e⟩
theorem zF1 (a b:Int):decide ((Sum.inl a:Key)=Sum.inl b)=(a == b):=by
 by_cases e:a=b
 ·subst e;simp
 ·have h : ¬ (Sum.inl a:Key)=Sum.inl b:=fun q=>e (Sum.inl.inj q)
  rw [decide_eq_false h]
  exact (beq_eq_false_iff_ne.mpr e).symm
theorem zEl (a b:Str):decide ((Sum.inr a:Key)=Sum.inr b)=decide (a=b):=by
 by_cases e:a=b
 ·subst e;simp
 ·have h : ¬ (Sum.inr a:Key)=Sum.inr b:=fun q=>e (Sum.inr.inj q)
  rw [decide_eq_false h,decide_eq_false e]
theorem zFK (a:Int) (b:Str):decide ((Sum.inl a:Key)=Sum.inr b)=false:=decide_eq_false (fun q=>nomatch q)
theorem zEt (a:Str) (b:Int):decide ((Sum.inr a:Key)=Sum.inl b)=false:=decide_eq_false (fun q=>nomatch q)
def Kj (prog:Program) (w:World):PySem.KeyKind prog w Key where
 is:=zEZ
 hash:=zHz w
 inj:=fun v a b ha hb=>by
  rcases qH ha with ⟨i,t,rfl,rfl⟩ | ⟨x,t,rfl,rfl⟩
  ·rcases qH hb with ⟨j,u,rfl,e⟩ | ⟨y,u,rfl,e⟩
   ·injection e with e1 _;rw [e1]
   ·exact nomatch e
  ·rcases qH hb with ⟨j,u,rfl,e⟩ | ⟨y,u,rfl,e⟩
   ·exact nomatch e
   ·injection e with e1 _;rw [e1]
 byValue:=fun k v h=>by
  rcases qH h with ⟨i,t,rfl,rfl⟩ | ⟨x,t,rfl,rfl⟩ <;> rfl
 pyHash:=fun hv h=>by
  rcases qH hv with ⟨i,t,rfl,rfl⟩ | ⟨x,t,rfl,rfl⟩
  ·exact wpAny_pyHash_int h
  ·exact wpAny_pyHash_str h
 eqBool:=fun hu hv h=>by
  rcases qH hu with ⟨i,t,rfl,rfl⟩ | ⟨x,t,rfl,rfl⟩
  ·rcases qH hv with ⟨j,u,rfl,rfl⟩ | ⟨y,u,rfl,rfl⟩
   ·rw [zF1] at h;exact wpAny_eqBool_int h
   ·rw [zFK] at h;exact SeqAt.EqAt.int_str i t y u _ _ _ _ h
  ·rcases qH hv with ⟨j,u,rfl,rfl⟩ | ⟨y,u,rfl,rfl⟩
   ·rw [zEt] at h;exact SeqAt.EqAt.str_int x t j u _ _ _ _ h
   ·rw [zEl] at h;exact wpAny_eqBool_str h
 «strs» := fun k x t v h=>by
  rcases qH h with ⟨i,u,rfl,e⟩ | ⟨y,u,rfl,e⟩
  ·exact nomatch e
  ·injection e with e1 _
   subst e1
   cases v <;> rfl
inductive V where
 | non | bl (b:Bool) | int (i:Int) | str (x:Str) | byt (b:Array UInt8) | flt (b:UInt64) | ref (a:Addr) | ty (n:String)
 deriving DecidableEq
def jO:V->Value->Prop
 | .non,u=>u=Value.none
 | .bl b,u=>u=Value.bool b
 | .int i,u=>∃ t,u=Value.int i t
 | .str x,u=>∃ t,u=Value.str x t
 | .byt b,u=>∃ t,u=Value.bytes b t
 | .flt b,u=>∃ t,u=Value.float b t
 | .ref a,u=>u=Value.ref a
 | .ty n,u=>u=Value.type n
abbrev z9:List V->List Value->Prop:=Paired jO
variable {xs:List V} {us:List Value}
theorem z9.length (r:z9 xs us):xs.length=us.length:=Paired.length r
theorem z9.get : ∀ {xs:List V} {us:List Value} {i:Nat} {x:V},z9 xs us->xs[i]? = some x -> ∃ u,us[i]? = some u/\jO x u
 | _,_,_,_,.nil,e=>by simp at e
 | _,_,0,_,.cons r _,e=>by simp at e;subst e;exact ⟨_,rfl,r⟩
 | _,_,i+1,x,.cons _ t,e=>by
  obtain ⟨u,h1,h2⟩:=z9.get (i:=i) (x:=x) t (by simpa using e)
  exact ⟨u,by simpa using h1,h2⟩
theorem z9.set {x:V} {u:Value} (r:jO x u) : ∀ {xs:List V} {us:List Value} (i:Nat),z9 xs us->z9 (xs.set i x) (us.set i u)
 | _,_,_,.nil=>.nil
 | _,_,0,.cons _ t=>.cons r t
 | _,_,i+1,.cons q t=>.cons q (z9.set r i t)
theorem z9.append : ∀ {xs ys:List V} {us ws:List Value},z9 xs us->z9 ys ws->z9 (xs++ys) (us++ws)
 | _,_,_,_,.nil,s=>s
 | _,_,_,_,.cons r t,s=>.cons r (z9.append t s)
theorem z9.take : ∀ {xs:List V} {us:List Value} (n:Nat),z9 xs us->z9 (xs.take n) (us.take n)
 | _,_,0,_=>.nil
 | _,_,_+1,.nil=>.nil
 | _,_,n+1,.cons r t=>.cons r (z9.take n t)
theorem z9.drop : ∀ {xs:List V} {us:List Value} (n:Nat),z9 xs us->z9 (xs.drop n) (us.drop n)
 | _,_,0,r=>r
 | _,_,_+1,.nil=>.nil
 | _,_,n+1,.cons _ t=>z9.drop n t
theorem z9.none_of : ∀ {xs:List V} {us:List Value} {i:Nat},z9 xs us->xs[i]? = none->us[i]? = none:=fun {xs us i} r e=>by
 have h1:=r.length
 have h2:xs.length<=i:=List.getElem?_eq_none_iff.mp e
 exact List.getElem?_eq_none_iff.mpr (by omega)
def W3:Option V->Option Value->Prop
 | some v,some u=>jO v u
 | none,none=>True
 | _,_=>False
def KV {κ:Type}:List (κ × V)->List (κ × Value)->Prop:=Paired fun (p:κ × V) (q:κ × Value)=>p.1=q.1/\jO p.2 q.2
def kV:Key->V
 | .inl i=>.int i
 | .inr x=>.str x
inductive HO where
 | lst (xs:List V)
 | tup (xs:List V)
 | dK (kvs:List (Key × V)) | dT (kvs:List (List Key × V))
 | set (S:Int->Bool) (n:Nat)
 | ins (C dx:Addr) (fs:List (Str × V))
 | own (x:Addr)
 | xd (fs:List (Str × V))
 | met (f x:Addr)
 | rng (lo hi:Int)
 | frz (o:Obj) (u:HO)
 | tbl (ps:Array Value)
 | ext (φ:Heap->Prop)
abbrev Hp:=Addr->Option HO
def upd (H:Hp) (a:Addr) (o:HO):Hp:=fun b=>if b=a then some o else H b
variable {H:Hp} {a:Addr} {o:HO}
theorem zQ:upd H a o a=some o:=by unfold upd;rw [if_pos rfl]
variable {b:Addr}
theorem qB (h:b≠a):upd H a o b=H b:=by unfold upd;rw [if_neg h]
variable {u:HO}
theorem qX:upd (upd H a o) a u=upd H a u:=by
 funext b;unfold upd;split <;> rfl
theorem z7 (h:H a=some o) (h':H b=none):a≠b:=by
 intro e;subst e;rw [h] at h';cases h'
section
variable (P : Program) (w : World)
def jr (H:Hp) (h:Heap) (a:Addr):HO->Prop
 | .lst xs=>xs.length<=sizeLine /\ ∃ (its:List Value) (n:Nat),z9 xs its/\h.get? a=some { cls:=.type "list", data:=.seq its.toArray n }
 | .tup xs=>xs.length<=sizeLine /\ ∃ its:List Value,z9 xs its/\IsTup h a its.toArray
 | .dK kvs=>kvs.length<=sizeLine/\(a == sysModules)=false /\ ∃ vs,KV kvs vs/\h.DictOf (Kj P w) a vs
 | .dT kvs=>kvs.length<=sizeLine/\(a == sysModules)=false /\ ∃ xs:List (List Key × Addr × Value),
   Paired (fun (p:List Key × V) (q:List Key × Addr × Value)=>p.1=q.1/\H q.2.1=some (.tup (p.1.map kV))/\jO p.2 q.2.2) kvs xs /\
   ∃ o es ep,h.get? a=some o/\o.ExactDict/\o.data = .dict es ep/\es.toList=xs.map (entryOfKey (tupleKind (Kj P w)))/\(xs.map (·.1)).Nodup
 | .set S n=>h.SetOf (intKind P w) a S n
 | .ins C dx fs=>H dx=some (.own a)/\fs.length<=1000/\dx≠a/\h.get? a=some (W.instObj C dx) /\
   ∃ mA,h.Ns1 dx mA/\(∀ f,W3 (fs.lookup f) (mA f))/\PySem.Within mA (fs.map (·.1))
 | .own _=>∃ o,h.get? a=some o
 | .xd fs=>∃ mA,h.Ns1 a mA /\ ∀ f,W3 (fs.lookup f) (mA f)
 | .rng lo hi=>∃ t u v,h.get? a=some { cls:=.type "range", data:=.fields #[.int lo t,.int hi u,.int 1 v] }
 | .frz o u=>h.get? a=some o/\jr H h a u
 | .tbl ps=>h.get? a=some { cls:=.none,data:=.fields ps }
 | .met f x=>h.get? a=some (W.methodObj (.ref f) (.ref x))
 | .ext φ=>φ h/\(∃ o,h.get? a=some o) /\ ∀ h1 h2:Heap,φ h1->(∀ o,h1.get? a=some o->h2.get? a=some o)->φ h2
def HOk (H:Hp) (h:Heap):Prop:=∀ a o,H a=some o->jr P w H h a o
end
section
variable {P : Program} {w : World} {H H' : Hp} {h h' : Heap} {a : Addr} {o : HO}
theorem jr.lt (x:jr P w H h a o):a < h.objs.size:=by
 cases o with
 | lst xs=>obtain ⟨_,_,_,_,e⟩:=x;exact Heap.lt_size e
 | tup xs=>obtain ⟨_,_,_,p⟩:=x;exact p.lt
 | dK kvs=>obtain ⟨_,_,_,_,o,_,_,e,_⟩:=x;exact Heap.lt_size e
 | dT kvs=>obtain ⟨_,_,_,_,o,_,_,e,_⟩:=x;exact Heap.lt_size e
 | set S n=>obtain ⟨o,_,_,_,e,_⟩:=x;exact Heap.lt_size e
 | ins C dx fs=>obtain ⟨_,_,_,e,_⟩:=x;exact Heap.lt_size e
 | own y=>obtain ⟨_,e⟩:=x;exact Heap.lt_size e
 | xd fs=>obtain ⟨_,⟨_,_,_,e,_⟩,_⟩:=x;exact Heap.lt_size e
 | rng lo hi=>obtain ⟨_,_,_,e⟩:=x;exact Heap.lt_size e
 | frz ob u=>obtain ⟨e,_⟩:=x;exact Heap.lt_size e
 | tbl ps=>exact Heap.lt_size (show h.get? a=some _ from x)
 | met f y=>exact Heap.lt_size (show h.get? a=some _ from x)
 | ext φ=>obtain ⟨_,⟨_,e⟩,_⟩:=x;exact Heap.lt_size e
theorem Paired.mapP {α β:Type} {F G:α->β->Prop} : ∀ {l₁:List α} {l₂:List β},Paired F l₁ l₂->(∀ a b,F a b->G a b)->Paired G l₁ l₂
 | _,_,.nil,_=>.nil
 | _,_,.cons r t,f=>.cons (f _ _ r) (Paired.mapP t f)
theorem jr.stay (x:jr P w H h a o) (k : ∀ b u,(b=a\/H b=some (.own a))->h.get? b=some u->h'.get? b=some u)
  (ho : ∀ b,H b=some (.own a)->H' b=some (.own a)) (ht : ∀ b xs,H b=some (.tup xs)->H' b=some (.tup xs)):jr P w H' h' a o:=by
 induction o with
 | lst xs=>obtain ⟨z,its,n,r,e⟩:=x;exact ⟨z,its,n,r,k _ _ (.inl rfl) e⟩
 | tup xs=>obtain ⟨z,its,r,ob,e,c⟩:=x;exact ⟨z,its,r,ob,k _ _ (.inl rfl) e,c⟩
 | dK kvs=>obtain ⟨z,y,vs,r,ob,es,ep,e,c⟩:=x;exact ⟨z,y,vs,r,ob,es,ep,k _ _ (.inl rfl) e,c⟩
 | dT kvs =>
  obtain ⟨z,y,xs,r,ob,es,ep,e,c⟩:=x
  exact ⟨z,y,xs,Paired.mapP r fun p q z=>⟨z.1,ht _ _ z.2.1,z.2.2⟩,ob,es,ep,k _ _ (.inl rfl) e,c⟩
 | set S n=>obtain ⟨ob,es,ep,t,e,c⟩:=x;exact ⟨ob,es,ep,t,k _ _ (.inl rfl) e,c⟩
 | ins C dx fs =>
  obtain ⟨d,z,ne,e,mA,⟨od,es,ep,e2,c⟩,r⟩:=x
  exact ⟨ho _ d,z,ne,k _ _ (.inl rfl) e,mA,⟨od,es,ep,k _ _ (.inr d) e2,c⟩,r⟩
 | own y=>obtain ⟨ob,e⟩:=x;exact ⟨ob,k _ _ (.inl rfl) e⟩
 | xd fs=>obtain ⟨mA,⟨od,es,ep,e,c⟩,r⟩:=x;exact ⟨mA,⟨od,es,ep,k _ _ (.inl rfl) e,c⟩,r⟩
 | rng lo hi=>obtain ⟨t,u,v,e⟩:=x;exact ⟨t,u,v,k _ _ (.inl rfl) e⟩
 | frz ob u ih=>obtain ⟨e,q⟩:=x;exact ⟨k _ _ (.inl rfl) e,ih q⟩
 | tbl ps =>
  have e:h.get? a=some { cls:=.none,data:=.fields ps }:=x
  show h'.get? a=some { cls:=.none,data:=.fields ps }
  exact k a _ (.inl rfl) e
 | met f y =>
  have e:h.get? a=some (W.methodObj (.ref f) (.ref y)):=x
  show h'.get? a=some (W.methodObj (.ref f) (.ref y))
  exact k a _ (.inl rfl) e
 | ext φ=>obtain ⟨p,⟨o,e⟩,st⟩:=x;exact ⟨st _ _ p fun o q=>k _ _ (.inl rfl) q,⟨o,k _ _ (.inl rfl) e⟩,st⟩
theorem HOk.lt (x:HOk P w H h) (e:H a=some o):a < h.objs.size:=(x a o e).lt
theorem HOk.fresh (x:HOk P w H h) (e:h.objs.size<=a):H a=none:=by
 cases q:H a with
 | none=>rfl
 | some u=>exact absurd (lt_of_lt_of_le (x.lt q) e) (lt_irrefl _)
theorem HOk.kept (x:HOk P w H h) (k : ∀ b u,h.get? b=some u->h'.get? b=some u):HOk P w H h':=fun a o e =>
 (x a o e).stay (fun b u _ q=>k b u q) (fun _ q=>q) fun _ _ q=>q
theorem HOk.laid (x:HOk P w H h) (k : ∀ b u,h.get? b=some u->h'.get? b=some u) (hp:h.objs.size<=a) (new:jr P w (upd H a o) h' a o):HOk P w (upd H a o) h':=fun b u e=>by
 have hn:=x.fresh hp
 by_cases hb:b=a
 ·subst hb;rw [zQ] at e;cases e;exact new
 ·rw [qB hb] at e
  exact (x b u e).stay (fun c v _ q=>k c v q) (fun c q=>by rw [qB (z7 q hn)];exact q) fun c xs q=>by rw [qB (z7 q hn)];exact q
end
def Rd (H:Hp) (a:Addr) (u:HO):Prop:=H a=some u \/ ∃ o,H a=some (.frz o u)
theorem Rd.of (h:H a=some u):Rd H a u:=.inl h
variable {P:Program} {w:World} {h:Heap}
theorem Rd.ok (r:Rd H a u) (x:HOk P w H h):jr P w H h a u:=by
 rcases r with r | ⟨o,r⟩
 ·exact x a u r
 ·obtain ⟨_,q⟩:=x a _ r
  exact q
def Mut:Option HO->Prop
 | some (.lst _)=>True
 | some (.dK _)=>True
 | some (.dT _)=>True
 | some (.set _ _)=>True
 | some (.ins _ _ _)=>True
 | some (.ext _)=>True
 | _=>False
section
variable {P : Program} {w : World} {H : Hp} {h h' : Heap} {x e : Addr} {o' : HO}
theorem HOk.write (ok:HOk P w H h) (mu:Mut (H x)) (he:e=x\/H e=some (.own x)) (k : ∀ b u,b≠e->h.get? b=some u->h'.get? b=some u) (heo : ∃ u,h'.get? e=some u)
  (new:jr P w (upd H x o') h' x o'):HOk P w (upd H x o') h':=fun b u q=>by
 have nown : ∀ c y,H c=some (.own y)->c≠x:=fun c y r z=>by subst z;rw [r] at mu;exact mu
 have ntup : ∀ c xs,H c=some (.tup xs)->c≠x:=fun c xs r z=>by subst z;rw [r] at mu;exact mu
 by_cases hb:b=x
 ·subst hb;rw [zQ] at q;cases q;exact new
 ·rw [qB hb] at q
  by_cases hbe:b=e
  ·have q':H b=some (.own x):=by
    rcases he with z | z
    ·exact absurd (hbe.trans z) hb
    ·rw [hbe];exact z
   rw [q] at q';cases q'
   obtain ⟨v,hv⟩:=heo
   exact ⟨v,by rw [hbe];exact hv⟩
  ·refine (ok b u q).stay (fun c v hc r=>k c v ?_ r) (fun c r=>by rw [qB (nown c b r)];exact r) fun c xs r=>by rw [qB (ntup c xs r)];exact r
   rcases hc with rfl | hc
   ·exact hbe
   ·rintro rfl
    rcases he with z | z
    ·exact nown c b hc z
    ·rw [hc] at z;cases z;exact hb rfl
end
structure Un (fs ex:List Addr) (H H':Hp) (h h':Heap):Prop where
 keep : ∀ b o,h.get? b=some o->H b=none->b ∉ fs->b ∉ ex->h'.get? b=some o
 slot : ∀ b o,h.get? b=some o->H b=none->b ∈ fs->b ∉ ex -> ∃ sl,h'.get? b=some { o with slots:=sl }
 free : ∀ b o,h.get? b=some o->H b=none->b ∉ ex->H' b=none
 there : ∀ b o,h.get? b=some o->b ∉ ex -> ∃ o',h'.get? b=some o'
 tups : ∀ b xs,H b=some (.tup xs)->H' b=some (.tup xs)
 frzs : ∀ b o u,H b=some (.frz o u)->H' b=some (.frz o u)
 tbls : ∀ b ps,H b=some (.tbl ps) -> ∃ more,H' b=some (.tbl (ps++more))
section
variable {fs fs' ex ex' : List Addr} {H H1 H2 : Hp} {h h1 h2 h' : Heap} {a x e : Addr} {o : HO}
theorem Un.any (u:Un fs ex H H1 h h1) {ob:Obj} (q:h.get? b=some ob) (n:H b=none) (hx:b ∉ ex) : ∃ sl,h1.get? b=some { ob with slots:=sl }:=by
 by_cases hb:b ∈ fs
 ·exact u.slot b ob q n hb hx
 ·exact ⟨ob.slots,u.keep b ob q n hb hx⟩
theorem Un.trans (a:Un fs ex H H1 h h1) (b:Un fs ex H1 H2 h1 h2):Un fs ex H H2 h h2 where
 keep:=fun c ob q n hc hx=>b.keep c ob (a.keep c ob q n hc hx) (a.free c ob q n hx) hc hx
 slot:=fun c ob q n hc hx=>by
  obtain ⟨sl,e1⟩:=a.slot c ob q n hc hx
  obtain ⟨sl',e2⟩:=b.slot c _ e1 (a.free c ob q n hx) hc hx
  exact ⟨sl',e2⟩
 free:=fun c ob q n hx=>by
  obtain ⟨o',e1⟩:=a.there c ob q hx
  exact b.free c o' e1 (a.free c ob q n hx) hx
 there:=fun c ob q hx=>by
  obtain ⟨o',e1⟩:=a.there c ob q hx
  exact b.there c o' e1 hx
 tups:=fun c xs q=>b.tups c xs (a.tups c xs q)
 frzs:=fun c ob xs q=>b.frzs c ob xs (a.frzs c ob xs q)
 tbls:=fun c ps q=>by
  obtain ⟨m1,e1⟩:=a.tbls c ps q
  obtain ⟨m2,e2⟩:=b.tbls c _ e1
  exact ⟨m1++m2,by rw [e2,Array.append_assoc]⟩
theorem Un.kept (k : ∀ b u,h.get? b=some u->h'.get? b=some u):Un fs ex H H h h':=
 ⟨fun b ob q _ _ _=>k b ob q,fun b ob q _ _ _=>⟨ob.slots,k b ob q⟩,fun _ _ _ n _=>n,fun b ob q _=>⟨ob,k b ob q⟩,fun _ _ q=>q,fun _ _ _ q=>q,fun _ ps q=>⟨#[],by rw [q];simp⟩⟩
theorem Un.refl:Un fs ex H H h h:=Un.kept fun _ _ q=>q
theorem Un.laid (k : ∀ b u,h.get? b=some u->h'.get? b=some u) (hp:h.objs.size<=a) (hn:H a=none):Un fs ex H (upd H a o) h h' where
 keep:=fun b u q _ _ _=>k b u q
 slot:=fun b u q _ _ _=>⟨u.slots,k b u q⟩
 free:=fun b u q n _=>by rw [qB (ne_of_lt (lt_of_lt_of_le (Heap.lt_size q) hp))];exact n
 there:=fun b u q _=>⟨u,k b u q⟩
 tups:=fun b xs q=>by rw [qB (z7 q hn)];exact q
 frzs:=fun b u xs q=>by rw [qB (z7 q hn)];exact q
 tbls:=fun b ps q=>⟨#[],by rw [qB (z7 q hn),q];simp⟩
theorem Un.write (mu:Mut (H x)) (he:e=x\/H e=some (.own x)) (k : ∀ b u,b≠e->h.get? b=some u->h'.get? b=some u) (heo : ∃ u,h'.get? e=some u):Un fs ex H (upd H x o) h h':=by
 have hx : ∀ b,H b=none->b≠x:=fun b n z=>by subst z;rw [n] at mu;exact mu
 have hb : ∀ b,H b=none->b≠e:=fun b n z=>by
  subst z
  rcases he with r | r
  ·exact hx b n r
  ·rw [n] at r;cases r
 have hm : ∀ b u,H b=some u -> ¬ Mut (some u)->b≠x:=fun b u q nm z=>by subst z;rw [q] at mu;exact nm mu
 refine ⟨fun b u q n _ _=>k b u (hb b n) q,fun b u q n _ _=>⟨u.slots,k b u (hb b n) q⟩,fun b u q n _=>by rw [qB (hx b n)];exact n,fun b u q _=>?_,
  fun b xs q=>by rw [qB (hm b _ q fun z=>z)];exact q,fun b u xs q=>by rw [qB (hm b _ q fun z=>z)];exact q,fun b ps q=>⟨#[],by rw [qB (hm b _ q fun z=>z),q];simp⟩⟩
 by_cases hbe:b=e
 ·subst hbe;exact heo
 ·exact ⟨u,k b u hbe q⟩
theorem Un.mono (u:Un fs ex H H1 h h1) (hs : ∀ b ∈ fs,b ∈ fs') (hx : ∀ b ∈ ex,b ∈ ex'):Un fs' ex' H H1 h h1:=
 ⟨fun b ob q n hb he=>u.keep b ob q n (fun z=>hb (hs b z)) fun z=>he (hx b z),fun _ _ q n _ he=>u.any q n fun z=>he (hx _ z),fun b ob q n he=>u.free b ob q n fun z=>he (hx b z),fun b ob q he=>u.there b ob q fun z=>he (hx b z),u.tups,u.frzs,u.tbls⟩
end
def trk (h:Heap) (H:Hp):List Addr:=(List.range h.objs.size).filter fun a=>(H a).isSome
def zAR (h:Heap) (H:Hp):Heap:=W.hideAll h (trk h H)
theorem WU (h:Heap) (H:Hp):(zAR h H).objs.size=h.objs.size:=W.hideAll_size _ _
theorem zAW {o:Obj} (e:h.get? b=some o) (n:H b=none):(zAR h H).get? b=some o:=
 W.hideAll_get _ e fun hm=>by
  have q:(H b).isSome=true:=(List.mem_filter.mp hm).2
  rw [n] at q;simp at q
theorem zDd {o:Obj} (e:(zAR h H).get? b=some o):h.get? b=some o/\H b=none:=by
 have e':h.get? b=some o:=W.of_hideAll (trk h H) e
 refine ⟨e',?_⟩
 cases q:H b with
 | none=>rfl
 | some x =>
  have hm:b ∈ trk h H:=List.mem_filter.mpr ⟨List.mem_range.mpr (Heap.lt_size e'),by simp [q]⟩
  have z:(zAR h H).get? b=none:=W.hideAll_none (trk h H) hm
  rw [z] at e;cases e
def zDY (g h:Heap) (L:Addr):List (Addr × Obj):=(List.range h.objs.size).filterMap fun a=>if a=L\/(g.get? a).isSome=true then none else (h.get? a).map fun o=>(a,o)
def Qf (g h:Heap) (L d:Addr):List (Addr × Obj):=(zDY g h L).filter fun p=>decide (p.1≠d)
structure Mod (K:W.Frag) (mg:Str->Option Value) (base:Heap):Prop where
 kin:K.In base
 glob:base.Ns mainGlobals mg
 blt : ∃ mb,base.Ns builtinsNs mb /\ ∀ x:Str,x ≠ "__name__" -> mb x=bootBuiltins x
 nolimit:base.NoLimit
structure Cx where
 prog:Program
 w:World
 K:W.Frag
 mg:Str->Option Value
 base:Heap
 A:Around
 N:List Str
 s₀:Shared
 H₀:Hp
 env:Env
 outer:List Env
 stack:List Env
 ex:List Addr
 fn:Str->Bool
 calm:Bool
 pn:List (Addr × Obj)
 xe:Value->Shared->Prop
def frs (l:List Env):List Addr:=l.filterMap (·.frame)
abbrev Cx.fs (X:Cx):List Addr:=frs X.outer
def Vis (sc:Scope) (x:Str):Prop:=sc.names.lookup x=some .local\/sc.names.lookup x=some .cell\/sc.names.lookup x=some .free
def Loc (sc:Scope) (x:Str):Prop:=sc.names.lookup x=some .local\/sc.names.lookup x=some .cell
def zHx (env:Env) (h:Heap) (m:Str->Option Value) (x:Str) (u:Value):Prop:=
 (env.kindOf x=some .local/\m x=some u)\/((env.kindOf x=some .cell\/env.kindOf x=some .free) /\ ∃ c,env.cells.lookup x=some c/\h.IsCell c (some u))
structure Cx.Ok (X:Cx):Prop where
 mod:Mod X.K X.mg X.base
 kind:X.env.scope.kind = .function
 glob:X.env.globals=mainGlobals
 blt:X.env.builtins=builtinsNs
 above:X.s₀.heap.objs.size<=X.env.locals
 inj : ∀ x y c,X.env.cells.lookup x=some c->X.env.cells.lookup y=some c->x=y
 has : ∀ x,(X.env.kindOf x=some .cell\/X.env.kindOf x=some .free) -> ∃ c,X.env.cells.lookup x=some c
 cab : ∀ x c,X.fn x=true->X.env.cells.lookup x=some c->X.s₀.heap.objs.size<=c
 hd:X.calm=true->X.A.handled=none
 frames:X.A.frames=some X.stack
 stk:X.stack=X.outer\/(X.stack=X.env::X.outer/\X.env.frame=some X.env.locals)
 exf : ∀ b ∈ X.ex,b≠X.env.locals /\ ∀ x c,X.env.cells.lookup x=some c->c≠b
 bs : ∀ b o,X.base.get? b=some o->X.s₀.heap.get? b=some o/\X.H₀ b=none
 bsz:X.base.objs.size<=X.s₀.heap.objs.size
 noex : ∀ b o,X.base.get? b=some o->b ∉ X.ex
 exfs : ∀ b ∈ X.ex,b ∉ X.fs
 funs:X.s₀.heap.FunFrames X.base X.outer
 frf : ∀ b ∈ X.fs,X.H₀ b=none
structure Inv (X:Cx) (pins:List (Addr × Obj)) (σ:List (Option V)) (H:Hp) (s:Shared):Prop where
 ok:X.Ok
 os:s.os=X.s₀.os
 bare:AllBare s.gens
 base:Un X.fs X.ex X.H₀ H X.s₀.heap s.heap
 loc : ∃ m,s.heap.Ns X.env.locals m /\ ∀ (i:Nat) (x:Str) (v:V),X.N[i]? = some x->σ[i]? = some (some v)->Vis X.env.scope x -> ∃ u,jO v u/\zHx X.env s.heap m x u
 cell : ∀ x c,X.env.cells.lookup x=some c -> ∃ v,s.heap.IsCell c v
 free:H X.env.locals=none
 freeC : ∀ x c,X.env.cells.lookup x=some c->H c=none
 pin : ∀ p ∈ X.pn++pins,s.heap.get? p.1=some p.2/\H p.1=none/\p.1≠X.env.locals/\p.1 ∉ X.fs /\ ∀ v,p.2.data ≠ .cell v
 hok:HOk X.prog X.w H s.heap
 len:σ.length=X.N.length
section
variable {X : Cx} {pins : List (Addr × Obj)} {σ : List (Option V)} {H H' : Hp} {s : Shared} {h' : Heap}
theorem Cx.Ok.nofr (ok:X.Ok) {o:Obj} (e:X.base.get? b=some o):b ∉ X.fs:=fun hb=>by
 have:=(ok.funs.mem hb).1
 rw [e] at this;cases this
theorem Inv.bs (I:Inv X pins σ H s) : ∀ b o,X.base.get? b=some o->s.heap.get? b=some o/\H b=none:=fun b o e =>
 ⟨I.base.keep b o (I.ok.bs b o e).1 (I.ok.bs b o e).2 (I.ok.nofr e) (I.ok.noex b o e),I.base.free b o (I.ok.bs b o e).1 (I.ok.bs b o e).2 (I.ok.noex b o e)⟩
theorem Inv.bk (I:Inv X pins σ H s) : ∀ b o,X.base.get? b=some o->s.heap.get? b=some o:=fun b o e=>(I.bs b o e).1
theorem Inv.mod (I:Inv X pins σ H s):Mod X.K X.mg X.base:=I.ok.mod
theorem Inv.kIn (I:Inv X pins σ H s):X.K.In s.heap:=I.ok.mod.kin.keeps I.bk
theorem Inv.nolimit (I:Inv X pins σ H s):s.heap.NoLimit:=I.ok.mod.nolimit.keeps I.bk
theorem Inv.fr (I:Inv X pins σ H s) : ∃ m,Fr X.base X.env.locals s.heap m:=
 let ⟨m,hn,_⟩:=I.loc
 ⟨m,hn,I.bk,le_trans I.ok.bsz I.ok.above⟩
theorem Inv.lt (I:Inv X pins σ H s):X.env.locals < s.heap.objs.size:=let ⟨_,hn,_⟩:=I.loc;hn.lt
theorem Inv.sz (I:Inv X pins σ H s):X.s₀.heap.objs.size<=s.heap.objs.size:=le_trans I.ok.above (Nat.le_of_lt I.lt)
theorem Inv.nofs (I:Inv X pins σ H s) (h:s.heap.objs.size<=a):a ∉ X.fs:=fun hb=>by
 obtain ⟨_,o,ho,_⟩:=I.ok.funs.mem hb
 exact absurd (lt_of_lt_of_le (Heap.lt_size ho) (le_trans I.sz h)) (lt_irrefl _)
theorem Inv.cne (I:Inv X pins σ H s) : ∀ x c,X.env.cells.lookup x=some c->c≠X.env.locals:=fun x c e z=>by
 obtain ⟨v,o,ho,hd⟩:=I.cell x c e
 obtain ⟨m,⟨o',es,ep,ho',hd',_⟩,_⟩:=I.loc
 rw [z,ho'] at ho;cases ho;rw [hd'] at hd;cases hd
theorem Inv.funs (I:Inv X pins σ H s):s.heap.FunFrames X.base X.outer:=by
 have all : ∀ (l:List Env),(∀ b ∈ frs l,b ∈ X.fs)->X.s₀.heap.FunFrames X.base l->s.heap.FunFrames X.base l:=by
  intro l
  induction l with
  | nil=>intro _ _;trivial
  | cons env r ih =>
   intro hs hl
   obtain ⟨hk,⟨L,o,hf,hn,ho,hd⟩,hr⟩:=hl
   have hL:L ∈ X.fs:=hs L (by unfold frs;rw [List.filterMap_cons,hf];exact List.mem_cons_self)
   obtain ⟨sl,e⟩:=I.base.slot L o ho (I.ok.frf L hL) hL fun z=>I.ok.exfs L z hL
   exact ⟨hk,⟨L,_,hf,hn,e,hd⟩,ih (fun b hb=>hs b (by unfold frs;rw [List.filterMap_cons,hf];exact mem_cons_of_mem _ hb)) hr⟩
 exact all X.outer (fun _ hb=>hb) I.ok.funs
theorem Inv.stack (I:Inv X pins σ H s):s.heap.FunFrames X.base X.stack:=by
 rcases I.ok.stk with e | ⟨e,hf⟩
 ·rw [e];exact I.funs
 ·rw [e]
  obtain ⟨m,hn,_⟩:=I.loc
  refine .cons (by rw [I.ok.kind];decide) hf hn ?_ I.funs
  exact Heap.get?_none_of_le (le_trans I.ok.bsz I.ok.above)
theorem Inv.stkSub (I:Inv X pins σ H s) : ∀ b ∈ frs X.stack,b ∈ X.env.locals::X.fs:=fun b hb=>by
 rcases I.ok.stk with e | ⟨e,hf⟩
 ·rw [e] at hb;exact mem_cons_of_mem _ hb
 ·rw [e] at hb
  unfold frs at hb
  rw [List.filterMap_cons,hf] at hb
  exact hb
theorem Inv.stkFree (I:Inv X pins σ H s) : ∀ b ∈ frs X.stack,H b=none:=fun b hb=>by
 rcases List.mem_cons.mp (I.stkSub b hb) with e | hb
 ·rw [e];exact I.free
 ·obtain ⟨_,o,ho,_⟩:=I.ok.funs.mem hb
  exact I.base.free b o ho (I.ok.frf b hb) fun z=>I.ok.exfs b z hb
variable {t':Nat} {ch:List Addr}
theorem Inv.step {g':Array GenState} {d':Drawn} (I:Inv X pins σ H s)
  (hch : ∀ b ∈ ch,(b ∈ X.ex\/X.s₀.heap.objs.size<=b)/\b≠X.env.locals/\(∀ x c,X.env.cells.lookup x=some c->c≠b) /\ ∀ p ∈ X.pn++pins,p.1≠b)
  (keep : ∀ b o,b≠X.env.locals->b ∉ X.fs->b ∉ ch->s.heap.get? b=some o->H b=none->h'.get? b=some o)
  (slot : ∀ b o,b≠X.env.locals->b ∈ X.fs->b ∉ ch->s.heap.get? b=some o->H b=none -> ∃ sl,h'.get? b=some { o with slots:=sl }) (free : ∀ b o,b ∉ ch->s.heap.get? b=some o->H b=none->H' b=none)
  (there : ∀ b o,b ∉ ch->s.heap.get? b=some o -> ∃ o',h'.get? b=some o')
  (tups : ∀ b xs,H b=some (.tup xs)->H' b=some (.tup xs)) (frzs : ∀ b o u,H b=some (.frz o u)->H' b=some (.frz o u)) (tbls : ∀ b ps,H b=some (.tbl ps) -> ∃ more,H' b=some (.tbl (ps++more)))
  (ns : ∀ m,s.heap.Ns X.env.locals m->h'.Ns X.env.locals m) (hok:HOk X.prog X.w H' h') (hg:AllBare g') :
  Inv X pins σ H' { s with heap:=h',gens:=g',drawn:=d',toks:=t' }:=by
 have neL : ∀ b o,X.s₀.heap.get? b=some o->b≠X.env.locals:=fun b o e=>ne_of_lt (lt_of_lt_of_le (Heap.lt_size e) I.ok.above)
 have neC : ∀ b o,X.s₀.heap.get? b=some o->b ∉ X.ex->b ∉ ch:=fun b o e hx hb=>by
  rcases (hch b hb).1 with z | z
  ·exact hx z
  ·exact absurd (lt_of_lt_of_le (Heap.lt_size e) z) (lt_irrefl _)
 have cellK : ∀ x c,X.env.cells.lookup x=some c -> ∀ v,s.heap.IsCell c v->h'.IsCell c v:=fun x c e v ⟨o,ho,hd⟩=>by
  have nch:c ∉ ch:=fun z=>(hch c z).2.2.1 x c e rfl
  by_cases hc:c ∈ X.fs
  ·obtain ⟨sl,q⟩:=slot c o (I.cne x c e) hc nch ho (I.freeC x c e)
   exact ⟨_,q,hd⟩
  ·exact ⟨o,keep c o (I.cne x c e) hc nch ho (I.freeC x c e),hd⟩
 refine ⟨I.ok,I.os,hg,⟨fun b o e n hb hx=>?_,fun b o e n hb hx=>?_,fun b o e n hx=>?_,fun b o e hx=>?_,fun b xs e=>tups b xs (I.base.tups b xs e),fun b o xs e=>frzs b o xs (I.base.frzs b o xs e),fun b ps e=>?_⟩,?_,fun x c e=>?_,?_,fun x c e=>?_,fun p hp=>?_,hok,I.len⟩
 ·exact keep b o (neL b o e) hb (neC b o e hx) (I.base.keep b o e n hb hx) (I.base.free b o e n hx)
 ·obtain ⟨sl,e1⟩:=I.base.slot b o e n hb hx
  obtain ⟨sl',e2⟩:=slot b _ (neL b o e) hb (neC b o e hx) e1 (I.base.free b o e n hx)
  exact ⟨sl',e2⟩
 ·obtain ⟨o',e1⟩:=I.base.there b o e hx
  exact free b o' (neC b o e hx) e1 (I.base.free b o e n hx)
 ·obtain ⟨o',e1⟩:=I.base.there b o e hx
  exact there b o' (neC b o e hx) e1
 ·obtain ⟨m1,e1⟩:=I.base.tbls b ps e
  obtain ⟨m2,e2⟩:=tbls b _ e1
  exact ⟨m1++m2,by rw [e2,Array.append_assoc]⟩
 ·obtain ⟨m,hn,hl⟩:=I.loc
  refine ⟨m,ns m hn,fun i x v e1 e2 e3=>?_⟩
  obtain ⟨u,r,l⟩:=hl i x v e1 e2 e3
  refine ⟨u,r,?_⟩
  rcases l with l | ⟨k,c,e,z⟩
  ·exact .inl l
  ·exact .inr ⟨k,c,e,cellK x c e _ z⟩
 ·obtain ⟨v,z⟩:=I.cell x c e
  exact ⟨v,cellK x c e v z⟩
 ·obtain ⟨m,⟨o,_,_,ho,_⟩,_⟩:=I.loc
  exact free _ o (fun z=>(hch _ z).2.1 rfl) ho I.free
 ·obtain ⟨v,o,ho,hd⟩:=I.cell x c e
  exact free c o (fun z=>(hch c z).2.2.1 x c e rfl) ho (I.freeC x c e)
 ·obtain ⟨e,n,ne,nf,d⟩:=I.pin p hp
  have nch:p.1 ∉ ch:=fun z=>(hch p.1 z).2.2.2 p hp rfl
  exact ⟨keep p.1 p.2 ne nf nch e n,free p.1 p.2 nch e n,ne,nf,d⟩
theorem Inv.un (I:Inv X pins σ H s) (u:Un X.fs [] H H' s.heap h') (hok:HOk X.prog X.w H' h'):Inv X pins σ H' { s with heap:=h',toks:=t' }:=by
 obtain ⟨m,⟨o,es,ep,ho,r⟩,_⟩:=id I.loc
 obtain ⟨sl,hL⟩:=u.any ho I.free (by simp)
 exact I.step (g':=s.gens) (d':=s.drawn) (ch:=[]) (fun _ z=>nomatch z) (fun b o _ hb _ e n=>u.keep b o e n hb (by simp)) (fun b o _ hb _ e n=>u.slot b o e n hb (by simp)) (fun b o _ e n=>u.free b o e n (by simp)) (fun b o _ e=>u.there b o e (by simp)) u.tups u.frzs u.tbls (fun m' hm=>by
  obtain ⟨o',es',ep',ho',r'⟩:=hm
  rw [ho] at ho';cases ho'
  exact ⟨_,es',ep',hL,r'⟩) hok I.bare
theorem Inv.call {g':Array GenState} {d':Drawn} (I:Inv X pins σ H s) (u:Un (frs X.stack) ch H H' s.heap h') (hok:HOk X.prog X.w H' h') (hg:AllBare g')
  (hch : ∀ b ∈ ch,(b ∈ X.ex\/X.s₀.heap.objs.size<=b)/\b≠X.env.locals/\(∀ x c,X.env.cells.lookup x=some c->c≠b) /\ ∀ p ∈ X.pn++pins,p.1≠b) :
  Inv X pins σ H' { s with heap:=h',gens:=g',drawn:=d',toks:=t' }:=by
 obtain ⟨m,⟨o,es,ep,ho,r⟩,_⟩:=id I.loc
 obtain ⟨sl,hL⟩:=u.any ho I.free fun z=>(hch _ z).2.1 rfl
 exact I.step (ch:=ch) hch (fun b o hL hb hc e n=>u.keep b o e n (fun z=>(List.mem_cons.mp (I.stkSub b z)).elim hL hb) hc) (fun b o _ _ hc e n=>u.any e n hc) (fun b o hc e n=>u.free b o e n hc) (fun b o hc e=>u.there b o e hc) u.tups u.frzs u.tbls (fun m' hm=>by
  obtain ⟨o',es',ep',ho',r'⟩:=hm
  rw [ho] at ho';cases ho'
  exact ⟨_,es',ep',hL,r'⟩) hok hg
theorem Inv.turned {it:Addr} (I:Inv X pins σ H s) (k : ∀ b o,b≠it->s.heap.get? b=some o->h'.get? b=some o) (hn:H it=none) (hL:it≠X.env.locals)
  (h1:it ∈ X.ex\/X.s₀.heap.objs.size<=it) (h2 : ∀ x c,X.env.cells.lookup x=some c->c≠it) (h3 : ∀ p ∈ X.pn++pins,p.1≠it):Inv X pins σ H { s with heap:=h',toks:=t' }:=by
 have nit : ∀ b u,H b=some u->b≠it:=fun b u e z=>by rw [z,hn] at e;cases e
 refine I.step (g':=s.gens) (d':=s.drawn) (ch:=[it]) (fun b hb=>?_) (fun b o _ _ hc e _=>k b o (fun z=>hc (by simp [z])) e) (fun b o _ _ hc e _=>⟨o.slots,k b o (fun z=>hc (by simp [z])) e⟩) (fun _ _ _ _ n=>n)
  (fun b o hc e=>⟨o,k b o (fun z=>hc (by simp [z])) e⟩) (fun _ _ e=>e) (fun _ _ _ e=>e) (fun b ps e=>⟨#[],by rw [e];simp⟩) (fun m hm=>?_) (fun b u e=>?_) I.bare
 ·have e:b=it:=by simpa using hb
  subst e
  exact ⟨h1,hL,h2,h3⟩
 ·obtain ⟨o,es,ep,ho,r⟩:=hm
  exact ⟨o,es,ep,k _ o (Ne.symm hL) ho,r⟩
 ·refine (I.hok b u e).stay (fun c v hc q=>k c v ?_ q) (fun _ q=>q) fun _ _ q=>q
  rcases hc with z | z
  ·rw [z];exact nit b u e
  ·exact nit c _ z
theorem Inv.tok (I:Inv X pins σ H s) (t:Nat):Inv X pins σ H { s with toks:=t }:=I.un (h':=s.heap) (t':=t) Un.refl I.hok
theorem Inv.kept (I:Inv X pins σ H s) (k : ∀ b u,s.heap.get? b=some u->h'.get? b=some u):Inv X pins σ H { s with heap:=h',toks:=t' }:=I.un (Un.kept k) (I.hok.kept k)
theorem Inv.laid (I:Inv X pins σ H s) (k : ∀ b u,s.heap.get? b=some u->h'.get? b=some u) (hp:s.heap.objs.size<=a) (new:jr X.prog X.w (upd H a o) h' a o) :
  Inv X pins σ (upd H a o) { s with heap:=h',toks:=t' }:=I.un (Un.laid k hp (I.hok.fresh hp)) (I.hok.laid k hp new)
theorem Inv.write {x e:Addr} (I:Inv X pins σ H s) (mu:Mut (H x)) (he:e=x\/H e=some (.own x)) (k : ∀ b u,b≠e->s.heap.get? b=some u->h'.get? b=some u) (heo : ∃ u,h'.get? e=some u)
  (new:jr X.prog X.w (upd H x o) h' x o):Inv X pins σ (upd H x o) { s with heap:=h',toks:=t' }:=I.un (Un.write mu he k heo) (I.hok.write mu he k heo new)
theorem Inv.weak {σ':List (Option V)} (I:Inv X pins σ H s) (hl:σ'.length=σ.length) (w : ∀ (i:Nat) v,σ'[i]? = some (some v)->σ[i]? = some (some v)):Inv X pins σ' H s:=
 ⟨I.ok,I.os,I.bare,I.base,let ⟨m,hn,hl'⟩:=I.loc;⟨m,hn,fun i x v e1 e2 e3=>hl' i x v e1 (w i v e2) e3⟩,I.cell,I.free,I.freeC,I.pin,I.hok,hl.trans I.len⟩
theorem Inv.pins_of {pins':List (Addr × Obj)} (I:Inv X pins σ H s) (h : ∀ p ∈ pins',s.heap.get? p.1=some p.2/\H p.1=none/\p.1≠X.env.locals/\p.1 ∉ X.fs /\ ∀ v,p.2.data ≠ .cell v):Inv X pins' σ H s:=
 ⟨I.ok,I.os,I.bare,I.base,I.loc,I.cell,I.free,I.freeC,fun p hp=>(List.mem_append.mp hp).elim (fun z=>I.pin p (List.mem_append_left _ z)) (h p),I.hok,I.len⟩
variable {i:Nat} {x:Str}
theorem Yp {N:List Str} (hN:N.Nodup) {j:Nat} (a:N[i]? = some x) (b:N[j]? = some x):i=j:=by
 obtain ⟨h1,e1⟩:=List.getElem?_eq_some_iff.mp a
 obtain ⟨h2,e2⟩:=List.getElem?_eq_some_iff.mp b
 exact (List.getElem_inj hN).mp (e1.trans e2.symm)
theorem Jq {M:Model} {A:Around} {E:Value->Shared->Prop} {v:V} {u:Value} {Q:Unit->Shared->Prop} (I:Inv X pins σ H s) (hN:X.N.Nodup) (hi:X.N[i]? = some x) (hx:Loc X.env.scope x) (r:jO v u)
  (h : ∀ s',Inv X pins (σ.set i (some v)) H s'->(∃ a,Heap.SameBut a s.heap s'.heap/\(a=X.env.locals\/X.env.cells.lookup x=some a))->Q () s') (hf:X.fn x=true\/X.env.scope.names.lookup x=some .local:=by first | exact .inl rfl | exact .inr rfl | assumption):wpAny M A (storeName X.env x u) Q E s:=by
 obtain ⟨m,hn,hl⟩:=id I.loc
 have hcls:(X.env.scope.kind == .class || (X.env.scope.kind == .module && X.env.locals != X.env.globals))=false:=by rw [I.ok.kind];rfl
 have hiσ:i < σ.length:=by rw [I.len];exact (List.getElem?_eq_some_iff.mp hi).1
 have cne:=I.cne
 have tracked : ∀ {a:Addr} {h':Heap},(∃ o,s.heap.get? a=some o/\H a=none)->Heap.SameBut a s.heap h'->HOk X.prog X.w H h':=fun {a h'} ha hs b ob e=>by
  obtain ⟨_,_,hfree⟩:=ha
  refine (I.hok b ob e).stay (fun c w' hc q=>(hs.2 c ?_).trans q) (fun _ q=>q) fun _ _ q=>q
  rintro rfl
  rcases hc with rfl | hc
  ·rw [hfree] at e;cases e
  ·rw [hfree] at hc;cases hc
 rcases hx with hk | hk
 ·refine wpAny_storeName_local hk hn (fun h' hn' hs=>?_) hcls
  obtain ⟨oL,_,_,hoL,_⟩:=id hn
  refine h _ ⟨I.ok,I.os,I.bare,⟨fun b o e n hb hx=>?_,fun b o e n hb hx=>?_,I.base.free,fun b o e hx=>?_,I.base.tups,I.base.frzs,I.base.tbls⟩,⟨_,hn',fun j y v' e1 e2 e3=>?_⟩,fun y c e=>?_,I.free,I.freeC,fun p hp=>?_,tracked ⟨oL,hoL,I.free⟩ hs,by simpa using I.len⟩ ⟨_,hs,.inl rfl⟩
  ·exact (hs.2 b (ne_of_lt (lt_of_lt_of_le (Heap.lt_size e) I.ok.above))).trans (I.base.keep b o e n hb hx)
  ·obtain ⟨sl,e1⟩:=I.base.slot b o e n hb hx
   exact ⟨sl,(hs.2 b (ne_of_lt (lt_of_lt_of_le (Heap.lt_size e) I.ok.above))).trans e1⟩
  ·obtain ⟨o',e1⟩:=I.base.there b o e hx
   exact ⟨o',(hs.2 b (ne_of_lt (lt_of_lt_of_le (Heap.lt_size e) I.ok.above))).trans e1⟩
  ·by_cases hj:j=i
   ·subst hj
    rw [hi] at e1;cases e1
    rw [List.getElem?_set_self hiσ] at e2
    cases e2
    exact ⟨u,r,.inl ⟨hk,by simp⟩⟩
   ·rw [List.getElem?_set_ne (Ne.symm hj)] at e2
    obtain ⟨u',r',q⟩:=hl j y v' e1 e2 e3
    refine ⟨u',r',?_⟩
    rcases q with ⟨k,e⟩ | ⟨k,c,e,z⟩
    ·refine .inl ⟨k,?_⟩
     have:y≠x:=fun e=>hj (Yp hN e1 (e ▸ hi))
     simp [this,e]
    ·exact .inr ⟨k,c,e,z.sameBut hs (cne y c e)⟩
  ·obtain ⟨w',z⟩:=I.cell y c e
   exact ⟨w',z.sameBut hs (cne y c e)⟩
  ·obtain ⟨e,n,ne,nf,d⟩:=I.pin p hp
   exact ⟨(hs.2 p.1 ne).trans e,n,ne,nf,d⟩
 ·have hfn:X.fn x=true:=by
   rcases hf with z | z
   ·exact z
   ·rw [z] at hk;cases hk
  obtain ⟨c,hc⟩:=I.ok.has x (.inl hk)
  obtain ⟨w',z⟩:=I.cell x c hc
  refine wpAny_storeName_cell I.ok.kind hk hc z (fun h' hc' hs=>?_)
  obtain ⟨oc,hoc,hocd⟩:=id z
  refine h { s with heap:=h' } ⟨I.ok,I.os,I.bare,⟨fun b o e n hb hx=>?_,fun b o e n hb hx=>?_,I.base.free,fun b o e hx=>?_,I.base.tups,I.base.frzs,I.base.tbls⟩,⟨m,hn.sameBut hs (Ne.symm (cne x c hc)),fun j y v' e1 e2 e3=>?_⟩,fun y c' e=>?_,I.free,I.freeC,fun p hp=>?_,tracked ⟨oc,hoc,I.freeC x c hc⟩ hs,by simpa using I.len⟩ ⟨c,hs,.inr hc⟩
  ·exact (hs.2 b (ne_of_lt (lt_of_lt_of_le (Heap.lt_size e) (I.ok.cab x c hfn hc)))).trans (I.base.keep b o e n hb hx)
  ·obtain ⟨sl,e1⟩:=I.base.slot b o e n hb hx
   exact ⟨sl,(hs.2 b (ne_of_lt (lt_of_lt_of_le (Heap.lt_size e) (I.ok.cab x c hfn hc)))).trans e1⟩
  ·obtain ⟨o',e1⟩:=I.base.there b o e hx
   exact ⟨o',(hs.2 b (ne_of_lt (lt_of_lt_of_le (Heap.lt_size e) (I.ok.cab x c hfn hc)))).trans e1⟩
  ·by_cases hj:j=i
   ·subst hj
    rw [hi] at e1;cases e1
    rw [List.getElem?_set_self hiσ] at e2
    cases e2
    exact ⟨u,r,.inr ⟨.inl hk,c,hc,hc'⟩⟩
   ·rw [List.getElem?_set_ne (Ne.symm hj)] at e2
    obtain ⟨u',r',q⟩:=hl j y v' e1 e2 e3
    refine ⟨u',r',?_⟩
    rcases q with q | ⟨k,c',e,z'⟩
    ·exact .inl q
    ·refine .inr ⟨k,c',e,z'.sameBut hs ?_⟩
     rintro rfl
     exact hj (Yp hN e1 (I.ok.inj _ _ _ e hc ▸ hi))
  ·by_cases hcc:c'=c
   ·subst hcc;exact ⟨_,hc'⟩
   ·obtain ⟨w2,z2⟩:=I.cell y c' e
    exact ⟨w2,z2.sameBut hs hcc⟩
  ·obtain ⟨e,n,ne,nf,d⟩:=I.pin p hp
   refine ⟨(hs.2 p.1 ?_).trans e,n,ne,nf,d⟩
   intro q
   rw [q,hoc] at e
   have q':oc=p.2:=Option.some.inj e
   exact d w' (by rw [<- q'];exact hocd)
theorem xt {M:Model} {A:Around} {E:Value->Shared->Prop} {v:V} {u:Value} {Q:Unit->Shared->Prop} (I:Inv X pins σ H s) (hN:X.N.Nodup) (hi:X.N[i]? = some x) (hx:Loc X.env.scope x) (r:jO v u)
  (h : ∀ s',Inv X pins (σ.set i (some v)) H s'->Q () s') (hf:X.fn x=true\/X.env.scope.names.lookup x=some .local:=by first | exact .inl rfl | exact .inr rfl | assumption):wpAny M A (storeName X.env x u) Q E s:=
 Jq I hN hi hx r (fun s' I' _=>h s' I') hf
theorem Inv.call' {s':Shared} (I:Inv X pins σ H s) (ho:s'.os=s.os) (u:Un (frs X.stack) ch H H' s.heap s'.heap) (hok:HOk X.prog X.w H' s'.heap) (hg:AllBare s'.gens)
  (hch : ∀ b ∈ ch,(b ∈ X.ex\/X.s₀.heap.objs.size<=b)/\b≠X.env.locals/\(∀ x c,X.env.cells.lookup x=some c->c≠b) /\ ∀ p ∈ X.pn++pins,p.1≠b):Inv X pins σ H' s':=by
 obtain ⟨h',g',d',t',o'⟩:=s'
 have e:o'=s.os:=ho
 subst e
 exact I.call (g':=g') (t':=t') (d':=d') u hok hg hch
end
abbrev XK:=Value->Option Addr->Hp->Prop
abbrev St:=List (Option V)
abbrev VK:=V->Hp->Prop
abbrev TE:=St->Hp->VK->Prop
abbrev TT:=St->Hp->(Bool->Hp->Prop)->Prop
abbrev TA:=St->Hp->(List V->Hp->Prop)->Prop
structure kD where
 nx:St->Hp->Prop
 rt:VK
 bk:St->Hp->Prop:=fun _ _=>False
 ct:St->Hp->Prop:=fun _ _=>False
abbrev TS:=kD->St->Hp->Prop
def EP (X:Cx) (pins:List (Addr × Obj)) (σ:St) (Q:VK) (u:Value) (s':Shared):Prop:=∃ v H',Inv X pins σ H' s'/\jO v u/\Q v H'
def TP (X:Cx) (pins:List (Addr × Obj)) (σ:St) (Q:Bool->Hp->Prop) (b:Bool) (s':Shared):Prop:=∃ H',Inv X pins σ H' s'/\Q b H'
def AP (X:Cx) (pins:List (Addr × Obj)) (σ:St) (Q:List V->Hp->Prop) (us:List Value) (s':Shared):Prop:=∃ vs H',Inv X pins σ H' s'/\z9 vs us/\Q vs H'
def SP (X:Cx) (pins:List (Addr × Obj)) (D:kD) (f:Flow) (s':Shared):Prop:=
 match f with
 | .next=>∃ σ' H',Inv X pins σ' H' s'/\D.nx σ' H'
 | .brk=>∃ σ' H',Inv X pins σ' H' s'/\D.bk σ' H'
 | .cont=>∃ σ' H',Inv X pins σ' H' s'/\D.ct σ' H'
 | .ret u=>∃ v σ' H',Inv X pins σ' H' s'/\jO v u/\D.rt v H'
def PE (X:Cx) (e:Expr) (t:TE):Prop:=
 ∀ (pins:List (Addr × Obj)) (s:Shared) (σ:St) (H:Hp) (Q:VK),Inv X pins σ H s->t σ H Q->wpAny (model X.prog X.w) X.A (eval e X.env) (EP X pins σ Q) X.xe s
def PT (X:Cx) (e:Expr) (t:TT):Prop:=
 ∀ (pins:List (Addr × Obj)) (s:Shared) (σ:St) (H:Hp) (Q:Bool->Hp->Prop),Inv X pins σ H s->t σ H Q->wpAny (model X.prog X.w) X.A (isTrue e X.env (eval e X.env)) (TP X pins σ Q) X.xe s
def PW (X:Cx) (e:Expr) (t:TT):Prop:=
 ∀ (whole:Sem Value) (pins:List (Addr × Obj)) (s:Shared) (σ:St) (H:Hp) (Q:Bool->Hp->Prop),Inv X pins σ H s->t σ H Q->wpAny (model X.prog X.w) X.A (isTrue e X.env whole) (TP X pins σ Q) X.xe s
variable {X:Cx} {e:Expr}
theorem PW.pt {t:TT} (h:PW X e t):PT X e t:=h _
def PA (X:Cx) (es:List Expr) (t:TA):Prop:=
 ∀ (pos:Pos) (pins:List (Addr × Obj)) (s:Shared) (σ:St) (H:Hp) (Q:List V->Hp->Prop),Inv X pins σ H s->t σ H Q->wpAny (model X.prog X.w) X.A (spliced (backTo pos (starEach es X.env))) (AP X pins σ Q) X.xe s
def PS (X:Cx) (st:Stmt) (t:TS):Prop:=
 ∀ (pins:List (Addr × Obj)) (s:Shared) (σ:St) (H:Hp) (D:kD),Inv X pins σ H s->t D σ H->wpAny (model X.prog X.w) X.A (exec st X.env) (SP X pins D) X.xe s
def PSs (X:Cx) (st:List Stmt) (t:TS):Prop:=
 ∀ (pins:List (Addr × Obj)) (s:Shared) (σ:St) (H:Hp) (D:kD),Inv X pins σ H s->t D σ H->wpAny (model X.prog X.w) X.A (execs st X.env) (SP X pins D) X.xe s
variable {A:Around} {E:Value->Shared->Prop} {s:Shared}
theorem thn {α:Type} {t:Sem α} {Q Q':α->Shared->Prop} {M:Model} (h:wpAny M A t Q E s) (hQ : ∀ a s,Q a s->Q' a s):wpAny M A t Q' E s:=wpAny_mono h hQ fun _ _ x=>x
section
variable {X : Cx}
def zG6 (i:Nat):TE:=fun σ H Q=>∃ v,σ[i]? = some (some v)/\Q v H
def tC (v:V):TE:=fun _ H Q=>Q v H
variable {x:Str} {pos:Pos}
theorem zER {i:Nat} (hN:X.N[i]? = some x) (hv:Vis X.env.scope x) (hd:(x == ("__debug__" : Str))=false:=by decide) (hcd:(x == ("__classdict__" : Str))=false:=by decide):PE X (.Name x pos) (zG6 i):=by
 intro pins s σ H Q I h
 obtain ⟨v,e,h⟩:=h
 obtain ⟨m,hn,hl⟩:=I.loc
 obtain ⟨u,r,l⟩:=hl i x v hN e hv
 have fin:EP X pins σ Q u s:=⟨v,H,I,r,h⟩
 rcases l with ⟨hk,hm⟩ | ⟨hk,c,hc,hcell⟩
 ·exact wpAny_Name (wpAny_loadName_local I.ok.kind hk hn hm fin) hd
 ·rcases hk with hk | hk
  ·exact wpAny_Name (wpAny_loadName_cell I.ok.kind hk hc hcell fin) hd
  ·exact wpAny_Name (wpAny_loadName_free I.ok.kind hk hc hcell fin hcd) hd
theorem zB {i j pos}:PE X (.Constant (.int i) j pos) (tC (.int i)):=fun _ _ _ H _ I h=>wpAny_Constant_int ⟨.int i,H,I.tok _,⟨_,rfl⟩,h⟩
theorem YB {b j pos}:PE X (.Constant (.bool b) j pos) (tC (.bl b)):=fun _ _ _ H _ I h=>Constant_bool ⟨.bl b,H,I,rfl,h⟩
theorem QX {j pos}:PE X (.Constant .none j pos) (tC .non):=fun _ _ _ H _ I h=>Constant_none ⟨.non,H,I,rfl,h⟩
theorem zb {x j pos}:PE X (.Constant (.str x) j pos) (tC (.str x)):=fun _ _ _ H _ I h=>Calls.Constant_str ⟨.str x,H,I.tok _,⟨_,rfl⟩,h⟩
def Gl (X:Cx) (x:Str):Prop:=X.env.kindOf x=some .globalImplicit
theorem jB {pins:List (Addr × Obj)} {σ:St} {u:Value} {Q:Value->Shared->Prop} (I:Inv X pins σ H s) (hg:Gl X x) (hm:X.mg x=some u) (h:Q u s)
  (hd:(x == ("__debug__" : Str))=false:=by decide):wpAny (model X.prog X.w) X.A (eval (.Name x pos) X.env) Q E s:=
 Calls.Name_function_global I.ok.kind hg (Calls.loadGlobal_global (by rw [I.ok.glob];exact I.mod.glob.keeps I.bk) hm h) hd
theorem Ju {pins:List (Addr × Obj)} {σ:St} {u:Value} {Q:Value->Shared->Prop} (I:Inv X pins σ H s) (hg:Gl X x) (hm:X.mg x=none) (hv:bootBuiltins x=some u) (h:Q u s)
  (hn:x ≠ "__name__" := by decide) (hd:(x == ("__debug__" : Str))=false:=by decide):wpAny (model X.prog X.w) X.A (eval (.Name x pos) X.env) Q E s:=by
 obtain ⟨mb,h1,h2⟩:=I.mod.blt
 exact Calls.Name_function_global I.ok.kind hg (Calls.loadGlobal_builtin (by rw [I.ok.glob];exact I.mod.glob.keeps I.bk) hm (by rw [I.ok.blt];exact h1.keeps I.bk) ((h2 x hn).trans hv) h) hd
theorem y7 {v:V} {u:Value} (hg:Gl X x) (hm:X.mg x=some u) (r:jO v u) (hd:(x == ("__debug__" : Str))=false:=by decide):PE X (.Name x pos) (tC v):=
 fun _ _ _ H _ I h=>jB I hg hm ⟨v,H,I,r,h⟩ hd
theorem JS {v:V} {u:Value} (hg:Gl X x) (hm:X.mg x=none) (hv:bootBuiltins x=some u) (r:jO v u) (hn:x ≠ "__name__" := by decide) (hd:(x == ("__debug__" : Str))=false:=by decide):PE X (.Name x pos) (tC v):=
 fun _ _ _ H _ I h=>Ju I hg hm hv ⟨v,H,I,r,h⟩ hn hd
variable {a b : Expr} {ta tb : TE} {pos : Pos}
def tB (t:TE):TT:=fun σ H Q=>t σ H fun x H1=>∃ c,x = .bl c/\Q c H1
theorem xQ {t:TE} (h:PE X e t) (he : ∀ whole,isTrue e X.env whole=(do let v <- whole;standAt e.pos;holding [v] (truthy v)):=by intro _;rfl):PT X e (tB t):=by
 intro pins s σ H Q I hw
 refine isTrue_plain (thn (h pins s σ H _ I hw) fun v s1 zq=>?_) (he _)
 obtain ⟨x,H1,I1,r1,q1⟩:=zq
 obtain ⟨d,rfl,q⟩:=q1
 cases r1
 exact wpAny_truthy_bool ⟨H1,I1,q⟩
variable {tA tB' : TT} {Qf : List Expr}
def zHG (t u:TT):TT:=fun σ H Q=>t σ H fun c H1=>if c=true then u σ H1 Q else Q false H1
def tOr (t u:TT):TT:=fun σ H Q=>t σ H fun c H1=>if c=true then Q true H1 else u σ H1 Q
def zHX (t:TT):TT:=fun σ H Q=>t σ H fun c H1=>Q (!c) H1
theorem yp (ha:PT X a tA):PW X (.BoolOp .And [a] pos) tA:=by
 intro wh pins s σ H Q I h
 refine isTrue_and (thn (ha pins s σ H Q I h) fun c s1 e=>?_)
 cases c with
 | true=>exact isTrue_and_nil e
 | false=>exact e
theorem Zr (ha:PT X a tA):PW X (.BoolOp .Or [a] pos) tA:=by
 intro wh pins s σ H Q I h
 refine isTrue_or (thn (ha pins s σ H Q I h) fun c s1 e=>?_)
 cases c with
 | false=>exact isTrue_or_nil e
 | true=>exact e
theorem Zo (ha:PT X a tA) (hb:PW X (.BoolOp .And (b::Qf) pos) tB'):PW X (.BoolOp .And (a::b::Qf) pos) (zHG tA tB'):=by
 intro wh pins s σ H Q I h
 refine isTrue_and (thn (ha pins s σ H _ I h) fun c s1 zq=>?_)
 obtain ⟨H1,I1,q1⟩:=zq
 cases c with
 | true=>exact hb wh pins s1 σ H1 Q I1 q1
 | false=>exact ⟨H1,I1,q1⟩
theorem X2 (ha:PT X a tA) (hb:PW X (.BoolOp .Or (b::Qf) pos) tB'):PW X (.BoolOp .Or (a::b::Qf) pos) (tOr tA tB'):=by
 intro wh pins s σ H Q I h
 refine isTrue_or (thn (ha pins s σ H _ I h) fun c s1 zq=>?_)
 obtain ⟨H1,I1,q1⟩:=zq
 cases c with
 | true=>exact ⟨H1,I1,q1⟩
 | false=>exact hb wh pins s1 σ H1 Q I1 q1
theorem yT (ha:PT X a tA):PT X (.UnaryOp .Not a pos) (zHX tA):=by
 intro pins s σ H Q I h
 exact isTrue_not (ha pins s σ H (fun c H1=>Q (!c) H1) I h)
def zF8 (ta tb:TE):TE:=fun σ H Q=>ta σ H fun x H1=>∃ c,x = .bl c/\if c=true then tb σ H1 Q else Q (.bl false) H1
def zD8 (ta:TE):TE:=fun σ H Q=>ta σ H fun x H1=>∃ c,x = .bl c/\Q (.bl (!c)) H1
theorem YQ {op} {t:TE} (h:PE X a t):PE X (.BoolOp op [a] pos) t:=fun pins s σ H Q I hw=>BoolOp_one (h pins s σ H Q I hw)
theorem XH (ha:PE X a ta) (hb:PE X (.BoolOp .And (b::Qf) pos) tb):PE X (.BoolOp .And (a::b::Qf) pos) (zF8 ta tb):=by
 intro pins s σ H Q I h
 refine BoolOp_and (thn (ha pins s σ H _ I h) fun v s1 zq=>?_)
 obtain ⟨x,H1,I1,r1,q1⟩:=zq
 obtain ⟨c,rfl,q1⟩:=q1
 cases r1
 refine wpAny_truthy_bool ?_
 cases c with
 | true=>exact hb pins s1 σ H1 Q I1 q1
 | false=>exact ⟨.bl false,H1,I1,rfl,q1⟩
theorem zFQ (ha:PE X a ta):PE X (.UnaryOp .Not a pos) (zD8 ta):=by
 intro pins s σ H Q I h
 refine UnaryOp_ (thn (ha pins s σ H _ I h) fun v s1 zq=>?_)
 obtain ⟨x,H1,I1,r1,q1⟩:=zq
 obtain ⟨c,rfl,q1⟩:=q1
 cases r1
 exact not_of (wpAny_truthy_bool ⟨.bl (!c),H1,I1,rfl,q1⟩)
def tIf (t:TT) (ta tb:TE):TE:=fun σ H Q=>t σ H fun c H1=>if c=true then ta σ H1 Q else tb σ H1 Q
theorem YO {c:Expr} (hc:PT X c tA) (ha:PE X a ta) (hb:PE X b tb):PE X (.IfExp c a b pos) (tIf tA ta tb):=by
 intro pins s σ H Q I h
 refine wpAny_IfExp (thn (hc pins s σ H _ I h) fun d s1 zq=>?_)
 obtain ⟨H1,I1,q1⟩:=zq
 cases d with
 | true=>exact ha pins s1 σ H1 Q I1 q1
 | false=>exact hb pins s1 σ H1 Q I1 q1
end
def SqL (K:W.Frag) (H:Hp) (a:Addr) (xs:List V):Prop:=
 Rd H a (.lst xs) \/
  ∃ (o:Obj) (its:Array Value) (n:Nat),K.lookup a=some o/\o.cls = .type "list" /\ o.dict=none/\o.data = .seq its n/\its.size<=sizeLine/\z9 xs its.toList
def SqT (K:W.Frag) (H:Hp) (a:Addr) (xs:List V):Prop:=
 Rd H a (.tup xs) \/
  ∃ (o:Obj) (its:Array Value) (n:Nat),K.lookup a=some o/\o.cls = .type "tuple" /\ o.data = .seq its n/\its.size<=sizeLine/\z9 xs its.toList
def zHv:Value->Option V
 | .none=>some .non
 | .bool b=>some (.bl b)
 | .int i _=>some (.int i)
 | .str x _=>some (.str x)
 | .bytes b _=>some (.byt b)
 | .float b _=>some (.flt b)
 | .ref a=>some (.ref a)
 | .type n=>some (.ty n)
 | _=>none
variable {x:V}
theorem jO.abs {u:Value} (r:jO x u):zHv u=some x:=by
 cases x with
 | non=>cases r;rfl
 | bl _=>cases r;rfl
 | int _=>obtain ⟨t,rfl⟩:=r;rfl
 | str _=>obtain ⟨t,rfl⟩:=r;rfl
 | byt _=>obtain ⟨t,rfl⟩:=r;rfl
 | flt _=>obtain ⟨t,rfl⟩:=r;rfl
 | ref _=>cases r;rfl
 | ty _=>cases r;rfl
variable {y:V}
theorem jO.inj {u:Value} (r:jO x u) (q:jO y u):x=y:=Option.some.inj (r.abs.symm.trans q.abs)
theorem z9.inj : ∀ {xs ys:List V} {us:List Value},z9 xs us->z9 ys us->xs=ys
 | _,_,_,.nil,.nil=>rfl
 | _,_,_,.cons r t,.cons r' t'=>by rw [r.inj r',z9.inj t t']
section
variable {X : Cx} {pins : List (Addr × Obj)} {σ : St} {H : Hp} {s : Shared} {a : Addr} {xs ys : List V}
theorem SqL.of {K:W.Frag} (h:H a=some (.lst xs)):SqL K H a xs:=.inl (.inl h)
theorem SqT.of {K:W.Frag} (h:H a=some (.tup xs)):SqT K H a xs:=.inl (.inl h)
theorem Inv.list (I:Inv X pins σ H s) (h:SqL X.K H a xs) : ∃ its:List Value,z9 xs its/\PlainL s.heap a its.toArray/\xs.length<=sizeLine:=by
 rcases h with h | ⟨o,its,n,hk,hc,hd,hs,hz,r⟩
 ·obtain ⟨z,its,n,r,e⟩:=h.ok I.hok
  exact ⟨its,r,⟨_,n,e,rfl,rfl,rfl⟩,z⟩
 ·refine ⟨its.toList,r,⟨o,n,I.kIn a o hk,hc,hd,by simpa using hs⟩,?_⟩
  have e:=r.length
  simp only [Array.length_toList] at e
  omega
theorem Inv.tuple (I:Inv X pins σ H s) (h:SqT X.K H a xs) : ∃ its:List Value,z9 xs its/\IsTup s.heap a its.toArray/\xs.length<=sizeLine:=by
 rcases h with h | ⟨o,its,n,hk,hc,hs,hz,r⟩
 ·obtain ⟨z,its,r,p⟩:=h.ok I.hok
  exact ⟨its,r,p,z⟩
 ·refine ⟨its.toList,r,⟨o,I.kIn a o hk,hc,n,by simpa using hs⟩,?_⟩
  have e:=r.length
  simp only [Array.length_toList] at e
  omega
theorem Inv.list_inj (I:Inv X pins σ H s) (h:SqL X.K H a xs) (h':SqL X.K H a ys):xs=ys:=by
 obtain ⟨its,r,⟨o,n,e,_,_,d⟩,_⟩:=I.list h
 obtain ⟨its',r',⟨o',n',e',_,_,d'⟩,_⟩:=I.list h'
 rw [e] at e';cases e'
 rw [d] at d'
 injection d' with d1 _
 have:its=its':=by simpa using congrArg Array.toList d1
 subst this
 exact r.inj r'
theorem Inv.tuple_inj (I:Inv X pins σ H s) (h:SqT X.K H a xs) (h':SqT X.K H a ys):xs=ys:=by
 obtain ⟨its,r,⟨o,e,_,n,d⟩,_⟩:=I.tuple h
 obtain ⟨its',r',⟨o',e',_,n',d'⟩,_⟩:=I.tuple h'
 rw [e] at e';cases e'
 rw [d] at d'
 injection d' with d1 _
 have:its=its':=by simpa using congrArg Array.toList d1
 subst this
 exact r.inj r'
end
abbrev Cx.wish (X:Cx) (E:Value->Shared->Prop):Cx:={ X with xe:=E }
abbrev Cx.nox (X:Cx):Cx:=X.wish fun _ _=>False
theorem Cx.Ok.wish (ok:X.Ok) (E:Value->Shared->Prop):(X.wish E).Ok:=
 ⟨ok.mod,ok.kind,ok.glob,ok.blt,ok.above,ok.inj,ok.has,ok.cab,ok.hd,ok.frames,ok.stk,ok.exf,ok.bs,ok.bsz,ok.noex,ok.exfs,ok.funs,ok.frf⟩
theorem Cx.Ok.unwish (ok:(X.wish E).Ok):X.Ok:=
 ⟨ok.mod,ok.kind,ok.glob,ok.blt,ok.above,ok.inj,ok.has,ok.cab,ok.hd,ok.frames,ok.stk,ok.exf,ok.bs,ok.bsz,ok.noex,ok.exfs,ok.funs,ok.frf⟩
section
variable {X : Cx} {pins : List (Addr × Obj)} {σ : St} {H : Hp} {s : Shared} {E : Value -> Shared -> Prop}
theorem Inv.wish (I:Inv X pins σ H s) (E:Value->Shared->Prop):Inv (X.wish E) pins σ H s:=⟨I.ok.wish E,I.os,I.bare,I.base,I.loc,I.cell,I.free,I.freeC,I.pin,I.hok,I.len⟩
theorem Inv.unwish (I:Inv (X.wish E) pins σ H s):Inv X pins σ H s:=⟨I.ok.unwish,I.os,I.bare,I.base,I.loc,I.cell,I.free,I.freeC,I.pin,I.hok,I.len⟩
theorem SP.unwish {D:kD} {f:Flow} {s':Shared} (h:SP (X.wish E) pins D f s'):SP X pins D f s':=by
 cases f with
 | next=>obtain ⟨σ',H',I,q⟩:=h;exact ⟨σ',H',I.unwish,q⟩
 | brk=>obtain ⟨σ',H',I,q⟩:=h;exact ⟨σ',H',I.unwish,q⟩
 | cont=>obtain ⟨σ',H',I,q⟩:=h;exact ⟨σ',H',I.unwish,q⟩
 | ret u=>obtain ⟨v,σ',H',I,r,q⟩:=h;exact ⟨v,σ',H',I.unwish,r,q⟩
theorem PE.nox {t:TE} (h:PE X.nox e t):PE X e t:=fun pins s σ H Q I hw =>
 wpAny_mono (h pins s σ H Q (I.wish _) hw) (fun _ _ ⟨v,H',I',r,q⟩=>⟨v,H',I'.unwish,r,q⟩) fun _ _ z=>False.elim z
theorem PT.nox {t:TT} (h:PT X.nox e t):PT X e t:=fun pins s σ H Q I hw =>
 wpAny_mono (h pins s σ H Q (I.wish _) hw) (fun _ _ ⟨H',I',q⟩=>⟨H',I'.unwish,q⟩) fun _ _ z=>False.elim z
theorem PSs.nox {st:List Stmt} {t:TS} (h:PSs X.nox st t):PSs X st t:=fun pins s σ H D I hw =>
 wpAny_mono (h pins s σ H D (I.wish _) hw) (fun _ _ q=>q.unwish) fun _ _ z=>False.elim z
end
section
variable {X : Cx} {st : Stmt} {Qf : List Stmt} {t u : TS} {e : Expr} {te : TE} {pos : Pos}
def zEn:TS:=fun D σ H=>D.nx σ H
def zHK (t u:TS):TS:=fun D σ H=>t { D with nx:=u D } σ H
theorem zZ:PSs X [] zEn:=fun _ _ σ H _ I h=>wpAny_execs_nil ⟨σ,H,I,h⟩
theorem zC (h1:PS X st t) (h2:PSs X Qf u):PSs X (st::Qf) (zHK t u):=by
 intro pins s σ H D I h
 refine wpAny_execs_cons (thn (h1 pins s σ H { D with nx:=u D } I h) fun f s1 q=>?_)
 cases f with
 | next =>
  obtain ⟨σ',H',I',q⟩:=q
  exact h2 pins s1 σ' H' D I' q
 | ret v=>exact q
 | brk=>exact q
 | cont=>exact q
theorem zF (h1:PS X st t):PSs X [st] t:=by
 intro pins s σ H D I h
 refine wpAny_execs_cons (thn (h1 pins s σ H D I h) fun f s1 q=>?_)
 cases f with
 | next=>exact wpAny_execs_nil q
 | ret v=>exact q
 | brk=>exact q
 | cont=>exact q
theorem Inv.quiet {pins:List (Addr × Obj)} {σ:St} (I:Inv X pins σ H s):interactive X.env=false:=by simp [interactive,I.ok.kind]
def zFk (te:TE):TS:=fun D σ H=>te σ H fun _ H1=>D.nx σ H1
theorem xE (he:PE X e te) (hs:swapsWith e none pos.line X.env=pure false:=by rfl):PS X (.Expr e pos) (zFk te):=by
 intro pins s σ H D I h
 exact wpAny_Expr_any (thn (he pins s σ H _ I h) fun v s1 ⟨x,H1,I1,r1,q1⟩=>⟨σ,H1,I1,q1⟩) I.quiet hs
def zHd (te:TE):TS:=fun D σ H=>te σ H D.rt
theorem zP (he:PE X e te):PS X (.Return (some e) pos) (zHd te):=by
 intro pins s σ H D I h
 exact wpAny_Return_some (thn (he pins s σ H _ I h) fun v s1 ⟨x,H1,I1,r1,q1⟩=>⟨x,σ,H1,I1,r1,q1⟩)
def zHR (c:TT) (t u:TS):TS:=fun D σ H=>c σ H fun b H1=>if b=true then t D σ H1 else u D σ H1
theorem qD {c:Expr} {a b:List Stmt} {tc:TT} (hc:PT X c tc) (ha:PSs X a t) (hb:PSs X b u):PS X (.If c a b pos) (zHR tc t u):=by
 intro pins s σ H D I h
 refine wpAny_If (thn (hc pins s σ H _ I h) fun d s1 zq=>?_)
 obtain ⟨H1,I1,q1⟩:=zq
 cases d with
 | true=>exact ha pins s1 σ H1 D I1 q1
 | false=>exact hb pins s1 σ H1 D I1 q1
def zEX:TS:=fun _ _ _=>False
theorem Yo:PS X st zEX:=fun _ _ _ _ _ _ h=>h.elim
end
abbrev TG:=V->St->Hp->(St->Hp->Prop)->Prop
abbrev TGs:=List V->St->Hp->(St->Hp->Prop)->Prop
def PG (X:Cx) (target:Expr) (t:TG):Prop:=
 ∀ (pins:List (Addr × Obj)) (s:Shared) (σ:St) (H:Hp) (v:V) (u:Value) (Q:St->Hp->Prop),Inv X pins σ H s->jO v u->t v σ H Q ->
  wpAny (model X.prog X.w) X.A (assign target X.env u) (fun _ s'=>∃ σ' H',Inv X pins σ' H' s'/\Q σ' H') X.xe s
def PGs (X:Cx) (ts:List Expr) (t:TGs):Prop:=
 ∀ (pins:List (Addr × Obj)) (s:Shared) (σ:St) (H:Hp) (vs:List V) (us:List Value) (Q:St->Hp->Prop),Inv X pins σ H s->z9 vs us->t vs σ H Q ->
  wpAny (model X.prog X.w) X.A (assignInOrder ((assignEach ts X.env).map (·.2)) us) (fun _ s'=>∃ σ' H',Inv X pins σ' H' s'/\Q σ' H') X.xe s
section
variable {X : Cx} {pos : Pos}
def zAd (i:Nat):TG:=fun v σ H Q=>Q (σ.set i (some v)) H
variable {i:Nat}
theorem zf {x:Str} (hN:X.N.Nodup) (hi:X.N[i]? = some x) (hx:Loc X.env.scope x) (hf:X.fn x=true\/X.env.scope.names.lookup x=some .local:=by first | exact .inl rfl | exact .inr rfl | assumption):PG X (.Name x pos) (zAd i):=by
 intro pins s σ H v u Q I r h
 exact wpAny_assign_Name (xt I hN hi hx r (fun s' I'=>⟨_,H,I',h⟩) hf)
def zHM:TGs:=fun vs σ H Q=>vs=[]/\Q σ H
def zFN (t:TG) (u:TGs):TGs:=fun vs σ H Q=>∃ v r,vs=v::r/\t v σ H fun σ' H'=>u r σ' H' Q
theorem kq:PGs X [] zHM:=by
 intro pins s σ H vs us Q I r h
 obtain ⟨e,h⟩:=h
 subst e
 cases r
 exact assignInOrder_nil ⟨σ,H,I,h⟩
theorem zw {es:List Expr} {t:TG} {u:TGs} (h1:PG X e t) (h2:PGs X es u)
  (hs:(assignEach (e::es) X.env).map (·.2)=assign e X.env::(assignEach es X.env).map (·.2):=by rfl):PGs X (e::es) (zFN t u):=by
 intro pins s σ H vs us Q I r h
 obtain ⟨v,vr,e1,h⟩:=h
 subst e1
 cases r with
 | cons r rr =>
  rw [hs]
  refine assignInOrder_cons (thn (h1 pins s σ H _ _ _ I r h) fun _ s1 zq=>?_)
  obtain ⟨σ1,H1,I1,q1⟩:=zq
  exact h2 pins s1 σ1 H1 _ _ Q I1 rr q1
def zHJ (K:W.Frag) (n:Nat) (t:TGs):TG:=fun v σ H Q=>∃ a xs,v = .ref a/\SqT K H a xs/\xs.length=n/\t xs σ H Q
theorem Ql {es:List Expr} {k:Nat} {t:TGs} {n:Nat} (hc:X.calm=true) (h:PGs X es t)
  (hn:(assignEach es X.env).length=n:=by rfl) (hst:(assignEach es X.env).findIdx? (·.1)=none:=by rfl):PG X (.Tuple es k pos) (zHJ X.K n t):=by
 intro pins s σ H v u Q I r hw
 obtain ⟨a,xs,e1,hq,hl,hw⟩:=hw
 subst e1
 cases r
 obtain ⟨its,rv,ht,hz⟩:=I.tuple hq
 refine assign_Tuple_tuple (I.ok.hd hc) ht (by simp [hn,<- hl,rv.length]) hst fun h' hx=>?_
 have I1:Inv X pins σ H { s with heap:=h' }:=I.kept (t':=s.toks) fun b o e=>hx b o (ne_of_lt (Heap.lt_size e)) e
 exact h pins _ σ H xs _ Q I1 (by simpa using rv) hw
def zGB (te:TE) (g:TG):TS:=fun D σ H=>te σ H fun x H1=>g x σ H1 D.nx
theorem QW {tg:Expr} {te:TE} {g:TG} (he:PE X e te) (hg:PG X tg g) (hs:swapsWithSole [tg] e pos.line X.env=pure false:=by rfl) (hw:swappedStores [tg] e X.env=pure none:=by rfl)
  (h1:(assignEach [tg] X.env).map (·.2)=[assign tg X.env]:=by rfl):PS X (.Assign [tg] e pos) (zGB te g):=by
 intro pins s σ H D I h
 refine wpAny_Assign_stores (thn (he pins s σ H _ I h) fun v s1 zq=>?_) hs hw
 obtain ⟨x,H1,I1,r1,q1⟩:=zq
 rw [h1]
 exact thn (hg pins s1 σ H1 x v _ I1 r1 q1) fun _ s2 q=>q
theorem zK {x:Str} {te:TE} {pos':Pos} (hN:X.N.Nodup) (hi:X.N[i]? = some x) (hx:Loc X.env.scope x) (he:PE X e te) (hs:swapsWith e (some (.Name x pos')) pos.line X.env=pure false:=by rfl) (hf:X.fn x=true\/X.env.scope.names.lookup x=some .local:=by first | exact .inl rfl | exact .inr rfl | assumption) :
  PS X (.Assign [.Name x pos'] e pos) (zGB te (zAd i)):=by
 intro pins s σ H D I h
 refine wpAny_Assign_Name (thn (he pins s σ H _ I h) fun v s1 zq=>?_) hs
 obtain ⟨y,H1,I1,r1,q1⟩:=zq
 exact xt I1 hN hi hx r1 (fun s2 I2=>⟨_,H1,I2,q1⟩) hf
def zHZ (i j:Nat) (ta:TA):TS:=fun D σ H=>ta σ H fun vs H1=>∃ v w,vs=[v,w]/\D.nx ((σ.set i (some v)).set j (some w)) H1
theorem zBo {j:Nat} {x y:Str} {a b:Expr} {ta:TA} {px py pt:Pos} {kt k2 pt2} (hc:X.calm=true) (hN:X.N.Nodup) (hi:X.N[i]? = some x) (hj:X.N[j]? = some y) (hij:i≠j)
  (hx:X.env.scope.names.lookup x=some .local) (hy:X.env.scope.names.lookup y=some .local) (ha:PA X [a,b] ta)
  (hw:swappedStores [.Tuple [.Name x px,.Name y py] kt pt] (.Tuple [a,b] k2 pt2) X.env=pure (some [x,y]))
  (hs:swapsWithSole [.Tuple [.Name x px,.Name y py] kt pt] (.Tuple [a,b] k2 pt2) pos.line X.env=pure false:=by rfl) :
  PS X (.Assign [.Tuple [.Name x px,.Name y py] kt pt] (.Tuple [a,b] k2 pt2) pos) (zHZ i j ta):=by
 intro pins s σ H D I h
 rw [exec_Assign_arm]
 refine wpAny_bind (wpAny_standAt ?_)
 rw [hs]
 refine wpAny_bind (wpAny_pure ?_)
 rw [if_neg (by decide)]
 refine wpAny_bind (Tuple_ (thn (ha _ pins s σ H _ I h) fun us s1 zq=>?_))
 obtain ⟨vs,H1,I1,r1,q1⟩:=zq
 obtain ⟨v,w,e1,q1⟩:=q1
 subst e1
 obtain ⟨u1,u2,rfl,rv,rw'⟩ : ∃ u1 u2,us=[u1,u2]/\jO v u1/\jO w u2:=by
  cases r1 with
  | cons p q =>
   cases q with
   | cons p' q' =>
    cases q'
    exact ⟨_,_,rfl,p,p'⟩
 refine wpAny_newObj_type ?_ (by show 2<=sizeLine;decide)
 have I2:Inv X pins σ H1 { s1 with heap:=s1.heap.push { cls:=.type "tuple", data:=.seq [u1,u2].toArray } }:=I1.kept (t':=s1.toks) fun b o e=>Heap.get?_push_of_some _ e
 rw [hw]
 refine wpAny_bind (wpAny_pure ?_)
 show wpAny (model X.prog X.w) X.A (do rule "assign.swapped-stores"; let items <- unpackItems (.ref s1.heap.objs.size) 2 none;assignInOrder [fun v=>bindName X.env y v,fun v=>bindName X.env x v] items.reverse;pure Flow.next) _ _ _
 refine wpAny_bind (wpAny_rule (wpAny_bind (unpackItems_tuple (items:=#[u1,u2]) (I.ok.hd hc) (IsTup.new s1.heap _) fun h' hx'=>?_)))
 have I3:=I2.kept (h':=h') (t':=s1.toks) fun b o e=>hx' b o (ne_of_lt (Heap.lt_size e)) e
 show wpAny _ _ (assignInOrder [fun v=>bindName X.env y v,fun v=>bindName X.env x v] [u2,u1] >>= fun _=>pure Flow.next) _ _ _
 refine wpAny_bind (assignInOrder_cons (wpAny_bindName (xt I3 hN hj (.inl hy) rw' (fun s2 I4=>?_) (.inr hy))))
 refine assignInOrder_cons (wpAny_bindName (xt I4 hN hi (.inl hx) rv (fun s3 I5=>assignInOrder_nil (wpAny_pure ?_)) (.inr hx)))
 rw [List.set_comm _ _ (Ne.symm hij)] at I5
 exact ⟨_,H1,I5,q1⟩
end
section
variable {X : Cx} {pos : Pos}
def zBb (c:TT) (tb:TS):TS:=fun D σ H=>∃ W:Nat->St->Hp->Prop,(∃ m,W m σ H) /\ ∀ m σ H,W m σ H ->
 c σ H fun b H1=>if b=true then ∃ N:St->Hp->Prop,(∀ σ' H',N σ' H' -> ∃ m',m' < m/\W m' σ' H')/\tb { D with nx:=N,ct:=N,bk:=D.nx } σ H1 else D.nx σ H1
theorem ZK {c:Expr} {body:List Stmt} {tc:TT} {tb:TS} (hp:PassesOwn (model X.prog X.w) X.A X.env X.xe) (hc:PT X c tc) (hb:PSs X body tb):PS X (.While c body [] pos) (zBb tc tb):=by
 intro pins s σ H D I h
 obtain ⟨W,⟨m0,w0⟩,turn⟩:=h
 refine wpAny_While (codeAny_whileLoop (fun n s'=>∃ σ' H',Inv X pins σ' H' s'/\W n σ' H') ?_ m0 ⟨σ,H,I,w0⟩)
 rintro n s1 ⟨σ1,H1,I1,w1⟩
 refine wpAny_passesOwn hp (thn (hc pins s1 σ1 H1 _ I1 (turn n σ1 H1 w1)) fun b s2 zq=>?_)
 obtain ⟨H2,I2,q2⟩:=zq
 cases b with
 | true =>
  obtain ⟨N,hN,q2⟩:=q2
  rw [if_pos rfl]
  refine wpAny_passesOwn hp (thn (hb pins s2 σ1 H2 _ I2 q2) fun f s3 q3=>?_)
  cases f with
  | next =>
   obtain ⟨σ3,H3,I3,n3⟩:=q3
   obtain ⟨m',hm,w3⟩:=hN σ3 H3 n3
   exact ⟨m',hm,σ3,H3,I3,w3⟩
  | cont =>
   obtain ⟨σ3,H3,I3,n3⟩:=q3
   obtain ⟨m',hm,w3⟩:=hN σ3 H3 n3
   exact ⟨m',hm,σ3,H3,I3,w3⟩
  | brk=>exact q3
  | ret v=>exact q3
 | false =>
  rw [if_neg Bool.false_ne_true]
  exact wpAny_execs_nil ⟨σ1,H2,I2,q2⟩
end
structure It where
 go:Nat->Hp->Prop
 yld:Nat->Hp->V->Hp->Prop
 stop:Nat->Hp->Prop
def V8 (X:Cx) (pins:List (Addr × Obj)) (H:Hp) (b:Addr):Prop:=
 H b=none/\b≠X.env.locals/\b ∉ X.fs/\(b ∈ X.ex\/X.s₀.heap.objs.size<=b)/\(∀ x c,X.env.cells.lookup x=some c->c≠b) /\ ∀ p ∈ X.pn++pins,p.1≠b
variable {pins:List (Addr × Obj)} {σ:St}
theorem Inv.fpOk {H':Hp} (I:Inv X pins σ H s) (hb:s.heap.objs.size<=b) (hn:H' b=none):V8 X pins H' b:=by
 refine ⟨hn,Nat.ne_of_gt (lt_of_lt_of_le I.lt hb),I.nofs hb,.inr (le_trans I.sz hb),fun x c e z=>?_,fun p hp z=>?_⟩
 ·obtain ⟨v,q⟩:=I.cell x c e
  exact absurd (lt_of_lt_of_le q.lt (by rw [z];exact hb)) (lt_irrefl _)
 ·exact absurd (lt_of_lt_of_le (Heap.lt_size (I.pin p hp).1) (by rw [z];exact hb)) (lt_irrefl _)
structure zDt (P:Program) (w:World) (K:W.Frag) (tg:Expr) (J:It) (fp:List Addr) (it:Addr) (tn:Nat->Heap->Prop):Prop where
 mem:it ∈ fp
 obj : ∀ i h,tn i h -> ∀ b ∈ fp,∃ o,h.get? b=some o /\ ∀ v,o.data ≠ .cell v
 keep : ∀ i h h',tn i h->(∀ b ∈ fp,∀ o,h.get? b=some o->h'.get? b=some o)->tn i h'
 item : ∀ (X:Cx),X.prog=P->X.w=w->X.K=K->X.calm=true -> ∀ (i:Nat) (pins:List (Addr × Obj)) (s:Shared) (σ:St) (H:Hp) (E:Value->Shared->Prop),Inv X pins σ H s->(∀ b ∈ fp,V8 X pins H b)->tn i s.heap->J.go i H ->
  wpAny (model P w) X.A (pyNext (.ref it)) (fun r s1=>∃ u,r=some u /\
   wpAny (model P w) X.A (letOwnedTupleGo tg (.ref it) u) (fun _ s2=>∃ x H',Inv X pins σ H' s2/\jO x u/\J.yld i H x H'/\tn (i+1) s2.heap /\ ∀ b ∈ fp,H' b=none) E s1) E s
 done : ∀ (X:Cx),X.prog=P->X.w=w->X.K=K->X.calm=true -> ∀ (i:Nat) (pins:List (Addr × Obj)) (s:Shared) (σ:St) (H:Hp) (E:Value->Shared->Prop),Inv X pins σ H s->(∀ b ∈ fp,V8 X pins H b)->tn i s.heap->J.stop i H ->
  wpAny (model P w) X.A (pyNext (.ref it)) (fun r s1=>r=none/\Inv X pins σ H s1) E s
 self : ∀ (A:Around) (i:Nat) (s:Shared) (Q:Value->Shared->Prop) (E:Value->Shared->Prop),tn i s.heap->Q (.ref it) s->wpAny (model P w) A (pyIter (.ref it)) Q E s
abbrev TI:=St->Hp->(It->Hp->Prop)->Prop
def PIE (X:Cx) (pins:List (Addr × Obj)) (σ:St) (tg:Expr) (R:It->Hp->Prop) (itv:Value) (s2:Shared):Prop:=
 ∃ (it:Addr) (fp:List Addr) (tn:Nat->Heap->Prop) (J:It) (H':Hp),itv = .ref it/\Inv X pins σ H' s2/\zDt X.prog X.w X.K tg J fp it tn/\tn 0 s2.heap/\(∀ b ∈ fp,V8 X pins H' b)/\R J H'
def PI (X:Cx) (tg iter:Expr) (wi:TI):Prop:=
 ∀ (pins:List (Addr × Obj)) (s:Shared) (σ:St) (H:Hp) (R:It->Hp->Prop),Inv X pins σ H s->wi σ H R ->
  wpAny (model X.prog X.w) X.A (eval iter X.env) (fun v s1=>wpAny (model X.prog X.w) X.A (pyIter v) (PIE X pins σ tg R) X.xe s1) X.xe s
variable {tg:Expr} {Q:Unit -> Shared -> Prop}
theorem W9 {M : Model} {it : Addr} {u : Value} {o : Obj} {n : String} {vs : Array Value} (ho : s.heap.get? it = some o) (hc : o.cls = .type n) (hd : o.data = .fields vs)
    (hn : ["enumerate", "zip", "dict_itemiterator", "dict_reverseitemiterator", "odict_iterator", "itertools.zip_longest", "itertools.pairwise"].contains n = false) (hQ : Q () s) : wpAny M A (letOwnedTupleGo tg (.ref it) u) Q E s := by
  unfold letOwnedTupleGo
  cases tg <;> first
    | exact wpAny_pure hQ
    | (cases u <;> first
        | exact wpAny_pure hQ
        | (refine wpAny_bind (wpAny_load ho ?_)
           rw [hc, hd]
           show wpAny M A (if (["enumerate", "zip", "dict_itemiterator", "dict_reverseitemiterator", "odict_iterator", "itertools.zip_longest", "itertools.pairwise"].contains n && vs[0]? == some (rawInt _)) = true then _ else _) Q E s
           rw [if_neg (by intro h; rw [hn, Bool.false_and] at h; cases h)]
           exact wpAny_pure hQ))
def Itl (K:W.Frag) (a:Addr):It:=
 ⟨fun i H=>∃ xs x,SqL K H a xs/\xs[i]? = some x,fun i H x H'=>H'=H /\ ∀ xs,SqL K H a xs->xs[i]? = some x,fun i H=>∃ xs,SqL K H a xs/\xs.length<=i⟩
def Itt (K:W.Frag) (a:Addr):It:=
 ⟨fun i H=>∃ xs x,SqT K H a xs/\xs[i]? = some x,fun i H x H'=>H'=H /\ ∀ xs,SqT K H a xs->xs[i]? = some x,fun i H=>∃ xs,SqT K H a xs/\xs.length<=i⟩
def Itr (lo:Int) (n:Nat):It:=⟨fun i _=>i < n,fun i H x H'=>H'=H/\x = .int (lo+i),fun i _=>n<=i⟩
variable {K:W.Frag}
theorem KP (a it:Addr):zDt P w K tg (Itl K a) [it] it (fun i h=>h.IsListIter it a i) where
 mem:=by simp
 obj:=fun i h st b hb=>by
  have e:b=it:=by simpa using hb
  subst e
  obtain ⟨o,e,c,d⟩:=st
  exact ⟨o,e,fun v z=>by rw [d] at z;cases z⟩
 keep:=fun i h h' st k=>st.at fun o e=>k it (by simp) o e
 item:=by
  intro X hP hw hK hc i pins s σ H E I hf st hg
  subst hP hw hK
  obtain ⟨xs,x,hq,hx⟩:=hg
  obtain ⟨its,rv,p,hz⟩:=I.list hq
  obtain ⟨u,hu,ru⟩:=rv.get hx
  obtain ⟨f0,f1,f2,f3,f4,f5⟩:=hf it (by simp)
  refine wpAny_pyNext_list_item st p.isList (x:=u) (by simpa using hu) fun h' st' sb=>?_
  have I1:Inv X pins σ H { s with heap:=h' }:=I.turned (t':=s.toks) (fun b o hb e=>(sb.2 b hb).trans e) f0 f1 f3 f4 f5
  obtain ⟨o,e,c,d⟩:=id st'
  exact ⟨u,rfl,W9 (s:={ s with heap:=h' }) e c d (by decide) ⟨x,H,I1,ru,⟨rfl,fun ys hy=>by rw [I.list_inj hy hq];exact hx⟩,st',fun b hb=>(hf b hb).1⟩⟩
 done:=by
  intro X hP hw hK hc i pins s σ H E I hf st hg
  subst hP hw hK
  obtain ⟨xs,hq,hx⟩:=hg
  obtain ⟨its,rv,p,hz⟩:=I.list hq
  obtain ⟨f0,f1,f2,f3,f4,f5⟩:=hf it (by simp)
  have hl:=rv.length
  exact wpAny_pyNext_list_end (I.ok.hd hc) st p.isList (by simp;omega) fun h' eb=>⟨rfl,I.turned (t':=s.toks) (fun b o hb e=>eb b o hb e) f0 f1 f3 f4 f5⟩
 self:=fun _ _ _ _ _ st h=>wpAny_pyIter_listiter st h
theorem VW (a it:Addr):zDt P w K tg (Itt K a) [it] it (fun i h=>h.IsTupleIter it a i) where
 mem:=by simp
 obj:=fun i h st b hb=>by
  have e:b=it:=by simpa using hb
  subst e
  obtain ⟨o,e,c,d⟩:=st
  exact ⟨o,e,fun v z=>by rw [d] at z;cases z⟩
 keep:=fun i h h' st k=>st.at fun o e=>k it (by simp) o e
 item:=by
  intro X hP hw hK hc i pins s σ H E I hf st hg
  subst hP hw hK
  obtain ⟨xs,x,hq,hx⟩:=hg
  obtain ⟨its,rv,p,hz⟩:=I.tuple hq
  obtain ⟨u,hu,ru⟩:=rv.get hx
  obtain ⟨f0,f1,f2,f3,f4,f5⟩:=hf it (by simp)
  refine wpAny_pyNext_tuple_item st (show s.heap.IsTuple a its.toArray from p) (x:=u) (by simpa using hu) fun h' st' sb=>?_
  have I1:Inv X pins σ H { s with heap:=h' }:=I.turned (t':=s.toks) (fun b o hb e=>(sb.2 b hb).trans e) f0 f1 f3 f4 f5
  obtain ⟨o,e,c,d⟩:=id st'
  exact ⟨u,rfl,W9 (s:={ s with heap:=h' }) e c d (by decide) ⟨x,H,I1,ru,⟨rfl,fun ys hy=>by rw [I.tuple_inj hy hq];exact hx⟩,st',fun b hb=>(hf b hb).1⟩⟩
 done:=by
  intro X hP hw hK hc i pins s σ H E I hf st hg
  subst hP hw hK
  obtain ⟨xs,hq,hx⟩:=hg
  obtain ⟨its,rv,p,hz⟩:=I.tuple hq
  obtain ⟨f0,f1,f2,f3,f4,f5⟩:=hf it (by simp)
  have hl:=rv.length
  exact wpAny_pyNext_tuple_end (I.ok.hd hc) st (show s.heap.IsTuple a its.toArray from p) (by simp;omega) fun h' eb=>⟨rfl,I.turned (t':=s.toks) (fun b o hb e=>eb b o hb e) f0 f1 f3 f4 f5⟩
 self:=fun _ _ _ _ _ st h=>wpAny_pyIter_tupleiter st h
theorem Vl {K:PySem.W.Frag} (it:Addr) (lo:Int) (n:Nat):zDt P w K tg (Itr lo n) [it] it (fun i h=>IsRangeIter h it (lo+(i:Nat)*1) ((n:Int) - (i:Nat)) 1) where
 mem:=by simp
 obj:=fun i h st b hb=>by
  have e:b=it:=by simpa using hb
  subst e
  exact ⟨_,st,fun v z=>by
   have z':Data.fields _=Data.cell v:=z
   cases z'⟩
 keep:=fun i h h' st k=>k it (by simp) _ st
 item:=by
  intro X hP hw hK hc i pins s σ H E I hf st hg
  subst hP hw hK
  obtain ⟨f0,f1,f2,f3,f4,f5⟩:=hf it (by simp)
  have W:=Walks.range (prog:=X.prog) (w:=X.w) (I.ok.hd hc) it lo 1 n
  refine W.item i s _ _ hg st fun v h' tk hv st' kk=>?_
  obtain ⟨t,rfl⟩:=hv
  have I1:Inv X pins σ H { s with heap:=h',toks:=tk }:=I.turned (fun b o hb e=>kk b o (by simpa using hb) e) f0 f1 f3 f4 f5
  refine ⟨_,rfl,W9 (s:={ s with heap:=h',toks:=tk }) (n:="range_iterator") st' rfl rfl (by decide) ⟨.int (lo+i),H,I1,⟨t,?_⟩,⟨rfl,rfl⟩,st',fun b hb=>(hf b hb).1⟩⟩
  rw [Int.mul_one]
 done:=by
  intro X hP hw hK hc i pins s σ H E I hf st hg
  subst hP hw hK
  obtain ⟨f0,f1,f2,f3,f4,f5⟩:=hf it (by simp)
  exact wpAny_pyNext_range_end (I.ok.hd hc) st (by have:n<=i:=hg;omega) fun h' eb=>⟨rfl,I.turned (t':=s.toks) (fun b o hb e=>eb b o hb e) f0 f1 f3 f4 f5⟩
 self:=fun _ _ _ _ _ st h=>wpAny_pyIter_rangeiter st h
section
variable {X : Cx} {tg : Expr}
def zCp (K:W.Frag) (tl:TE):TI:=fun σ H R=>tl σ H fun x H1=>∃ a,x = .ref a/\(∃ xs,SqL K H1 a xs)/\R (Itl K a) H1
def zHY (K:W.Frag) (tl:TE):TI:=fun σ H R=>tl σ H fun x H1=>∃ a,x = .ref a/\(∃ xs,SqT K H1 a xs)/\R (Itt K a) H1
theorem jX {l:Expr} {tl:TE} (hl:PE X l tl):PI X tg l (zCp X.K tl):=by
 intro pins s σ H R I h
 refine thn (hl pins s σ H _ I h) fun v s1 zq=>?_
 obtain ⟨x,H1,I1,r1,q1⟩:=zq
 obtain ⟨a,e,⟨xs,hq⟩,q⟩:=q1
 subst e
 cases r1
 obtain ⟨its,rv,p,hz⟩:=I1.list hq
 refine wpAny_pyIter_list p.isList ?_
 refine ⟨s1.heap.objs.size,[s1.heap.objs.size],_,_,H1,rfl,I1.kept (t':=s1.toks) fun b o e=>Heap.get?_push_of_some _ e,KP a _,⟨_,Heap.get?_push_size _ rfl,rfl,rfl⟩,fun b hb=>?_,q⟩
 have e:b=s1.heap.objs.size:=by simpa using hb
 subst e
 exact I1.fpOk (le_refl _) (I1.hok.fresh (le_refl _))
theorem zFg {l:Expr} {tl:TE} (hl:PE X l tl):PI X tg l (zHY X.K tl):=by
 intro pins s σ H R I h
 refine thn (hl pins s σ H _ I h) fun v s1 zq=>?_
 obtain ⟨x,H1,I1,r1,q1⟩:=zq
 obtain ⟨a,e,⟨xs,hq⟩,q⟩:=q1
 subst e
 cases r1
 obtain ⟨its,rv,p,hz⟩:=I1.tuple hq
 refine wpAny_pyIter_tuple (show s1.heap.IsTuple a its.toArray from p) ?_
 refine ⟨s1.heap.objs.size,[s1.heap.objs.size],_,_,H1,rfl,I1.kept (t':=s1.toks) fun b o e=>Heap.get?_push_of_some _ e,VW a _,⟨_,Heap.get?_push_size _ rfl,rfl,rfl⟩,fun b hb=>?_,q⟩
 have e:b=s1.heap.objs.size:=by simpa using hb
 subst e
 exact I1.fpOk (le_refl _) (I1.hok.fresh (le_refl _))
theorem Yh {R:It->Hp->Prop} {lo hi:Int} {t u v:Tok} {tk:Nat} (I:Inv X pins σ H s) (h1 : -(2 ^ 62)<=lo) (h2:lo < 2 ^ 62) (h3 : -(2 ^ 62)<=hi) (h4:hi < 2 ^ 62)
  (q:R (Itr lo (hi - lo).toNat) H):wpAny (model X.prog X.w) X.A (pyIter (.ref s.heap.objs.size)) (PIE X pins σ tg R) E { s with heap:=s.heap.push { cls:=.type "range", data:=.fields #[.int lo t,.int hi u,.int 1 v] },toks:=tk }:=by
 refine wpAny_pyIter_range (IsRange.new ..) (small_one h1 h2 h3 h4) ?_
 have I1:Inv X pins σ H { s with heap:=s.heap.push { cls:=.type "range", data:=.fields #[.int lo t,.int hi u,.int 1 v] },toks:=tk }:=I.kept fun b o e=>Heap.get?_push_of_some _ e
 refine ⟨(s.heap.push { cls:=.type "range", data:=.fields #[.int lo t,.int hi u,.int 1 v] }).objs.size,[(s.heap.push { cls:=.type "range", data:=.fields #[.int lo t,.int hi u,.int 1 v] }).objs.size],_,_,H,rfl,
  I1.kept (t':=tk) fun b o e=>Heap.get?_push_of_some _ e,Vl _ lo (hi - lo).toNat,?_,fun b hb=>?_,q⟩
 ·have e1:lo+((0:Nat):Int)*1=lo:=by simp
  have e2:(((hi - lo).toNat:Nat):Int) - ((0:Nat):Int)=Builtin.Range.rangeSize lo hi 1:=by rw [rangeSize_one];split <;> omega
  show IsRangeIter _ _ (lo+((0:Nat):Int)*1) ((((hi - lo).toNat:Nat):Int) - ((0:Nat):Int)) 1
  rw [e1,e2]
  exact Heap.get?_push_size _ rfl
 ·have e:b=(s.heap.push { cls:=.type "range", data:=.fields #[.int lo t,.int hi u,.int 1 v] }).objs.size:=by simpa using hb
  subst e
  exact I1.fpOk (le_refl _) (I1.hok.fresh (le_refl _))
def zDQ (ta:TA):TI:=fun σ H R=>ta σ H fun vs H1=>∃ j:Int,vs=[.int j] /\ -(2 ^ 62)<=j/\j < 2 ^ 62/\R (Itr 0 j.toNat) H1
def zCM (ta:TA):TI:=fun σ H R=>ta σ H fun vs H1=>∃ i j:Int,vs=[.int i,.int j]/\(-(2 ^ 62)<=i/\i < 2 ^ 62 /\ -(2 ^ 62)<=j/\j < 2 ^ 62)/\R (Itr i (j - i).toNat) H1
variable {pos:Pos}
theorem xU {a:Expr} {ta:TA} {p:Pos} (hg:Gl X "range") (hm:X.mg "range" = none) (ha:PA X [a] ta) (hs:starEach [a] X.env=[(false,eval a X.env)]:=by rfl):PI X tg (.Call (.Name "range" p) [a] [] pos) (zDQ ta):=by
 intro pins s σ H R I h
 refine Call_ (Ju I hg hm boot_range (PyProof.Rows.callWith_type1 (thn (ha pos pins s σ H _ I h) fun us s1 zq=>?_) hs rfl))
 obtain ⟨vs,H1,I1,r1,q1⟩:=zq
 obtain ⟨j,e,q1,q2,q⟩:=q1
 subst e
 cases r1 with
 | cons r rr =>
  cases rr
  obtain ⟨t,rfl⟩:=r
  exact call_range_1 (Yh I1 (by omega) (by omega) q1 q2 (by simpa using q))
theorem Z7 {a b:Expr} {ta:TA} {p:Pos} (hg:Gl X "range") (hm:X.mg "range" = none) (ha:PA X [a,b] ta) (hs:starEach [a,b] X.env=[(false,eval a X.env),(false,eval b X.env)]:=by rfl) (hs2:starEach [b] X.env=[(false,eval b X.env)]:=by rfl) :
  PI X tg (.Call (.Name "range" p) [a,b] [] pos) (zCM ta):=by
 intro pins s σ H R I h
 refine Call_ (Ju I hg hm boot_range (PyProof.Rows.callWith_type1 (thn (ha pos pins s σ H _ I h) fun us s1 zq=>?_) (by rw [hs,hs2]) (by rw [hs2];rfl)))
 obtain ⟨vs,H1,I1,r1,q1⟩:=zq
 obtain ⟨i,j,e,⟨q1,q2,q3,q4⟩,q⟩:=q1
 subst e
 cases r1 with
 | cons r rr =>
  cases rr with
  | cons r' rr =>
   cases rr
   obtain ⟨t,rfl⟩:=r
   obtain ⟨t',rfl⟩:=r'
   exact call_range_2 (Yh I1 q1 q2 q3 q4 q)
def zDp (wi:TI) (g:TG) (tb:TS):TS:=fun D σ H=>wi σ H fun J H1=>∃ W:Nat->Nat->St->Hp->Prop,(∃ m,W 0 m σ H1) /\ ∀ i m σ H,W i m σ H ->
 (J.stop i H/\D.nx σ H)\/(J.go i H /\ ∃ N:St->Hp->Prop,(∀ σ' H',N σ' H' -> ∃ m',m' < m/\W (i+1) m' σ' H') /\ ∀ x H',J.yld i H x H'->g x σ H' fun σ2 H2=>tb { D with nx:=N,ct:=N,bk:=D.nx } σ2 H2)
def XQ (fp:List Addr) (h:Heap):List (Addr × Obj):=fp.filterMap fun b=>(h.get? b).map fun o=>(b,o)
variable {fp:List Addr}
theorem ya {o:Obj} (hb:b ∈ fp) (e:h.get? b=some o):(b,o) ∈ XQ fp h:=List.mem_filterMap.mpr ⟨b,hb,by rw [e];rfl⟩
theorem WL {p:Addr × Obj} (hp:p ∈ XQ fp h):p.1 ∈ fp/\h.get? p.1=some p.2:=by
 obtain ⟨b,hb,e⟩:=List.mem_filterMap.mp hp
 cases q:h.get? b with
 | none=>rw [q] at e;cases e
 | some o =>
  rw [q] at e
  have e':(b,o)=p:=Option.some.inj e
  subst e'
  exact ⟨hb,q⟩
theorem Inv.pinned (I:Inv X pins σ H s) (hf : ∀ b ∈ fp,V8 X pins H b) (ho : ∀ b ∈ fp,∃ o,s.heap.get? b=some o /\ ∀ v,o.data ≠ .cell v):Inv X (pins++XQ fp s.heap) σ H s:=
 I.pins_of fun p hp=>(List.mem_append.mp hp).elim (fun z=>I.pin p (mem_append_right _ z)) fun z=>by
  obtain ⟨hb,e⟩:=WL z
  obtain ⟨f0,f1,f2,_⟩:=hf p.1 hb
  obtain ⟨o,e',d⟩:=ho p.1 hb
  rw [e] at e';cases e'
  exact ⟨e,f0,f1,f2,d⟩
theorem Inv.unpinned {pl:List (Addr × Obj)} (I:Inv X (pins++pl) σ H s):Inv X pins σ H s:=I.pins_of fun p hp=>I.pin p (mem_append_right _ (List.mem_append_left _ hp))
theorem yN {iter:Expr} {body:List Stmt} {wi:TI} {g:TG} {tb:TS} (hp:PassesOwn (model X.prog X.w) X.A X.env X.xe) (hc:X.calm=true) (hi:PI X tg iter wi) (hg:PG X tg g) (hb:PSs X body tb)
  (hs : ∀ x,foldedSetIterable iter X.env x=pure x:=by intro _;rfl):PS X (.For tg iter body [] pos) (zDp wi g tb):=by
 intro pins s σ H D I h
 refine wpAny_For (thn (hi pins s σ H _ I h) fun v s1 h1=>thn h1 fun itv s2 h2=>?_) hs
 obtain ⟨it,fp,tn,J,H2,e,I2,T,st2,f2,W,⟨m0,w0⟩,turn⟩:=h2
 subst e
 have stat : ∀ {H':Hp},(∀ b ∈ fp,H' b=none) -> ∀ b ∈ fp,V8 X pins H' b:=fun hn b hb=>⟨hn b hb,(f2 b hb).2⟩
 refine codeAny_forLoop_any (fun n s'=>∃ i σ' H',Inv X pins σ' H' s'/\tn i s'.heap/\(∀ b ∈ fp,H' b=none)/\W i n σ' H') ?_ m0 ⟨0,σ,H2,I2,st2,fun b hb=>(f2 b hb).1,w0⟩
 rintro n s3 ⟨i,σ3,H3,I3,st3,fr3,w3⟩
 rcases turn i n σ3 H3 w3 with ⟨stop,qn⟩ | ⟨go,N,hN,step⟩
 ·refine wpAny_passesOwn hp (thn (T.done X rfl rfl rfl hc i pins s3 σ3 H3 X.xe I3 (stat fr3) st3 stop) fun r s4 zq=>?_)
  obtain ⟨hr,I4⟩:=zq
  subst hr
  exact wpAny_execs_nil ⟨σ3,H3,I4,qn⟩
 ·refine wpAny_passesOwn hp (thn (T.item X rfl rfl rfl hc i pins s3 σ3 H3 X.xe I3 (stat fr3) st3 go) fun r s4 zq=>?_)
  obtain ⟨u,hr,h4⟩:=zq
  subst hr
  refine wpAny_passesOwn hp (thn h4 fun _ s5 zq=>?_)
  obtain ⟨x,H5,I5,r5,y5,st5,fr5⟩:=zq
  have I5':=I5.pinned (stat fr5) (T.obj _ _ st5)
  refine wpAny_passesOwn hp (thn (hg _ s5 σ3 H5 x u _ I5' r5 (step x H5 y5)) fun _ s6 zq=>?_)
  obtain ⟨σ6,H6,I6,q6⟩:=zq
  refine wpAny_passesOwn hp (thn (hb _ s6 σ6 H6 _ I6 q6) fun f s7 q7=>?_)
  have again : ∀ {σ7:St} {H7:Hp},Inv X (pins++XQ fp s5.heap) σ7 H7 s7->N σ7 H7 -> ∃ m,m < n /\ ∃ i σ' H',Inv X pins σ' H' s7/\tn i s7.heap/\(∀ b ∈ fp,H' b=none)/\W i m σ' H':=fun {σ7 H7} I7 n7=>by
   obtain ⟨m',hm,w7⟩:=hN σ7 H7 n7
   refine ⟨m',hm,i+1,σ7,H7,I7.unpinned,T.keep _ _ _ st5 fun b hb o e=>(I7.pin (b,o) (mem_append_right _ (mem_append_right _ (ya hb e)))).1,fun b hb=>?_,w7⟩
   obtain ⟨o,e,d⟩:=T.obj _ _ st5 b hb
   exact (I7.pin (b,o) (mem_append_right _ (mem_append_right _ (ya hb e)))).2.1
  cases f with
  | next=>obtain ⟨σ7,H7,I7,n7⟩:=q7;exact again I7 n7
  | cont=>obtain ⟨σ7,H7,I7,n7⟩:=q7;exact again I7 n7
  | brk=>obtain ⟨σ7,H7,I7,q7⟩:=q7;exact ⟨σ7,H7,I7.unpinned,q7⟩
  | ret v=>obtain ⟨x7,σ7,H7,I7,r7,q7⟩:=q7;exact ⟨x7,σ7,H7,I7.unpinned,r7,q7⟩
end
variable {g:TG} {tb:TS} {D:kD}
theorem zAo {K:PySem.W.Frag} (Pv:Nat->St->Hp->Prop) (h0:Pv 0 σ H) (hl : ∀ i σ H,i<=xs.length->Pv i σ H->SqL K H a xs)
  (hs : ∀ i x σ H,xs[i]? = some x->Pv i σ H->g x σ H fun σ2 H2=>tb { D with nx:=Pv (i+1),ct:=Pv (i+1),bk:=D.nx } σ2 H2) (hd : ∀ σ H,Pv xs.length σ H->D.nx σ H) :
  ∃ W:Nat->Nat->St->Hp->Prop,(∃ m,W 0 m σ H) /\ ∀ i m σ H,W i m σ H ->
   ((Itl K a).stop i H/\D.nx σ H)\/((Itl K a).go i H /\ ∃ N:St->Hp->Prop,(∀ σ' H',N σ' H' -> ∃ m',m' < m/\W (i+1) m' σ' H') /\ ∀ x H',(Itl K a).yld i H x H'->g x σ H' fun σ2 H2=>tb { D with nx:=N,ct:=N,bk:=D.nx } σ2 H2):=by
 refine ⟨fun i m σ H=>m=xs.length - i/\i<=xs.length/\Pv i σ H,⟨xs.length,by simp,zero_le _,h0⟩,?_⟩
 rintro i m σ H ⟨rfl,hi,p⟩
 have q:=hl i σ H hi p
 by_cases hlt:i < xs.length
 ·refine .inr ⟨⟨xs,xs[i],q,by simp [hlt]⟩,Pv (i+1),fun σ' H' p'=>⟨xs.length - (i+1),by omega,rfl,hlt,p'⟩,fun x H' y=>?_⟩
  obtain ⟨e,y⟩:=y
  subst e
  exact hs i x σ _ (y xs q) p
 ·have e:i=xs.length:=by omega
  subst e
  exact .inl ⟨⟨xs,q,le_refl _⟩,hd σ H p⟩
theorem zC5 {K:PySem.W.Frag} (Pv:Nat->St->Hp->Prop) (h0:Pv 0 σ H) (hl : ∀ i σ H,i<=xs.length->Pv i σ H->SqT K H a xs)
  (hs : ∀ i x σ H,xs[i]? = some x->Pv i σ H->g x σ H fun σ2 H2=>tb { D with nx:=Pv (i+1),ct:=Pv (i+1),bk:=D.nx } σ2 H2) (hd : ∀ σ H,Pv xs.length σ H->D.nx σ H) :
  ∃ W:Nat->Nat->St->Hp->Prop,(∃ m,W 0 m σ H) /\ ∀ i m σ H,W i m σ H ->
   ((Itt K a).stop i H/\D.nx σ H)\/((Itt K a).go i H /\ ∃ N:St->Hp->Prop,(∀ σ' H',N σ' H' -> ∃ m',m' < m/\W (i+1) m' σ' H') /\ ∀ x H',(Itt K a).yld i H x H'->g x σ H' fun σ2 H2=>tb { D with nx:=N,ct:=N,bk:=D.nx } σ2 H2):=by
 refine ⟨fun i m σ H=>m=xs.length - i/\i<=xs.length/\Pv i σ H,⟨xs.length,by simp,zero_le _,h0⟩,?_⟩
 rintro i m σ H ⟨rfl,hi,p⟩
 have q:=hl i σ H hi p
 by_cases hlt:i < xs.length
 ·refine .inr ⟨⟨xs,xs[i],q,by simp [hlt]⟩,Pv (i+1),fun σ' H' p'=>⟨xs.length - (i+1),by omega,rfl,hlt,p'⟩,fun x H' y=>?_⟩
  obtain ⟨e,y⟩:=y
  subst e
  exact hs i x σ _ (y xs q) p
 ·have e:i=xs.length:=by omega
  subst e
  exact .inl ⟨⟨xs,q,le_refl _⟩,hd σ H p⟩
theorem Jk {lo:Int} {n:Nat} (Pv:Nat->St->Hp->Prop) (h0:Pv 0 σ H)
  (hs : ∀ i σ H,i < n->Pv i σ H->g (.int (lo+i)) σ H fun σ2 H2=>tb { D with nx:=Pv (i+1),ct:=Pv (i+1),bk:=D.nx } σ2 H2) (hd : ∀ σ H,Pv n σ H->D.nx σ H) :
  ∃ W:Nat->Nat->St->Hp->Prop,(∃ m,W 0 m σ H) /\ ∀ i m σ H,W i m σ H ->
   ((Itr lo n).stop i H/\D.nx σ H)\/((Itr lo n).go i H /\ ∃ N:St->Hp->Prop,(∀ σ' H',N σ' H' -> ∃ m',m' < m/\W (i+1) m' σ' H') /\ ∀ x H',(Itr lo n).yld i H x H'->g x σ H' fun σ2 H2=>tb { D with nx:=N,ct:=N,bk:=D.nx } σ2 H2):=by
 refine ⟨fun i m σ H=>m=n - i/\i<=n/\Pv i σ H,⟨n,by simp,zero_le _,h0⟩,?_⟩
 rintro i m σ H ⟨rfl,hi,p⟩
 by_cases hlt:i < n
 ·refine .inr ⟨hlt,Pv (i+1),fun σ' H' p'=>⟨n - (i+1),by omega,rfl,hlt,p'⟩,fun x H' y=>?_⟩
  obtain ⟨e,y⟩:=y
  subst e y
  exact hs i σ _ hlt p
 ·have e:i=n:=by omega
  subst e
  exact .inl ⟨le_refl _,hd σ H p⟩
abbrev R2:=V->V->Hp->VK->Prop
def OpR (X:Cx) (f:Value->Value->Sem Value) (r:R2):Prop:=
 ∀ (pins:List (Addr × Obj)) (s:Shared) (σ:St) (H:Hp) (x y:V) (v u:Value) (Q:VK),Inv X pins σ H s->jO x v->jO y u->r x y H Q ->
  wpAny (model X.prog X.w) X.A (f v u) (EP X pins σ Q) X.xe s
def UnR (X:Cx) (f:Value->Sem Value) (r:V->Hp->VK->Prop):Prop:=
 ∀ (pins:List (Addr × Obj)) (s:Shared) (σ:St) (H:Hp) (x:V) (v:Value) (Q:VK),Inv X pins σ H s->jO x v->r x H Q ->
  wpAny (model X.prog X.w) X.A (f v) (EP X pins σ Q) X.xe s
def jx (X:Cx) (f:Value) (r:List V->Hp->VK->Prop):Prop:=
 ∀ (pins:List (Addr × Obj)) (s:Shared) (σ:St) (H:Hp) (xs:List V) (us:List Value) (Q:VK),Inv X pins σ H s->z9 xs us->r xs H Q ->
  wpAny (model X.prog X.w) X.A (call f us) (EP X pins σ Q) X.xe s
def tOp (r:R2) (ta tb:TE):TE:=fun σ H Q=>ta σ H fun x H1=>tb σ H1 fun y H2=>r x y H2 Q
def tUn (r:V->Hp->VK->Prop) (ta:TE):TE:=fun σ H Q=>ta σ H fun x H1=>r x H1 Q
def rI (C:Int->Int->Prop) (g:Int->Int->V):R2:=fun x y H Q=>∃ i j,x = .int i/\y = .int j/\C i j/\Q (g i j) H
def rI0 (g:Int->Int->V):R2:=fun x y H Q=>∃ i j,x = .int i/\y = .int j/\Q (g i j) H
def rU (g:Int->V):V->Hp->VK->Prop:=fun x H Q=>∃ i,x = .int i/\Q (g i) H
section
variable {X : Cx} {a b c : Expr} {ta tb tc : TE} {pos : Pos}
theorem zGk (ha:PE X a ta) (hb:PE X b tb) {R:V->V->Hp->Prop} (I:Inv X pins σ H s)
  (h:ta σ H fun x H1=>tb σ H1 fun y H2=>R x y H2) {Q:Value->Shared->Prop} {f:Value->Value->Sem Value}
  (hf : ∀ v u s2 x y H2,Inv X pins σ H2 s2->jO x v->jO y u->R x y H2->wpAny (model X.prog X.w) X.A (f v u) Q X.xe s2) :
  wpAny (model X.prog X.w) X.A (eval a X.env) (fun v s₁=>wpAny (model X.prog X.w) X.A (eval b X.env) (fun u s₂=>wpAny (model X.prog X.w) X.A (f v u) Q X.xe s₂) X.xe s₁) X.xe s:=by
 refine thn (ha pins s σ H _ I h) fun v s1 zq=>?_
 obtain ⟨x,H1,I1,r1,q1⟩:=zq
 refine thn (hb pins s1 σ H1 _ I1 q1) fun u s2 zq=>?_
 obtain ⟨y,H2,I2,r2,q2⟩:=zq
 exact hf v u s2 x y H2 I2 r1 r2 q2
theorem zO {op:Operator} {r:R2} (ho:OpR X (binaryOp op) r) (ha:PE X a ta) (hb:PE X b tb):PE X (.BinOp a op b pos) (tOp r ta tb):=by
 intro pins s σ H Q I h
 exact wpAny_BinOp (zGk ha hb I h fun v u s2 x y H2 I2 rx ry q=>ho pins s2 σ H2 x y v u Q I2 rx ry q)
theorem wY {op:UnaryOp} {r:V->Hp->VK->Prop} (ho:UnR X (unaryOp op) r) (ha:PE X a ta):PE X (.UnaryOp op a pos) (tUn r ta):=by
 intro pins s σ H Q I h
 exact UnaryOp_ (thn (ha pins s σ H _ I h) fun v s1 ⟨x,H1,I1,r1,q1⟩=>ho pins s1 σ H1 x v Q I1 r1 q1)
theorem opI {f:Value->Value->Sem Value} {C:Int->Int->Prop} {g:Int->Int->Int}
  (rule : ∀ (i j:Int) (t u:Tok) (s:Shared) (Q:Value->Shared->Prop) (E:Value->Shared->Prop),C i j->Q (.int (g i j) s.toks) { s with toks:=s.toks+1 }->wpAny (model X.prog X.w) X.A (f (.int i t) (.int j u)) Q E s) :
  OpR X f (rI C fun i j=>.int (g i j)):=by
 intro pins s σ H x y v u Q I rx ry h
 obtain ⟨i,j,rfl,rfl,hc,q⟩:=h
 obtain ⟨t,rfl⟩:=rx
 obtain ⟨t',rfl⟩:=ry
 exact rule i j t t' s _ _ hc ⟨.int (g i j),H,I.tok _,⟨_,rfl⟩,q⟩
theorem zHN {f:Value->Value->Sem Value} {g:Int->Int->Int}
  (rule : ∀ (i j:Int) (t u:Tok) (s:Shared) (Q:Value->Shared->Prop) (E:Value->Shared->Prop),Q (.int (g i j) s.toks) { s with toks:=s.toks+1 }->wpAny (model X.prog X.w) X.A (f (.int i t) (.int j u)) Q E s) :
  OpR X f (rI0 fun i j=>.int (g i j)):=by
 intro pins s σ H x y v u Q I rx ry h
 obtain ⟨i,j,rfl,rfl,q⟩:=h
 obtain ⟨t,rfl⟩:=rx
 obtain ⟨t',rfl⟩:=ry
 exact rule i j t t' s _ _ ⟨.int (g i j),H,I.tok _,⟨_,rfl⟩,q⟩
theorem zGH {f:Value->Value->Sem Value} {g:Int->Int->Bool}
  (rule : ∀ (i j:Int) (t u:Tok) (s:Shared) (Q:Value->Shared->Prop) (E:Value->Shared->Prop),Q (.bool (g i j)) s->wpAny (model X.prog X.w) X.A (f (.int i t) (.int j u)) Q E s) :
  OpR X f (rI0 fun i j=>.bl (g i j)):=by
 intro pins s σ H x y v u Q I rx ry h
 obtain ⟨i,j,rfl,rfl,q⟩:=h
 obtain ⟨t,rfl⟩:=rx
 obtain ⟨t',rfl⟩:=ry
 exact rule i j t t' s _ _ ⟨.bl (g i j),H,I,rfl,q⟩
def zGl (i j:Int):Prop:=0<=j/\j<=1000000/\i.natAbs < 2 ^ 64
def zD7 (i j:Int):Prop:=(-(2 ^ 64) < i/\i < 2 ^ 64)\/(-(2 ^ 64) < j/\j < 2 ^ 64)
theorem zD7.ok {i j:Int} (h:zD7 i j):IntMulOk i j:=by
 rcases h with ⟨h1,h2⟩ | ⟨h1,h2⟩
 ·exact .of_left (intBits_le_64 h1 h2)
 ·exact .of_right (intBits_le_64 h1 h2)
theorem two_pow_nn (k:Nat):(0:Int)<=2 ^ k:=by
 rw [two_pow_cast]
 exact Int.natCast_nonneg _
theorem zv:OpR X (binaryOp .Add) (rI0 fun i j=>.int (i+j)):=zHN fun _ _ _ _ _ _ _ q=>add_int q
theorem jF:OpR X (binaryOp .Sub) (rI0 fun i j=>.int (i - j)):=zHN fun _ _ _ _ _ _ _ q=>sub_int q
theorem zE8:OpR X (binaryOp .Mod) (rI (fun _ j=>0 < j) fun i j=>.int (i % j)):=opI fun i j _ _ _ _ _ hc q=>by
 have h1:(0:Int) < j:=hc
 exact mod_int' (by omega) (by rw [Int.fmod_eq_emod_of_nonneg i (by omega)];exact q)
theorem zET:OpR X (binaryOp .Pow) (rI zGl fun i j=>.int (i ^ j.toNat)):=opI fun _ _ _ _ _ _ _ hc q=>pow_int_small hc.1 hc.2.1 hc.2.2 q
theorem zD2:OpR X (binaryOp .RShift) (rI (fun _ j=>0<=j) fun i j=>.int (i / 2 ^ j.toNat)):=opI fun i j _ _ _ _ _ hc q =>
 rshift_int hc (by rw [Int.fdiv_eq_ediv_of_nonneg i (two_pow_nn _)];exact q)
theorem unI {f:Value->Sem Value} {g:Int->Int}
  (rule : ∀ (i:Int) (t:Tok) (s:Shared) (Q:Value->Shared->Prop) (E:Value->Shared->Prop),Q (.int (g i) s.toks) { s with toks:=s.toks+1 }->wpAny (model X.prog X.w) X.A (f (.int i t)) Q E s) :
  UnR X f (rU fun i=>.int (g i)):=by
 intro pins s σ H x v Q I rx h
 obtain ⟨i,rfl,q⟩:=h
 obtain ⟨t,rfl⟩:=rx
 exact rule i t s _ _ ⟨.int (g i),H,I.tok _,⟨_,rfl⟩,q⟩
theorem xy:UnR X (unaryOp .USub) (rU fun i=>.int (-i)):=unI fun _ _ _ _ _ q=>neg_int q
end
def zHb:V->V->Bool
 | .non,.non=>true | .non,.int _=>true | .int _,.non=>true | .non,.bl _=>true | .bl _,.non=>true | .non,.str _=>true | .str _,.non=>true
 | .int _,.int _=>true | .bl _,.bl _=>true | .str _,.str _=>true | .byt _,.byt _=>true
 | .int _,.str _=>true | .str _,.int _=>true | .bl _,.str _=>true | .str _,.bl _=>true
 | _,_=>false
def rEq:R2:=fun x y H Q=>zHb x y=true/\Q (.bl (decide (x=y))) H
def rNe:R2:=fun x y H Q=>zHb x y=true/\Q (.bl (!decide (x=y))) H
theorem Wj {i j:Int}:decide (V.int i=V.int j)=(i == j):=by
 rw [Bool.eq_iff_iff]
 simp
theorem zBV {i j:Bool}:decide (V.bl i=V.bl j)=(i == j):=by
 rw [Bool.eq_iff_iff]
 simp
theorem WC {i j:Str}:decide (V.str i=V.str j)=(i == j):=by
 rw [Bool.eq_iff_iff]
 simp
theorem K1 {i j:Array UInt8}:decide (V.byt i=V.byt j)=(i.toList == j.toList):=by
 rw [Bool.eq_iff_iff]
 cases i
 cases j
 simp
section
variable {X : Cx} {a b c : Expr} {ta tb tc : TE} {pos : Pos}
theorem z5 {Q:VK} {k k':Bool} (I:Inv X pins σ H s) (q:Q (.bl k) H) (e:k=k'):EP X pins σ Q (.bool k') s:=by
 subst e
 exact ⟨.bl k,H,I,rfl,q⟩
theorem qw:OpR X (compareOp .Eq) rEq:=by
 intro pins s σ H x y v u Q I rx ry h
 obtain ⟨hs,q⟩:=h
 cases x with
 | non =>
  cases rx
  cases y with
  | non=>cases ry;exact PySem.EqNone.eq_none_none (z5 I q (by simp))
  | bl j=>cases ry;exact PySem.EqNone.eq_none_bool (z5 I q (by simp))
  | int j=>obtain ⟨t',rfl⟩:=ry;exact PySem.EqNone.eq_none_int (z5 I q (by simp))
  | str j=>obtain ⟨t',rfl⟩:=ry;exact PySem.EqNone.eq_none_str (z5 I q (by simp))
  | _=>exact absurd (show false=true from hs) Bool.false_ne_true
 | bl i =>
  cases rx
  cases y with
  | non=>cases ry;exact PySem.EqNone.eq_bool_none (z5 I q (by simp))
  | bl j=>cases ry;exact eq_bool (z5 I q zBV)
  | str j=>obtain ⟨t',rfl⟩:=ry;exact PySem.EqMixed.eq_bool_str (z5 I q (by simp))
  | _=>exact absurd (show false=true from hs) Bool.false_ne_true
 | int i =>
  obtain ⟨t,rfl⟩:=rx
  cases y with
  | non=>cases ry;exact PySem.EqNone.eq_int_none (z5 I q (by simp))
  | int j=>obtain ⟨t',rfl⟩:=ry;exact eq_int (z5 I q Wj)
  | str j=>obtain ⟨t',rfl⟩:=ry;exact PySem.EqMixed.eq_int_str (z5 I q (by simp))
  | _=>exact absurd (show false=true from hs) Bool.false_ne_true
 | str i =>
  obtain ⟨t,rfl⟩:=rx
  cases y with
  | non=>cases ry;exact PySem.EqNone.eq_str_none (z5 I q (by simp))
  | bl j=>cases ry;exact PySem.EqMixed.eq_str_bool (z5 I q (by simp))
  | int j=>obtain ⟨t',rfl⟩:=ry;exact PySem.EqMixed.eq_str_int (z5 I q (by simp))
  | str j=>obtain ⟨t',rfl⟩:=ry;exact eq_str (z5 I q WC)
  | _=>exact absurd (show false=true from hs) Bool.false_ne_true
 | byt i =>
  obtain ⟨t,rfl⟩:=rx
  cases y with
  | byt j=>obtain ⟨t',rfl⟩:=ry;exact W.eq_bytes (z5 I q K1)
  | _=>exact absurd (show false=true from hs) Bool.false_ne_true
 | _=>cases y <;> exact absurd (show false=true from hs) Bool.false_ne_true
theorem Xk:OpR X (compareOp .NotEq) rNe:=by
 intro pins s σ H x y v u Q I rx ry h
 obtain ⟨hs,q⟩:=h
 cases x with
 | non =>
  cases rx
  cases y with
  | non=>cases ry;exact PySem.EqNone.ne_none_none (z5 I q (by simp))
  | bl j=>cases ry;exact PySem.EqNone.ne_none_bool (z5 I q (by simp))
  | int j=>obtain ⟨t',rfl⟩:=ry;exact PySem.EqNone.ne_none_int (z5 I q (by simp))
  | str j=>obtain ⟨t',rfl⟩:=ry;exact PySem.EqNone.ne_none_str (z5 I q (by simp))
  | _=>exact absurd (show false=true from hs) Bool.false_ne_true
 | bl i =>
  cases rx
  cases y with
  | non=>cases ry;exact PySem.EqNone.ne_bool_none (z5 I q (by simp))
  | bl j=>cases ry;exact ne_bool (z5 I q (congrArg not zBV))
  | str j=>obtain ⟨t',rfl⟩:=ry;exact PySem.EqMixed.ne_bool_str (z5 I q (by simp))
  | _=>exact absurd (show false=true from hs) Bool.false_ne_true
 | int i =>
  obtain ⟨t,rfl⟩:=rx
  cases y with
  | non=>cases ry;exact PySem.EqNone.ne_int_none (z5 I q (by simp))
  | int j=>obtain ⟨t',rfl⟩:=ry;exact ne_int (z5 I q (congrArg not Wj))
  | str j=>obtain ⟨t',rfl⟩:=ry;exact PySem.EqMixed.ne_int_str (z5 I q (by simp))
  | _=>exact absurd (show false=true from hs) Bool.false_ne_true
 | str i =>
  obtain ⟨t,rfl⟩:=rx
  cases y with
  | non=>cases ry;exact PySem.EqNone.ne_str_none (z5 I q (by simp))
  | bl j=>cases ry;exact PySem.EqMixed.ne_str_bool (z5 I q (by simp))
  | int j=>obtain ⟨t',rfl⟩:=ry;exact PySem.EqMixed.ne_str_int (z5 I q (by simp))
  | str j=>obtain ⟨t',rfl⟩:=ry;exact ne_str (z5 I q (congrArg not WC))
  | _=>exact absurd (show false=true from hs) Bool.false_ne_true
 | byt i =>
  obtain ⟨t,rfl⟩:=rx
  cases y with
  | byt j=>obtain ⟨t',rfl⟩:=ry;exact W.ne_bytes (z5 I q (congrArg not K1))
  | _=>exact absurd (show false=true from hs) Bool.false_ne_true
 | _=>cases y <;> exact absurd (show false=true from hs) Bool.false_ne_true
theorem XM:OpR X (compareOp .Lt) (rI0 fun i j=>.bl (decide (i < j))):=zGH fun _ _ _ _ _ _ _ q=>lt_int q
theorem Vs:OpR X (compareOp .LtE) (rI0 fun i j=>.bl (decide (i<=j))):=zGH fun _ _ _ _ _ _ _ q=>le_int q
theorem ko:OpR X (compareOp .Gt) (rI0 fun i j=>.bl (decide (j < i))):=zGH fun _ _ _ _ _ _ _ q=>gt_int q
theorem zBD:OpR X (compareOp .GtE) (rI0 fun i j=>.bl (decide (j<=i))):=zGH fun _ _ _ _ _ _ _ q=>ge_int q
theorem K4:OpR X (compareOp .In) (fun x y H Q=>∃ i j,x = .str i/\y = .str j/\Q (.bl (!(Builtin.Str.occurrences j i 0 j.length 1).isEmpty)) H):=by
 intro pins s σ H x y v u Q I rx ry h
 obtain ⟨i,j,rfl,rfl,q⟩:=h
 obtain ⟨t,rfl⟩:=rx
 obtain ⟨t',rfl⟩:=ry
 exact in_str (z5 I q rfl)
theorem zFh:OpR X (compareOp .Is) (fun x y H Q=>y = .non/\Q (.bl (decide (x = .non))) H):=by
 intro pins s σ H x y v u Q I rx ry h
 obtain ⟨rfl,q⟩:=h
 cases ry
 refine is_none_gen (z5 I q ?_)
 cases x <;> first
  | (cases rx;rfl)
  | (obtain ⟨t,rfl⟩:=rx;rfl)
theorem zC3:OpR X (compareOp .IsNot) (fun x y H Q=>y = .non/\Q (.bl (!decide (x = .non))) H):=by
 intro pins s σ H x y v u Q I rx ry h
 obtain ⟨rfl,q⟩:=h
 cases ry
 refine isnot_none_gen (z5 I q ?_)
 cases x <;> first
  | (cases rx;rfl)
  | (obtain ⟨t,rfl⟩:=rx;rfl)
variable {op:CmpOp}
theorem zU (b:Expr) (h:op ≠ .In:=by decide) (h2:op ≠ .NotIn:=by decide):behindInMarks op b=false:=by
 have e1:(op == CmpOp.In)=false:=by cases op <;> first | rfl | exact absurd rfl h
 have e2:(op == CmpOp.NotIn)=false:=by cases op <;> first | rfl | exact absurd rfl h2
 cases b <;> simp [behindInMarks,e1,e2]
variable {r:R2}
theorem jW (ho:OpR X (compareOp op) r) (ha:PE X a ta) (hb:PE X b tb) (hm:behindInMarks op b=false):PE X (.Compare a [op] [b] pos) (tOp r ta tb):=by
 intro pins s σ H Q I h
 exact wpAny_Compare1 (zGk ha hb I h fun v u s2 x y H2 I2 rx ry q=>ho pins s2 σ H2 x y v u Q I2 rx ry q) hm
def zCv (t:TE):TT:=fun σ H Q=>t σ H fun x H'=>∃ k,x = .bl k/\Q k H'
theorem zS (ho:OpR X (compareOp op) r) (ha:PE X a ta) (hb:PE X b tb) (hm:behindInMarks op b=false):PT X (.Compare a [op] [b] pos) (zCv (tOp r ta tb)):=by
 intro pins s σ H Q I h
 refine wpAny_isTrue_Compare1 (thn (ha pins s σ H _ I h) fun v s1 ⟨x,H1,I1,r1,q1⟩=>thn (hb pins s1 σ H1 _ I1 q1) fun u s2 ⟨y,H2,I2,r2,q2⟩ =>
  thn (ho pins s2 σ H2 x y v u _ I2 r1 r2 q2) fun c s3 ⟨z,H3,I3,r3,k,e,q3⟩=>?_) hm
 subst e
 cases r3
 exact wpAny_truthy_bool ⟨H3,I3,q3⟩
def zBM (r r':R2) (ta tb tc:TE):TE:=fun σ H Q=>ta σ H fun x H1=>tb σ H1 fun y H2=>r x y H2 fun z H3=>∃ k,z = .bl k /\
 (if k=true then tc σ H3 fun w' H4=>r' y w' H4 Q else Q (.bl false) H3)
theorem Q5 {op':CmpOp} {r':R2} (ho:OpR X (compareOp op) r) (ho':OpR X (compareOp op') r') (ha:PE X a ta) (hb:PE X b tb) (hc:PE X c tc)
  (hm:lastMarks [op,op'] [b,c]=false:=by with_unfolding_all rfl):PT X (.Compare a [op,op'] [b,c] pos) (zCv (zBM r r' ta tb tc)):=by
 intro pins s σ H Q I h
 refine isTrue_chain (thn (ha pins s σ H _ I h) fun v s1 ⟨x,H1,I1,r1,q1⟩=>test_link (thn (hb pins s1 σ H1 _ I1 q1) fun u s2 ⟨y,H2,I2,r2,q2⟩ =>
  thn (ho pins s2 σ H2 x y v u _ I2 r1 r2 q2) fun d s3 ⟨z,H3,I3,r3,k,e,q3⟩=>?_)) hm
 subst e
 cases r3
 refine wpAny_truthy_bool ?_
 cases k with
 | false =>
  obtain ⟨k',e',q'⟩:=q3
  cases e'
  exact ite_ff ⟨H3,I3,q'⟩
 | true =>
  refine ite_tt (test_last (thn (hc pins s3 σ H3 _ I3 q3) fun w' s4 ⟨z',H4,I4,r4,q4⟩=>thn (ho' pins s4 σ H4 y z' u w' _ I4 r2 r4 q4) fun d' s5 zq=>?_))
  obtain ⟨z2,H5,I5,r5,k2,e2,q5⟩:=zq
  subst e2
  cases r5
  exact wpAny_truthy_bool ⟨H5,I5,q5⟩
theorem Jd:(sizeLine:Nat) < 2 ^ 63:=by rw [sizeLine_eq];decide
theorem Ve:OpR X (binaryOp .Add) (fun x y H Q=>∃ i j,x = .str i/\y = .str j/\i.length+j.length<=sizeLine/\Q (.str (i++j)) H):=by
 intro pins s σ H x y v u Q I rx ry h
 obtain ⟨i,j,rfl,rfl,hz,q⟩:=h
 obtain ⟨t,rfl⟩:=rx
 obtain ⟨t',rfl⟩:=ry
 exact add_str (fun t' tk=>⟨.str (i++j),H,I.tok _,⟨_,rfl⟩,q⟩) hz
theorem JH (r:z9 [x] us) : ∃ u,us=[u]/\jO x u:=by
 cases r with
 | cons r1 r2=>cases r2;exact ⟨_,rfl,r1⟩
theorem zCh (r:z9 [x,y] us) : ∃ u w',us=[u,w']/\jO x u/\jO y w':=by
 cases r with
 | cons r1 r2 =>
  cases r2 with
  | cons r3 r4=>cases r4;exact ⟨_,_,rfl,r1,r3⟩
theorem zA2:jx X (.builtin "abs") (fun xs H Q=>∃ i,xs=[.int i]/\Q (.int (if i < 0 then -i else i)) H):=by
 intro pins s σ H xs us Q I r h
 obtain ⟨i,rfl,q⟩:=h
 obtain ⟨u,rfl,t,rfl⟩:=JH r
 exact call_abs_int fun u tk=>⟨.int (if i < 0 then -i else i),H,I.tok _,⟨_,rfl⟩,q⟩
theorem WW (hc:X.calm=true):jx X (.builtin "max") (fun xs H Q=>∃ i j,xs=[.int i,.int j]/\Q (.int (if j > i then j else i)) H):=by
 intro pins s σ H xs us Q I r h
 obtain ⟨i,j,rfl,q⟩:=h
 obtain ⟨u,w',rfl,⟨t,rfl⟩,⟨t',rfl⟩⟩:=zCh r
 refine max_two_ints (I.ok.hd hc) fun h' tk k=>⟨_,H,I.kept k,?_,q⟩
 by_cases hj:j > i
 ·rw [if_pos hj,if_pos hj];exact ⟨_,rfl⟩
 ·rw [if_neg hj,if_neg hj];exact ⟨_,rfl⟩
theorem Ku (hc:X.calm=true):jx X (.builtin "min") (fun xs H Q=>∃ i j,xs=[.int i,.int j]/\Q (.int (if j < i then j else i)) H):=by
 intro pins s σ H xs us Q I r h
 obtain ⟨i,j,rfl,q⟩:=h
 obtain ⟨u,w',rfl,⟨t,rfl⟩,⟨t',rfl⟩⟩:=zCh r
 refine min_two_ints (I.ok.hd hc) fun h' tk k=>⟨_,H,I.kept k,?_,q⟩
 by_cases hj:j < i
 ·rw [if_pos hj,if_pos hj];exact ⟨_,rfl⟩
 ·rw [if_neg hj,if_neg hj];exact ⟨_,rfl⟩
theorem WR:jx X (.type "int") (fun xs H Q=>(∃ i,xs=[.int i]/\Q (.int i) H) \/ ∃ k,xs=[.bl k]/\Q (.int (if k then 1 else 0)) H):=by
 intro pins s σ H xs us Q I r h
 rcases h with ⟨i,rfl,q⟩ | ⟨k,rfl,q⟩
 ·obtain ⟨u,rfl,t,rfl⟩:=JH r
  exact call_int_int ⟨.int i,H,I,⟨_,rfl⟩,q⟩
 ·obtain ⟨u,rfl,r1⟩:=JH r
  cases r1
  exact call_int_bool ⟨.int (if k then 1 else 0),H,I.tok _,⟨_,rfl⟩,q⟩
end
structure zCq (h:Heap) (x dx C:Addr) (mA:Str->Option Value):Prop where
 obj:h.get? x=some (W.instObj C dx)
 ns:h.Ns1 dx mA
 ne:dx≠x
theorem KU {dx:Addr} {mA:Str->Option Value} (n:h.Ns1 dx mA) : ∃ od,h.get? dx=some od /\ ∀ name,W.lookIn name od=some (mA name):=by
 obtain ⟨o,es,ep,ho,hd,hk,_,hm⟩:=n
 refine ⟨o,ho,fun name=>?_⟩
 have e:=hm name
 unfold nsFind findBy at e
 rw [<- Array.find?_toList] at e
 unfold W.lookIn
 rw [hd]
 dsimp only
 split
 ·rename_i y q
  rw [q] at e
  exact congrArg some e
 ·rename_i q
  rw [q] at e
  have a:es.toList.any (·.refKey)=false:=by
   rw [List.any_eq_false]
   intro y hy
   obtain ⟨z,t,hkey⟩:=hk y (Array.mem_toList_iff.mp hy)
   simp [DictEntry.refKey,hkey]
  have a' : ¬ es.toList.any (·.refKey)=true:=by rw [a];exact Bool.false_ne_true
  rw [if_neg a']
  exact congrArg some e
variable {C:Addr}
theorem zCq.look {x dx:Addr} {mA:Str->Option Value} (I:zCq h x dx C mA) : ∃ od,W.InstAt h x (W.instObj C dx) C (some od) /\ ∀ name,W.lookIn name od=some (mA name):=
 let ⟨od,ho,hl⟩:=KU I.ns
 ⟨od,⟨I.obj,rfl,rfl,ho⟩,hl⟩
section
variable {prog : Program} {w : World} {A : Around} {E : Value -> Shared -> Prop} {s : Shared} {K : W.Frag} {x dx C f : Addr} {mA : Str -> Option Value} {name : Str} {v : Value}
theorem zCy {expr:Bool} {Q:Value->Shared->Prop} (X:K.In s.heap) (I:zCq s.heap x dx C mA) (hg:W.plainGet K C name=true) (hh:W.hasDictIn K C=true)
  (ha:W.findIn K (.ref C) name=some none) (hv:mA name=some v) (hv':W.handedIn v=true) (h:Q v { s with toks:=s.toks+1 }) :
  wpAny (model prog w) A (getAttr (.ref x) name expr) Q E s:=by
 obtain ⟨od,J,hl⟩:=I.look
 exact W.get_value X J (W.plainGet_of hg).1 (W.findObj_own hh ha rfl (by rw [hl,hv])) hv' h
theorem zAl {pl:Sem Bool} {Q:Value × List Value->Shared->Prop} (X:K.In s.heap) (I:zCq s.heap x dx C mA) (hg:W.plainGet K C name=true)
  (hf:W.findIn K (.ref C) name=some (some (.ref f))) (ht:W.isFn K (.ref f)=true) (hv:mA name=none) (h:Q (.ref f,[.ref x]) s) :
  wpAny (model prog w) A (getMethod (.ref x) name pl) Q E s:=by
 obtain ⟨od,J,hl⟩:=I.look
 exact W.method_fn X J (W.plainGet_of hg).1 (W.plainGet_of hg).2 hf (beq_iff_eq.mp ht) (by show (W.lookIn name od).map (·.isSome)=some false;rw [hl,hv];rfl) h
theorem zCe {ns:List Str} (X:K.In s.heap) (I:zCq s.heap x dx C mA)
  (hs:W.findIn K (.ref C) "__setattr__" = some (some (.builtin "object.__setattr__"))) (hp:W.plainOver K C=true) (ht:W.takerIn K C name=some none) (hh:W.hasDictIn K C=true)
  (hw:PySem.Within mA ns) (hsz:ns.length<=sizeLine)
  (h : ∀ h',zCq h' x dx C (fun y=>if y=name then some v else mA y)->Heap.SameBut dx s.heap h'->Q () { s with heap:=h',toks:=s.toks+2 }) :
  wpAny (model prog w) A (setAttr (.ref x) name v) Q E s:=by
 obtain ⟨od,J,hl⟩:=I.look
 refine W.set_plain X J hs (W.osa_open (s:={ s with toks:=s.toks+1 }) (r:=none) X J hp ht fun b=>?_)
 obtain ⟨cd,hc,hd'⟩:=W.any_some hh
 have hx:s.heap.get? x=some ⟨.ref C,some dx,.plain,#[]⟩:=I.obj
 refine wpAny_bind (wpAny_pure (wpAny_bind (wpAny_bind (wpAny_loadPart hx (wpAny_bind (W.Looks.here (s:={ s with toks:=s.toks+1 }) (W.looks_clsIn X hc) ?_))))))
 rw [hd']
 refine wpAny_pure (a:=some dx) (wpAny_bind (wpAny_pure (wpAny_bind ?_)))
 refine wpAny_nsSet1 (s:={ s with toks:=s.toks+1 }) I.ns fun h' hn2 hs2=>?_
 obtain ⟨oD,esD,epD,hoD,hdD,hcD⟩:=hn2.count (PySem.Within.cons name v hw)
 refine wpAny_bind (wpAny_lookBehind hoD (by rw [hdD];exact pastItsLine_dict (le_trans hcD (by rw [length_cons];omega))) ?_)
 exact wpAny_pure (h _ ⟨(hs2.2 _ (Ne.symm I.ne)).trans I.obj,hn2,I.ne⟩ hs2)
theorem zAQ {R:Result->Shared->Prop} {vs:List Value} {kw:List (Str × Value)} (X:K.In s.heap) (hm:W.makesIn K C=true)
  (hi:W.findIn K (.ref C) "__init__" = some (some (.ref f))) (hf:W.typeIn K (.ref f)=some (.type "function"))
  (h:codeAny (model prog w) (A.under (.builtin "type.__call__" ⟨.ref C::vs,kw⟩)) (.call (.ref f) ⟨.ref (s.heap.objs.size+1)::vs,kw⟩) (W.InitBack (s.heap.objs.size+1) R)
   { s with heap:=(s.heap.push W.emptyDict).push (W.instObj C s.heap.objs.size) }) :
  codeAny (model prog w) A (.call (.ref C) ⟨vs,kw⟩) R s:=by
 obtain ⟨hh,g,d,t,os⟩:=s
 exact W.make_core (W.makes_of X hm) (W.looks_findIn X hi) (fun self=>W.bind_fn X self hf) (.inl rfl) h
end
def ZC (f:Str) (v:V):List (Str × V)->List (Str × V)
 | []=>[(f,v)]
 | (g,x)::r=>if g=f then (g,v)::r else (g,x)::ZC f v r
theorem ZV (f g:Str) (v:V) : ∀ fs:List (Str × V),(ZC f v fs).lookup g=if g=f then some v else fs.lookup g
 | []=>by
  show List.lookup g [(f,v)]=_
  by_cases h:g=f
  ·have hb:(g == f)=true:=beq_iff_eq.mpr h
   simp only [List.lookup,hb,if_pos h]
  ·have hb:(g == f)=false:=beq_eq_false_iff_ne.mpr h
   simp only [List.lookup,hb,if_neg h]
 | (k,x)::r=>by
  have ih:=ZV f g v r
  rw [show ZC f v ((k,x)::r)=(if k=f then (k,v)::r else (k,x)::ZC f v r) from rfl]
  by_cases hk:k=f
  ·rw [if_pos hk]
   by_cases h:g=k
   ·have hb:(g == k)=true:=beq_iff_eq.mpr h
    simp only [List.lookup,hb,if_pos (h.trans hk)]
   ·have hb:(g == k)=false:=beq_eq_false_iff_ne.mpr h
    simp only [List.lookup,hb,if_neg (fun e:g=f=>h (e.trans hk.symm))]
  ·rw [if_neg hk]
   by_cases h:g=k
   ·have hb:(g == k)=true:=beq_iff_eq.mpr h
    simp only [List.lookup,hb,if_neg (fun e:g=f=>hk (h.symm.trans e))]
   ·have hb:(g == k)=false:=beq_eq_false_iff_ne.mpr h
    simp only [List.lookup,hb]
    exact ih
theorem ZX (f:Str) (v:V) : ∀ fs:List (Str × V),f ∈ (ZC f v fs).map (·.1) /\ ∀ g,g ∈ fs.map (·.1)->g ∈ (ZC f v fs).map (·.1)
 | []=>⟨by simp [ZC],fun g h=>by simp at h⟩
 | (k,x)::r=>by
  obtain ⟨i1,i2⟩:=ZX f v r
  rw [show ZC f v ((k,x)::r)=(if k=f then (k,v)::r else (k,x)::ZC f v r) from rfl]
  by_cases hk:k=f
  ·rw [if_pos hk]
   subst hk
   exact ⟨by simp,fun g h=>by simpa using h⟩
  ·rw [if_neg hk]
   refine ⟨?_,fun g h=>?_⟩
   ·rw [List.map_cons]
    exact mem_cons_of_mem _ i1
   ·rw [List.map_cons] at h ⊢
    rcases List.mem_cons.mp h with e | e
    ·exact List.mem_cons.mpr (.inl e)
    ·exact mem_cons_of_mem _ (i2 g e)
theorem QA (f:Str) (v:V) : ∀ fs:List (Str × V),(ZC f v fs).length<=fs.length+1
 | []=>by simp [ZC]
 | (k,x)::r=>by
  have ih:=QA f v r
  rw [show ZC f v ((k,x)::r)=(if k=f then (k,v)::r else (k,x)::ZC f v r) from rfl]
  by_cases hk:k=f
  ·rw [if_pos hk,length_cons,length_cons];omega
  ·rw [if_neg hk,length_cons,length_cons];omega
theorem W3.some_of {v:V} {o:Option Value} (r:W3 (some v) o) : ∃ u,o=some u/\jO v u:=by
 cases o with
 | none=>exact (show False from r).elim
 | some u=>exact ⟨u,rfl,r⟩
theorem W3.none_of {o:Option Value} (r:W3 none o):o=none:=by
 cases o with
 | none=>rfl
 | some u=>exact (show False from r).elim
theorem KZ {v:V} {u:Value} (r:jO v u):W.handedIn u=true:=by
 cases v with
 | non=>cases (show u=Value.none from r);rfl
 | bl b=>cases (show u=Value.bool b from r);rfl
 | int i=>obtain ⟨t,e⟩:=(show ∃ t,u=Value.int i t from r);cases e;rfl
 | str x=>obtain ⟨t,e⟩:=(show ∃ t,u=Value.str x t from r);cases e;rfl
 | byt b=>obtain ⟨t,e⟩:=(show ∃ t,u=Value.bytes b t from r);cases e;rfl
 | flt b=>obtain ⟨t,e⟩:=(show ∃ t,u=Value.float b t from r);cases e;rfl
 | ref a=>cases (show u=Value.ref a from r);rfl
 | ty n=>cases (show u=Value.type n from r);rfl
section
variable {P : Program} {w : World} {H H' : Hp} {h h' : Heap} {a C dx : Addr} {fs fs' : List (Str × V)}
theorem Q0 (hok:HOk P w H h) (e:H a=some (.ins C dx fs)) : ∃ mA,zCq h a dx C mA/\(∀ f,W3 (fs.lookup f) (mA f))/\PySem.Within mA (fs.map (·.1))/\fs.length<=1000/\H dx=some (.own a):=by
 obtain ⟨d,z,ne,ob,mA,n,r,q⟩:=(show jr P w H h a (.ins C dx fs) from hok a _ e)
 exact ⟨mA,⟨ob,n,ne⟩,r,q,z,d⟩
end
structure Cls (K:W.Frag) (C:Addr):Prop where
 pg:W.plainGet K C Str.empty=true
 hd:W.hasDictIn K C=true
 po:W.plainOver K C=true
 sa:W.findIn K (.ref C) "__setattr__" = some (some (.builtin "object.__setattr__"))
theorem Cls.get (c:Cls K C) (f:Str):W.plainGet K C f=true:=c.pg
def xv (K:W.Frag) (C:Addr) (f:Str):Prop:=W.findIn K (.ref C) f=some none
theorem xv.taker {f:Str} (n:xv K C f):W.takerIn K C f=some none:=by
 unfold W.takerIn
 rw [show W.findIn K (.ref C) f=some none from n]
 rfl
structure zGX (K:W.Frag) (C:Addr) (m:Str) (f:Addr):Prop where
 at_:W.findIn K (.ref C) m=some (some (.ref f))
 fn:W.isFn K (.ref f)=true
 kp:W.keepIn K (.ref f)=true
section
variable {X : Cx} {pins : List (Addr × Obj)} {σ : St} {H : Hp} {s : Shared} {a C dx : Addr} {fs : List (Str × V)} {f : Str} {v : V} {A : Around} {E : Value -> Shared -> Prop}
theorem Vr {b:Bool} {Q:Value->Shared->Prop} (I:Inv X pins σ H s) (e:H a=some (.ins C dx fs)) (c:Cls X.K C) (n:xv X.K C f) (l:fs.lookup f=some v)
  (h : ∀ u s',Inv X pins σ H s'->jO v u->Q u s'):wpAny (model X.prog X.w) A (getAttr (.ref a) f b) Q E s:=by
 obtain ⟨mA,O,r,_,_,_⟩:=Q0 I.hok e
 obtain ⟨u,hu,ru⟩:=W3.some_of (v:=v) (o:=mA f) (by rw [<- l];exact r f)
 exact zCy I.kIn O (c.get f) c.hd n hu (KZ ru) (h u _ (I.tok _) ru)
theorem Y3 {m:Str} {g:Addr} {pl:Sem Bool} {Q:Value × List Value->Shared->Prop} (I:Inv X pins σ H s) (e:H a=some (.ins C dx fs)) (c:Cls X.K C) (k:zGX X.K C m g) (l:fs.lookup m=none)
  (h:Q (.ref g,[.ref a]) s):wpAny (model X.prog X.w) A (getMethod (.ref a) m pl) Q E s:=by
 obtain ⟨mA,O,r,_,_,_⟩:=Q0 I.hok e
 have hn:mA m=none:=W3.none_of (by rw [<- l];exact r m)
 exact zAl I.kIn O (c.get m) k.at_ k.fn hn h
theorem Y8 {u:Value} (I:Inv X pins σ H s) (e:H a=some (.ins C dx fs)) (c:Cls X.K C) (n:xv X.K C f) (hl:fs.length < 1000) (ry:jO y u)
  (h : ∀ s',Inv X pins σ (upd H a (.ins C dx (ZC f y fs))) s'->Q () s'):wpAny (model X.prog X.w) A (setAttr (.ref a) f u) Q E s:=by
 obtain ⟨mA,O,r,wi,_,ho⟩:=Q0 I.hok e
 have hz:(fs.map (·.1)).length<=sizeLine:=by rw [List.length_map,sizeLine_eq];omega
 refine zCe I.kIn O c.sa c.po n.taker c.hd wi hz fun h' O' sb=>h _ ?_
 have hd : ∃ o,h'.get? dx=some o:=let ⟨o,_,_,e',_⟩:=O'.ns;⟨o,e'⟩
 refine I.write (x:=a) (e:=dx) (by rw [e];exact True.intro) (.inr ho) (fun b q hb z=>(sb.2 b hb).trans z) hd ?_
 refine ⟨by rw [qB O.ne];exact ho,?_,O.ne,O'.obj,_,O'.ns,fun g=>?_,fun g hg=>?_⟩
 ·have:=QA f y fs;omega
 ·show W3 ((ZC f y fs).lookup g) (if g=f then some u else mA g)
  rw [ZV]
  by_cases q:g=f
  ·rw [if_pos q,if_pos q];exact ry
  ·rw [if_neg q,if_neg q];exact r g
 ·by_cases q:g=f
  ·rw [q];exact (ZX f y fs).1
  ·refine (ZX f y fs).2 g (wi g fun z=>hg ?_)
   show (if g=f then some u else mA g)=none
   rw [if_neg q];exact z
theorem Inv.made (I:Inv X pins σ H s):Inv X pins σ (upd (upd H s.heap.objs.size (.own (s.heap.objs.size+1))) (s.heap.objs.size+1) (.ins C s.heap.objs.size []))
  { s with heap:=(s.heap.push W.emptyDict).push (W.instObj C s.heap.objs.size) }:=by
 have e1:(s.heap.push W.emptyDict).get? s.heap.objs.size=some W.emptyDict:=Heap.get?_push_size s.heap rfl
 have e2:((s.heap.push W.emptyDict).push (W.instObj C s.heap.objs.size)).get? (s.heap.objs.size+1)=some (W.instObj C s.heap.objs.size):=by
  have:=Heap.get?_push_size (s.heap.push W.emptyDict) (o:=W.instObj C s.heap.objs.size) rfl
  rwa [Heap.size_push] at this
 have e3:(s.heap.push W.emptyDict).Ns s.heap.objs.size (fun _=>none):=⟨W.emptyDict,#[],_,e1,rfl,(fun e he=>absurd he (by simp)),fun _=>rfl⟩
 have I1:=I.laid (a:=s.heap.objs.size) (o:=.own (s.heap.objs.size+1)) (h':=s.heap.push W.emptyDict) (t':=s.toks) (fun b u q=>Heap.get?_push_of_some _ q) (le_refl _) ⟨_,e1⟩
 refine I1.laid (a:=s.heap.objs.size+1) (o:=.ins C s.heap.objs.size []) (t':=s.toks) (fun b u q=>Heap.get?_push_of_some _ q) (Nat.le_of_eq (Heap.size_push _ _)) ?_
 have ne:s.heap.objs.size≠s.heap.objs.size+1:=ne_of_lt (Nat.lt_succ_self _)
 refine ⟨by rw [qB ne,zQ],zero_le _,ne,e2,fun _=>none,(Heap.Ns1.of_empty e3).at fun o q=>Heap.get?_push_of_some _ q,fun _=>True.intro,fun y hy=>absurd rfl hy⟩
theorem zDV {prog:Program} {env:Env} {f:Str} {pos:Pos} {Q:Value->Shared->Prop} (hb:attributeBase e f env (eval e env)=eval e env)
  (h:wpAny (model prog w) A (eval e env) (fun o s₁=>wpAny (model prog w) A (getAttr o f true) Q E s₁) E s):wpAny (model prog w) A (eval (.Attribute e f pos) env) Q E s:=
 Attribute_any_ h (by rw [arm_eval_Attribute,hb])
end
def zG2 (K:W.Frag) (ta:TE) (f:Str):TE:=fun σ H Q=>ta σ H fun x H1=>∃ a C dx fs v,x = .ref a/\H1 a=some (.ins C dx fs)/\Cls K C/\xv K C f/\fs.lookup f=some v/\Q v H1
def zHO (K:W.Frag) (ta tv:TE) (f:Str):TS:=fun D σ H=>tv σ H fun y H1=>ta σ H1 fun x H2=>∃ a C dx fs,x = .ref a/\H2 a=some (.ins C dx fs)/\Cls K C/\xv K C f/\fs.length < 1000 /\
 D.nx σ (upd H2 a (.ins C dx (ZC f y fs)))
section
variable {X : Cx} {o e value : Expr} {f : Str} {pos pos' tpos : Pos} {ta tv : TE}
theorem jb (he:PE X e ta) (hb:attributeBase e f X.env (eval e X.env)=eval e X.env):PE X (.Attribute e f pos) (zG2 X.K ta f):=by
 intro pins s σ H Q I h
 refine zDV hb (thn (he pins s σ H _ I h) fun u s1 zq=>?_)
 obtain ⟨x,H1,I1,rx,a,C,dx,fs,v,ex,ea,c,n,l,q⟩:=zq
 subst ex
 obtain rfl:u=Value.ref a:=rx
 exact Vr I1 ea c n l fun u' s2 I2 ru=>⟨v,H1,I2,ru,q⟩
theorem ja (ha:PE X o ta) (hv:PE X value tv) (hs:swapsWith value (some (.Attribute o f pos')) pos.line X.env=pure false):PS X (.Assign [.Attribute o f pos'] value pos) (zHO X.K ta tv f):=by
 intro pins s σ H D I h
 refine plainObj_wpAny_Assign_Attribute (thn (hv pins s σ H _ I h) fun u s1 ⟨y,H1,I1,ry,q⟩=>thn (ha pins s1 σ H1 _ I1 q) fun ov s2 zq=>?_) hs
 obtain ⟨x,H2,I2,rx,a,C,dx,fs,ex,ea,c,n,l,q2⟩:=zq
 subst ex
 obtain rfl:ov=Value.ref a:=rx
 exact Y8 I2 ea c n l ry fun s3 I3=>⟨σ,_,I3,q2⟩
end
section
variable {X : Cx} {pins : List (Addr × Obj)} {σ : St} {H : Hp} {s : Shared} {A : Around} {E : Value -> Shared -> Prop} {Q : Value -> Shared -> Prop} {c : Value} {b : Bool}
inductive YX (K:W.Frag) (H:Hp):V->Value->Prop where
 | non:YX K H .non (.type "NoneType")
 | bl (x:Bool):YX K H (.bl x) (.type "bool")
 | int (i:Int):YX K H (.int i) (.type "int")
 | str (x:Str):YX K H (.str x) (.type "str")
 | flt (x:UInt64):YX K H (.flt x) (.type "float")
 | lst {a:Addr} {xs:List V} (e:H a=some (.lst xs)):YX K H (.ref a) (.type "list")
 | frz {a:Addr} {o:Obj} {xs:List V} (e:H a=some (.frz o (.lst xs))):YX K H (.ref a) (.type "list")
 | tup {a:Addr} {xs:List V} (e:H a=some (.tup xs)):YX K H (.ref a) (.type "tuple")
 | dK {a:Addr} {kvs:List (Key × V)} (e:H a=some (.dK kvs)):YX K H (.ref a) (.type "dict")
 | dT {a:Addr} {kvs:List (List Key × V)} (e:H a=some (.dT kvs)):YX K H (.ref a) (.type "dict")
 | ins {a C dx:Addr} {fs:List (Str × V)} (e:H a=some (.ins C dx fs)) (cl:Cls K C) (ha:W.findIn K (.ref C) "__class__" = some (some (.builtin "object.__class__")))
   (hn:W.specialIn K (.builtin "object.__class__") "__get__" = some (some (.builtin "getset_descriptor.__get__"))) (htk:W.takesIn K (.builtin "object.__class__")=some true)
   (hm:W.mroIn K C (.type "object")=some true):YX K H (.ref a) (.ref C)
theorem KC {u t:Value} (I:Inv X pins σ H s) (rx:jO x u) (ty:YX X.K H x t) (e:W.kitOne X.K t c=some b) (h : ∀ tk,Q (.bool b) { s with toks:=tk }) :
  wpAny (model X.prog X.w) A (call (.builtin "isinstance") [u,c]) Q E s:=by
 cases ty with
 | non=>cases (show u=Value.none from rx);exact W.kia_one W.kitx_none I.kIn True.intro e (fun z=>nomatch z) h
 | bl y=>cases (show u=Value.bool y from rx);exact W.kia_one W.kitx_bool I.kIn True.intro e (fun z=>nomatch z) h
 | int i=>obtain ⟨t,q⟩:=(show ∃ t,u=Value.int i t from rx);cases q;exact W.kia_one W.kitx_int I.kIn True.intro e (fun z=>nomatch z) h
 | str y=>obtain ⟨t,q⟩:=(show ∃ t,u=Value.str y t from rx);cases q;exact W.kia_one W.kitx_str I.kIn True.intro e (fun z=>nomatch z) h
 | flt y=>obtain ⟨t,q⟩:=(show ∃ t,u=Value.float y t from rx);cases q;exact W.kia_one W.kitx_float I.kIn True.intro e (fun z=>nomatch z) h
 | @lst a xs ea =>
  cases (show u=Value.ref a from rx)
  obtain ⟨_,_,n,_,h1⟩:=(show jr X.prog X.w H s.heap a (.lst xs) from I.hok a _ ea)
  exact W.kia_one W.kitx_list I.kIn ⟨_,h1,rfl⟩ e (fun z=>nomatch z) h
 | @frz a ob xs ea =>
  cases (show u=Value.ref a from rx)
  obtain ⟨_,_,_,n,_,h1⟩:=(show jr X.prog X.w H s.heap a (.frz ob (.lst xs)) from I.hok a _ ea)
  exact W.kia_one W.kitx_list I.kIn ⟨_,h1,rfl⟩ e (fun z=>nomatch z) h
 | @tup a xs ea =>
  cases (show u=Value.ref a from rx)
  obtain ⟨_,_,_,p⟩:=(show jr X.prog X.w H s.heap a (.tup xs) from I.hok a _ ea)
  obtain ⟨o,h1,h2,_⟩:=p
  exact W.kia_one W.kitx_tuple I.kIn ⟨o,h1,h2⟩ e (fun z=>nomatch z) h
 | @dK a kvs ea =>
  cases (show u=Value.ref a from rx)
  obtain ⟨_,_,vs,_,p⟩:=(show jr X.prog X.w H s.heap a (.dK kvs) from I.hok a _ ea)
  obtain ⟨o,es,ep,h1,h2,_⟩:=p
  exact W.kia_one W.kitx_dict I.kIn ⟨o,h1,h2.1⟩ e (fun z=>nomatch z) h
 | @dT a kvs ea =>
  cases (show u=Value.ref a from rx)
  obtain ⟨_,_,xs,_,o,es,ep,h1,h2,_⟩:=(show jr X.prog X.w H s.heap a (.dT kvs) from I.hok a _ ea)
  exact W.kia_one W.kitx_dict I.kIn ⟨o,h1,h2.1⟩ e (fun z=>nomatch z) h
 | @ins a C dx fs ea cl ha hn htk hm =>
  cases (show u=Value.ref a from rx)
  obtain ⟨mA,O,_⟩:=Q0 I.hok ea
  obtain ⟨od,J,_⟩:=O.look
  exact W.kia_one (W.kitx_own (cl.get _) cl.hd ha hn htk hm) I.kIn J e (fun z=>nomatch z) h
end
structure xA (k:Nat) (A:Around):Prop where
 hd:A.handled=none
 dp:A.depth+3*k+5 < recursionLimit
 un:A.units+16*k+200 < cLine
variable {k:Nat}
theorem xA.mono {j:Nat} (r:xA k A) (h:j<=k):xA j A:=⟨r.hd,by have:=r.dp;omega,by have:=r.un;omega⟩
theorem xA.deeper (r:xA (k+1) A) (env:Env):xA k (A.deeper env):=
 ⟨r.hd,by have:=r.dp;show A.depth+1+3*k+5 < _;omega,by have:=r.un;show A.units+3+16*k+200 < _;omega⟩
theorem xA.in1 (r:xA (k+1) A):xA k A.in1:=
 ⟨r.hd,by have:=r.dp;show A.depth+3*k+5 < _;omega,by have:=r.un;show A.units+1+16*k+200 < _;omega⟩
theorem V3 {kw:List (Str × Value)}:(A.under (.builtin "type.__call__" ⟨.ref C::us,kw⟩)).depth=A.depth+1:=by
 first | rfl | simp [Around.under,Code.weight,Code.isCreation,Code.isGuard,Code.isCaller,Code.frames,Code.isFrame,guardIds]
theorem VH {kw:List (Str × Value)}:(A.under (.builtin "type.__call__" ⟨.ref C::us,kw⟩)).units=A.units+1:=by
 first | rfl | simp [Around.under,Code.cUnits,Code.frames,Code.isFrame]
theorem xA.make (r:xA (k+1) A) (C:Addr) (us:List Value) (kw:List (Str × Value)):xA k (A.under (.builtin "type.__call__" ⟨.ref C::us,kw⟩)):=
 ⟨r.hd,by have:=r.dp;rw [V3];omega,by have:=r.un;rw [VH];omega⟩
theorem xA.depth (r:xA k A):A.depth < recursionLimit:=by have:=r.dp;omega
theorem xA.units (r:xA k A):A.units+64 < cLine:=by have:=r.un;omega
def zGF:TA:=fun _ H Q=>Q [] H
def zFc (ta:TE) (tr:TA):TA:=fun σ H Q=>ta σ H fun x H1=>tr σ H1 fun xs H2=>Q (x::xs) H2
section
variable {X : Cx} {e : Expr} {es : List Expr} {te : TE} {t : TA} {pos : Pos}
theorem zD:PA X [] zGF:=fun _ _ _ _ H Q I h=>Calls.spliced_nil ⟨[],H,I,.nil,h⟩
theorem zA (ha:PE X e te) (hr:PA X es t) (hs:starEach (e::es) X.env=(false,eval e X.env)::starEach es X.env:=by rfl):PA X (e::es) (zFc te t):=by
 intro pos pins s σ H Q I h
 rw [hs]
 show wpAny _ _ (spliced ((false,eval e X.env)::backTo pos (starEach es X.env))) _ _ s
 refine Calls.spliced_cons (thn (ha pins s σ H _ I h) fun u s1 zq=>?_)
 obtain ⟨x,H1,I1,r1,q1⟩:=zq
 exact thn (hr pos pins s1 σ H1 _ I1 q1) fun us s2 ⟨xs,H2,I2,r2,q2⟩=>⟨x::xs,H2,I2,.cons r1 r2,q2⟩
def zHa (t:TA):TE:=fun σ H Q=>t σ H fun xs H1=>xs.length<=sizeLine /\ ∀ p,H1 p=none->Q (.ref p) (upd H1 p (.tup xs))
def zHQ (t:TA):TE:=fun σ H Q=>t σ H fun xs H1=>xs.length<=sizeLine /\ ∀ p,H1 p=none->Q (.ref p) (upd H1 p (.lst xs))
theorem qd {x1} (h:PA X es t):PE X (.Tuple es x1 pos) (zHa t):=by
 intro pins s σ H Q I hq
 refine wpAny_Tuple_spliced (thn (h pos pins s σ H _ I hq) fun us s1 ⟨xs,H1,I1,r,z,q⟩=>⟨by rw [<- r.length];exact z,?_⟩)
 have hf:H1 s1.heap.objs.size=none:=I1.hok.fresh (le_refl _)
 refine ⟨.ref s1.heap.objs.size,upd H1 s1.heap.objs.size (.tup xs),I1.laid (t':=s1.toks) (fun b u e=>Heap.get?_push_of_some _ e) (le_refl _) ?_,rfl,q _ hf⟩
 exact ⟨z,us,r,⟨_,Heap.get?_push_size _ rfl,rfl,_,rfl⟩⟩
theorem zr (h:PA X es t):PE X (.List es pos) (zHQ t):=by
 intro pins s σ H Q I hq
 refine wpAny_List_spliced (thn (h pos pins s σ H _ I hq) fun us s1 ⟨xs,H1,I1,r,z,q⟩=>⟨by rw [<- r.length];exact z,?_⟩)
 have hf:H1 s1.heap.objs.size=none:=I1.hok.fresh (le_refl _)
 refine ⟨.ref s1.heap.objs.size,upd H1 s1.heap.objs.size (.lst xs),I1.laid (t':=s1.toks) (fun b u e=>Heap.get?_push_of_some _ e) (le_refl _) ?_,rfl,q _ hf⟩
 exact ⟨z,us,0,r,Heap.get?_push_size _ rfl⟩
end
abbrev Sp:=List V->Hp->VK->XK->Prop
abbrev CXT:=List Env->Hp->Shared->XK->Value->Shared->Prop
structure VV (P:Program) (w:World) (K:W.Frag) (mg:Str->Option Value) (base:Heap) (A:Around) (outer:List Env) (s:Shared) (H:Hp):Prop where
 frames:A.frames=some outer
 mod:Mod K mg base
 bs : ∀ b o,base.get? b=some o->s.heap.get? b=some o/\H b=none
 bsz:base.objs.size<=s.heap.objs.size
 funs:s.heap.FunFrames base outer
 frf : ∀ b ∈ frs outer,H b=none
 hok:HOk P w H s.heap
 bare:AllBare s.gens
def CE (outer:List Env) (P:Program) (w:World) (H:Hp) (s:Shared) (Q:VK) (u:Value) (s':Shared):Prop:=
 ∃ v H',s'.os=s.os/\AllBare s'.gens/\Un (frs outer) [] H H' s.heap s'.heap/\HOk P w H' s'.heap/\jO v u/\Q v H'
def CR (CX:CXT) (outer:List Env) (P:Program) (w:World) (H:Hp) (s:Shared) (Q:VK) (E:XK) (r:Result) (s':Shared):Prop:=
 match r with
 | .ok (.ret u)=>CE outer P w H s Q u s'
 | .ok _=>False
 | .error e=>CX outer H s E e s'
structure xG (P:Program) (w:World) (K:W.Frag) (mg:Str->Option Value) (base:Heap) (CX:CXT) (k:Nat) (f:Addr) (fd:FuncData) (ps:List Str) (sp:Sp):Prop where
 len : ∀ vs H Q E,sp vs H Q E->vs.length=ps.length
 run : ∀ (A:Around) (outer:List Env) (s:Shared) (H:Hp) (args:Args) (us:List Value) (vs:List V) (Q:VK) (E:XK),xA k A->VV P w K mg base A outer s H->BindsTo s fd args (ps.zip us)->z9 vs us->sp vs H Q E ->
  codeAny (model P w) A (.call (.ref f) args) (CR CX outer P w H s Q E) s
variable {mg:Str->Option Value} {base:Heap} {CX:CXT} {fd:FuncData} {ps:List Str} {sp:Sp}
theorem xG.mono {j:Nat} {f:Addr} (F:xG P w K mg base CX j f fd ps sp) (h:j<=k) :
  xG P w K mg base CX k f fd ps sp:=⟨F.len,fun A outer s H args us vs Q E hr=>F.run A outer s H args us vs Q E (hr.mono h)⟩
theorem xG.imp {f:Addr} {sp':Sp} (F:xG P w K mg base CX k f fd ps sp)
  (h : ∀ vs H Q E,sp' vs H Q E->sp vs H Q E):xG P w K mg base CX k f fd ps sp':=
 ⟨fun vs H Q E q=>F.len vs H Q E (h _ _ _ _ q),fun A outer s H args us vs Q E hr he hb hv hs=>F.run A outer s H args us vs Q E hr he hb hv (h _ _ _ _ hs)⟩
variable {outer:List Env}
theorem VV.make (e:VV P w K mg base A outer s H) (C:Addr) (us:List Value) (kw:List (Str × Value)) :
  VV P w K mg base (A.under (.builtin "type.__call__" ⟨.ref C::us,kw⟩)) outer s H:=⟨by first | exact e.frames | (simpa [Around.under,Code.envs,Code.isFrame,pushEnvs] using e.frames),e.mod,e.bs,e.bsz,e.funs,e.frf,e.hok,e.bare⟩
theorem VV.in1 (e:VV P w K mg base A outer s H) :
  VV P w K mg base A.in1 outer s H:=⟨e.frames,e.mod,e.bs,e.bsz,e.funs,e.frf,e.hok,e.bare⟩
section
variable {X : Cx} {pins : List (Addr × Obj)} {σ : St} {H : Hp} {s s' : Shared}
theorem Inv.env0 (I:Inv X pins σ H s):VV X.prog X.w X.K X.mg X.base X.A X.stack s H:=
 ⟨I.ok.frames,I.ok.mod,I.bs,le_trans I.ok.bsz I.sz,I.stack,I.stkFree,I.hok,I.bare⟩
theorem Inv.after {Q:VK} {u:Value} (I:Inv X pins σ H s) (h:CE X.stack X.prog X.w H s Q u s'):EP X pins σ Q u s':=by
 obtain ⟨v,H',os,bare,un,hok,r,q⟩:=h
 obtain ⟨hh,g,d,t,os'⟩:=s'
 obtain rfl:os'=s.os:=os
 exact ⟨v,H',I.call (h':=hh) (g':=g) (d':=d) (t':=t) (ch:=[]) un hok bare (fun b z=>absurd z (by simp)),r,q⟩
end
def Xn (sp:Sp) (dvs:List V) (E:XK) (t:TA):TE:=fun σ H Q=>t σ H fun vs H1=>sp (vs++dvs) H1 Q E
def VZ (C:Addr) (m:Str) (sp:Sp) (dvs:List V) (E:XK) (ta:TE) (t:TA):TE:=fun σ H Q=>ta σ H fun x H1=>∃ a dx fs,x = .ref a/\H1 a=some (.ins C dx fs)/\fs.lookup m=none /\
 t σ H1 fun vs H2=>sp (x::(vs++dvs)) H2 Q E
def zCI (C:Addr) (sp:Sp) (dvs:List V) (E:XK) (t:TA):TE:=fun σ H Q=>t σ H fun vs H1=>∀ x dx,H1 x=none->H1 dx=none->dx≠x ->
 sp (.ref x::(vs++dvs)) (upd (upd H1 dx (.own x)) x (.ins C dx [])) (fun v H2=>v = .non/\Q (.ref x) H2) E
def xJ (K:W.Frag) (fd:FuncData) (ps:List Str) (ds:List Value):Prop:=
 ∀ (s:Shared) (us:List Value),K.In s.heap->(us++ds).length=ps.length->BindsTo s fd ⟨us,[]⟩ (ps.zip (us++ds))
theorem xJ.all (h : ∀ us:List Value,us.length=ps.length->bindArgs fd ⟨us,[]⟩=pure (ps.zip us)):xJ K fd ps []:=fun s us _ hl=>by
 rw [List.append_nil] at hl ⊢
 exact .of_eq (h us hl)
def j5 (CX:CXT) (X:Cx) (E:XK):Prop:=∀ (pins:List (Addr × Obj)) (σ:St) (H:Hp) (s:Shared) (e:Value) (s':Shared),Inv X pins σ H s->CX X.stack H s E e s'->X.xe e s'
section
variable {X : Cx} {CX : CXT} {k : Nat} {f C : Addr} {fd : FuncData} {ps : List Str} {sp : Sp} {dvs : List V} {ds : List Value} {E : XK} {x m : Str} {p pos apos : Pos} {e o : Expr} {es : List Expr} {ta : TE} {t : TA}
theorem YZ {Q:VK} {vs:List V} (F:xG X.prog X.w X.K X.mg X.base CX k f fd ps sp) (hr:xA k X.A) (hb:xJ X.K fd ps ds) (hd:z9 dvs ds) (hx:j5 CX X E)
  (I:Inv X pins σ H s) (r:z9 vs us) (h:sp (vs++dvs) H Q E):wpAny (model X.prog X.w) X.A (call (.ref f) us) (EP X pins σ Q) X.xe s:=by
 have r2:z9 (vs++dvs) (us++ds):=r.append hd
 have hl:(us++ds).length=ps.length:=by rw [<- r2.length];exact F.len _ _ _ _ h
 refine wpAny_call (codeAny_mono (F.run X.A X.stack s H ⟨us,[]⟩ (us++ds) (vs++dvs) Q E hr I.env0 (hb s us I.kIn hl) r2 h) fun r s' hq=>?_)
 cases r with
 | error e=>exact hx pins σ H s e s' I hq
 | ok fl =>
  cases fl with
  | ret u=>exact I.after hq
  | next=>exact False.elim hq
  | brk=>exact False.elim hq
  | cont=>exact False.elim hq
theorem zCO (F:xG X.prog X.w X.K X.mg X.base CX k f fd ps sp) (hr:xA k X.A) (hg:Gl X x) (hm:X.mg x=some (.ref f)) (hk:W.keepIn X.K (.ref f)=true) (hb:xJ X.K fd ps ds) (hd:z9 dvs ds) (hx:j5 CX X E)
  (ha:PA X (e::es) t) (hdb:(x == ("__debug__" : Str))=false:=by decide) (he:starEach (e::es) X.env=(false,eval e X.env)::starEach es X.env:=by rfl) (hpl:(backTo pos (starEach es X.env)).any (·.1)=false:=by rfl) :
  PE X (.Call (.Name x p) (e::es) [] pos) (Xn sp dvs E t):=by
 intro pins s σ H Q I h
 refine wpAny_Call_Name_kw (jB I hg hm ?_ hdb)
 refine W.callWith_K (h₀:=X.base) I.ok.mod.kin hk (thn (ha pos pins s σ H _ I h) fun us s1 ⟨vs,H1,I1,r,q⟩=>⟨I1.kIn,?_⟩) he hpl
 exact YZ F hr hb hd hx I1 r q
theorem zA4 (F:xG X.prog X.w X.K X.mg X.base CX k f fd ps sp) (hr:xA k X.A) (hg:Gl X x) (hm:X.mg x=some (.ref f)) (hk:W.keepIn X.K (.ref f)=true) (hb:xJ X.K fd ps ds) (hd:z9 dvs ds) (hx:j5 CX X E)
  (hdb:(x == ("__debug__" : Str))=false:=by decide):PE X (.Call (.Name x p) [] [] pos) (Xn sp dvs E zGF):=by
 intro pins s σ H Q I h
 refine wpAny_Call_Name_kw (jB I hg hm ?_ hdb)
 exact W.callWith_K0 I.kIn hk (YZ (us:=[]) F hr hb hd hx I .nil h)
theorem zDH {pl:Sem Bool} (he:PE X o ta) (c:Cls X.K C) (hm:zGX X.K C m f) (F:xG X.prog X.w X.K X.mg X.base CX k f fd ps sp) (hr:xA k X.A) (hb:xJ X.K fd ps ds) (hd:z9 dvs ds) (hx:j5 CX X E) (ha:PA X (e::es) t)
  (hst:starEach (e::es) X.env=(false,eval e X.env)::starEach es X.env:=by rfl) (hpl:(backTo pos (starEach es X.env)).any (·.1)=false:=by rfl)
  (ht:eval (.Call (.Attribute o m apos) (e::es) [] pos) X.env=(do
   let ov <- eval o X.env
   standAt apos.atName
   let (f,first) <- holding [ov] (getMethod ov m pl)
   callWith pos f first (backTo pos (starEach (e::es) X.env)) (backToKw pos (keywordEach [] X.env))):=by rfl) :
  PE X (.Call (.Attribute o m apos) (e::es) [] pos) (VZ C m sp dvs E ta t):=by
 intro pins s σ H Q I h
 refine W.methodCall_KW (pl:=pl) (thn (he pins s σ H _ I h) fun u s1 zq=>?_) ht
 obtain ⟨x,H1,I1,rx,a,dx,fs,ex,ea,l,q⟩:=zq
 subst ex
 obtain rfl:u=Value.ref a:=rx
 refine Y3 I1 ea c hm l ?_
 refine W.callWith_K (first:=[.ref a]) (h₀:=X.base) I.ok.mod.kin hm.kp (thn (ha pos pins s1 σ H1 _ I1 q) fun us s2 ⟨vs,H2,I2,r,q2⟩=>⟨I2.kIn,?_⟩) hst hpl
 exact YZ (us:=.ref a::us) (vs:=.ref a::vs) F hr hb hd hx I2 (.cons rfl r) q2
structure Mk (K:W.Frag) (C f:Addr):Prop where
 makes:W.makesIn K C=true
 init:W.findIn K (.ref C) "__init__" = some (some (.ref f))
 fn:W.isFn K (.ref f)=true
 kp:W.keepIn K (.ref C)=true
theorem zAy {Q:VK} {vs:List V} (M:Mk X.K C f) (F:xG X.prog X.w X.K X.mg X.base CX k f fd ps sp) (hr:xA (k+1) X.A) (hb:xJ X.K fd ps ds) (hd:z9 dvs ds)
  (hx:j5 CX X E) (I:Inv X pins σ H s) (r:z9 vs us)
  (h : ∀ x dx,H x=none->H dx=none->dx≠x->sp (.ref x::(vs++dvs)) (upd (upd H dx (.own x)) x (.ins C dx [])) (fun v H2=>v = .non/\Q (.ref x) H2) E) :
  wpAny (model X.prog X.w) X.A (call (.ref C) us) (EP X pins σ Q) X.xe s:=by
 have hq:=h (s.heap.objs.size+1) s.heap.objs.size (I.hok.fresh (Nat.le_succ _)) (I.hok.fresh (le_refl _)) (ne_of_lt (Nat.lt_succ_self _))
 have I2:=Inv.made (C:=C) I
 have r2:z9 (V.ref (s.heap.objs.size+1)::(vs++dvs)) (Value.ref (s.heap.objs.size+1)::(us++ds)):=.cons rfl (r.append hd)
 have hl:(Value.ref (s.heap.objs.size+1)::us++ds).length=ps.length:=by
  have e:=r2.length
  rw [F.len _ _ _ _ hq] at e
  exact e.symm
 refine wpAny_call (zAQ (f:=f) I.kIn M.makes M.init (beq_iff_eq.mp M.fn) (codeAny_mono (F.run _ X.stack _ _ ⟨Value.ref (s.heap.objs.size+1)::us,[]⟩ (Value.ref (s.heap.objs.size+1)::(us++ds)) _ _ E (hr.make C us [])
  (I2.env0.make C us []) (hb _ (Value.ref (s.heap.objs.size+1)::us) I2.kIn hl) r2 hq) fun r s' hq'=>?_))
 cases r with
 | error e=>exact hx pins σ _ _ e s' I2 hq'
 | ok fl =>
  cases fl with
  | ret u =>
   obtain ⟨v,H',I3,rv,ev,q3⟩:=I2.after hq'
   subst ev
   exact ⟨rv,⟨V.ref (s.heap.objs.size+1),H',I3,rfl,q3⟩⟩
  | next=>exact False.elim hq'
  | brk=>exact False.elim hq'
  | cont=>exact False.elim hq'
theorem zDE (M:Mk X.K C f) (F:xG X.prog X.w X.K X.mg X.base CX k f fd ps sp) (hr:xA (k+1) X.A) (hg:Gl X x) (hm:X.mg x=some (.ref C)) (hb:xJ X.K fd ps ds) (hd:z9 dvs ds) (hx:j5 CX X E)
  (ha:PA X (e::es) t) (hdb:(x == ("__debug__" : Str))=false:=by decide) (he:starEach (e::es) X.env=(false,eval e X.env)::starEach es X.env:=by rfl) (hpl:(backTo pos (starEach es X.env)).any (·.1)=false:=by rfl) :
  PE X (.Call (.Name x p) (e::es) [] pos) (zCI C sp dvs E t):=by
 intro pins s σ H Q I h
 refine wpAny_Call_Name_kw (jB I hg hm ?_ hdb)
 refine W.callWith_K (h₀:=X.base) I.ok.mod.kin M.kp (thn (ha pos pins s σ H _ I h) fun us s1 ⟨vs,H1,I1,r,q⟩=>⟨I1.kIn,?_⟩) he hpl
 exact zAy M F hr hb hd hx I1 r q
end
section
variable {X : Cx} {CX : CXT} {k : Nat} {f C : Addr} {fd : FuncData} {ps ks : List Str} {sp : Sp} {E : XK} {x m : Str} {p pos apos kpos : Pos} {e o : Expr} {es : List Expr} {kws : List Keyword} {te ta : TE} {t tk : TA} {nm : Option Str}
variable {g : List Value -> List Value -> List Value} {gV : List V -> List V -> List V}
end
structure zN (N P:List Str) (sc:Scope):Prop where
 kind:sc.kind = .function
 co:sc.isCoroutine=false
 gen:sc.isGenerator=false
 nd:N.Nodup
 pre:N.take P.length=P
 par : ∀ x ∈ P,sc.names.lookup x=some .local\/sc.names.lookup x=some .cell
 nofree : ∀ y ∈ sc.names,y.2 ≠ .free
theorem Jr {kindOf:Str->Option NameKind} {x:Str} : ∀ {binds:List (Str × Value)} {m:Str->Option Value},(∀ v,(x,v) ∉ binds)->bindL kindOf binds m x=m x
 | [],_,_=>rfl
 | (n,v)::r,m,h=>by
  unfold bindL
  rw [Jr fun w hw=>h w (mem_cons_of_mem _ hw)]
  split
  ·have:x≠n:=by rintro rfl;exact h v List.mem_cons_self
   simp [this]
  ·rfl
theorem XU {kindOf:Str->Option NameKind} {x:Str} : ∀ {binds:List (Str × Value)} {m:Str->Option Value},(∀ v,(x,v) ∉ binds)->bindC kindOf binds m x=m x
 | [],_,_=>rfl
 | (n,v)::r,m,h=>by
  unfold bindC
  rw [XU fun w hw=>h w (mem_cons_of_mem _ hw)]
  split
  ·rfl
  ·have:x≠n:=by rintro rfl;exact h v List.mem_cons_self
   simp [this]
theorem Jy {kindOf:Str->Option NameKind} {x:Str} {v:Value} : ∀ {P:List Str} {vs:List Value} {i:Nat} {m:Str->Option Value},P.Nodup->P[i]? = some x->vs[i]? = some v->kindOf x=some .local ->
  bindL kindOf (P.zip vs) m x=some v
 | [],_,_,_,_,h,_,_=>by simp at h
 | _::_,[],_,_,_,_,h,_=>by simp at h
 | p::P,w::vs,0,m,nd,h1,h2,hk=>by
  simp at h1 h2;subst h1;subst h2
  show bindL kindOf ((p,w)::P.zip vs) m p=_
  unfold bindL
  rw [Jr fun v hv=>(List.nodup_cons.mp nd).1 (List.of_mem_zip hv).1,if_pos hk]
  simp
 | p::P,w::vs,i+1,m,nd,h1,h2,hk=>by
  show bindL kindOf ((p,w)::P.zip vs) m x=_
  unfold bindL
  exact Jy (i:=i) (List.nodup_cons.mp nd).2 (by simpa using h1) (by simpa using h2) hk
theorem Jz {kindOf:Str->Option NameKind} {x:Str} {v:Value} : ∀ {P:List Str} {vs:List Value} {i:Nat} {m:Str->Option Value},P.Nodup->P[i]? = some x->vs[i]? = some v->kindOf x≠some .local ->
  bindC kindOf (P.zip vs) m x=some v
 | [],_,_,_,_,h,_,_=>by simp at h
 | _::_,[],_,_,_,_,h,_=>by simp at h
 | p::P,w::vs,0,m,nd,h1,h2,hk=>by
  simp at h1 h2;subst h1;subst h2
  show bindC kindOf ((p,w)::P.zip vs) m p=_
  unfold bindC
  rw [XU fun v hv=>(List.nodup_cons.mp nd).1 (List.of_mem_zip hv).1,if_neg hk]
  simp
 | p::P,w::vs,i+1,m,nd,h1,h2,hk=>by
  show bindC kindOf ((p,w)::P.zip vs) m x=_
  unfold bindC
  exact Jz (i:=i) (List.nodup_cons.mp nd).2 (by simpa using h1) (by simpa using h2) hk
def start (N:List Str) (vs:List V):St:=vs.map some++List.replicate (N.length - vs.length) none
def kC (CX:CXT) (P:Program) (w:World) (K:W.Frag) (mg:Str->Option Value) (base:Heap) (N:List Str) (qual:Str) (scope:Scope) (f:Addr) (cd:Value) (A:Around) (outer:List Env) (s:Shared) (H:Hp) (E:XK):Cx where
 prog:=P
 w:=w
 K:=K
 mg:=mg
 base:=base
 A:=A.deeper (envOfC qual scope s.heap.objs.size f cd)
 N:=N
 s₀:=s
 H₀:=H
 env:=envOfC qual scope s.heap.objs.size f cd
 outer:=outer
 stack:=envOfC qual scope s.heap.objs.size f cd::outer
 ex:=[]
 calm:=true
 fn:=fun _=>true
 pn:=[]
 xe:=fun e s'=>wpAny (model P w) (A.deeper (envOfC qual scope s.heap.objs.size f cd)) (leaving (envOfC qual scope s.heap.objs.size f cd) e) (fun _ s''=>CX outer H s E e s'') (fun e' s''=>CX outer H s E e' s'') s'
theorem YW {sc:Scope} {n:Nat} {x:Str} (h:sc.names.lookup x=some .cell) : ∃ c,(cellsFrom n sc.names []).lookup x=some c:=by
 have q:=W.cellsFrom_some sc.names n [] (.inl h)
 exact Option.isSome_iff_exists.mp q
theorem Wy {N:List Str} {qual:Str} {scope:Scope} {f:Addr} {cd:Value} {s1:Shared} {E:XK} {vs:List V}
  (S:zN N ps scope) (hd:A.handled=none) (e0:VV P w K mg base A outer s H) (hl:vs.length=ps.length) (r:z9 vs us)
  (x:InCallC s s.heap.objs.size (bindL (envOfC qual scope s.heap.objs.size f cd).kindOf (ps.zip us) fun _=>none) (cellsFrom (s.heap.objs.size+1) scope.names []) (bindC (envOfC qual scope s.heap.objs.size f cd).kindOf (ps.zip us) fun _=>none) s1) :
  Inv (kC CX P w K mg base N qual scope f cd A outer s H E) [] (start N vs) H s1:=by
 have hpl:ps.length<=N.length:=by have:=congrArg List.length S.pre;rw [List.length_take] at this;omega
 obtain ⟨h1,tk,rfl,hk⟩:=x.done
 have noA : ∀ b:Addr,b ∉ (kC CX P w K mg base N qual scope f cd A outer s H E).ex:=fun b z=>absurd (show b ∈ ([]:List Addr) from z) (by simp)
 refine ⟨⟨e0.mod,S.kind,rfl,rfl,le_refl _,fun y z c h1 h2=>?_,fun y hy=>?_,fun y c _ h=>?_,fun _=>hd,Around.frames_deeper e0.frames,.inr ⟨rfl,rfl⟩,fun b z=>absurd z (noA b),e0.bs,e0.bsz,fun b _ _=>noA b,fun b z=>absurd z (noA b),e0.funs,e0.frf⟩,
  rfl,e0.bare,Un.kept hk,⟨_,x.toInCall.ns,fun i y v h1 h2 h3=>?_⟩,fun y c h=>⟨_,x.cell y c h⟩,e0.hok.fresh (le_refl _),fun y c h=>?_,fun p hp=>absurd (show p ∈ ([]:List (Addr × Obj)) from hp) (by simp),e0.hok.kept hk,?_⟩
 ·exact name_of_addr x.apart (PySem.mem_of_lookup h1) (PySem.mem_of_lookup h2)
 ·have hy:scope.names.lookup y=some .cell\/scope.names.lookup y=some .free:=hy
  rcases hy with hy | hy
  ·exact YW hy
  ·exact absurd rfl (S.nofree _ (PySem.mem_of_lookup hy))
 ·exact Nat.le_of_lt (x.above y c (PySem.mem_of_lookup h))
 ·have hi:i < vs.length:=by
   unfold start at h2
   by_cases hi:i < vs.length
   ·exact hi
   ·rw [List.getElem?_append_right (by simpa using hi)] at h2
    rw [List.getElem?_replicate] at h2
    split at h2 <;> cases h2
  have ha:vs[i]? = some v:=by
   unfold start at h2
   rw [List.getElem?_append_left (by simpa using hi),List.getElem?_map] at h2
   cases e:vs[i]? with
   | none=>rw [e] at h2;cases h2
   | some a=>rw [e] at h2;cases h2;rfl
  obtain ⟨u,hu,rv⟩:=r.get ha
  have hp:ps[i]? = some y:=by
   rw [<- S.pre,List.getElem?_take_of_lt (by omega)];exact h1
  have ndP:ps.Nodup:=by rw [<- S.pre];exact S.nd.sublist (List.take_sublist _ _)
  refine ⟨u,rv,?_⟩
  rcases S.par y (List.mem_of_getElem? hp) with k | k
  ·exact .inl ⟨k,Jy ndP hp hu k⟩
  ·obtain ⟨c,e⟩:=YW (n:=s.heap.objs.size+1) k
   refine .inr ⟨.inl k,c,e,?_⟩
   have q:=x.cell y c e
   rw [Jz ndP hp hu (by show scope.names.lookup y≠_;rw [k];decide)] at q
   exact q
 ·exact e0.hok.fresh (Nat.le_of_lt (x.above y c (PySem.mem_of_lookup h)))
 ·unfold start
  show _=N.length
  rw [List.length_append,List.length_map,List.length_replicate]
  omega
theorem V1 {f:Addr} {name qual:Str} {params:Arguments} {body:List Stmt} {scope:Scope} {dV kV doc pm cdv ct oc:Value} {an od:Option Addr}
  {osl:Array (Option Value)} {N:List Str} (lk:K.lookup f=some ⟨oc,od,.func (W.fnOf name qual params body scope dV kV doc pm an cdv ct),osl⟩) (hcd:W.codeIn K cdv qual=true) (S:zN N ps scope)
  (len : ∀ vs H Q E,sp vs H Q E->vs.length=ps.length)
  (hbody : ∀ (A:Around) (outer:List Env) (s:Shared) (H:Hp) (vs:List V) (Q:VK) (E:XK),xA k (A.deeper (envOfC qual scope s.heap.objs.size f cdv))->sp vs H Q E ->
   ∃ t,PSs (kC CX P w K mg base N qual scope f cdv A outer s H E) body t/\t { nx:=fun _ H'=>Q .non H',rt:=Q } (start N vs) H) :
  xG P w K mg base CX (k+1) f (W.fnOf name qual params body scope dV kV doc pm an cdv ct) ps sp:=by
 refine ⟨len,fun A outer s H args us vs Q E hr e0 hb r hsp=>?_⟩
 have hl:=len _ _ _ _ hsp
 have KX:K.In s.heap:=e0.mod.kin.keeps fun b o e=>(e0.bs b o e).1
 have lim:s.heap.NoLimit:=e0.mod.nolimit.keeps fun b o e=>(e0.bs b o e).1
 have hkind : ∀ y ∈ ps.zip us,scope.names.lookup y.1=some .local\/(scope.names.lookup y.1=some .cell/\((cellsFrom (s.heap.objs.size+1) scope.names []).lookup y.1).isSome=true):=fun ⟨n,v⟩ hy=>by
  rcases S.par n (List.of_mem_zip hy).1 with q | q
  ·exact .inl q
  ·exact .inr ⟨q,W.cellsFrom_some _ _ _ (.inl q)⟩
 refine codeAny_call_function hr.depth (KX _ _ lk) rfl S.co S.gen rfl (W.codeRec_of KX hcd) (hb _ _ _ _ ?_)
 refine wpAny_newFunctionEnv_cells S.kind hkind fun env he s1 x=>?_
 subst he
 refine ⟨lim.keeps x.toInCall.keep,codeAny_func ?_⟩
 obtain ⟨t,ht,hq⟩:=hbody A outer s H vs Q E (hr.deeper _) hsp
 have I:Inv (kC CX P w K mg base N qual scope f cdv A outer s H E) [] (start N vs) H s1:=Wy S hr.hd e0 hl r x
 refine wpAny_mono (ht [] s1 (start N vs) H _ I hq) (fun fl s' hs=>?_) fun e s' hs=>hs
 have fin : ∀ {σ':St} {H':Hp} {v:V} {u:Value},Inv (kC CX P w K mg base N qual scope f cdv A outer s H E) [] σ' H' s'->jO v u->Q v H'->CE outer P w H s Q u s':=
  fun {σ' H' v u} J rv q=>⟨v,H',J.os,J.bare,J.base,J.hok,rv,q⟩
 cases fl with
 | ret u =>
  obtain ⟨v,σ',H',J,rv,q⟩:=hs
  exact fin J rv q
 | next =>
  obtain ⟨σ',H',J,q⟩:=hs
  exact fin (v:=V.non) (u:=Value.none) J rfl q
 | brk =>
  obtain ⟨_,_,_,q⟩:=hs
  exact False.elim q
 | cont =>
  obtain ⟨_,_,_,q⟩:=hs
  exact False.elim q
section
variable {X : Cx} {x : Str} {p pos : Pos} {e : Expr} {es : List Expr} {t : TA} {id T : String} {r : List V -> Hp -> VK -> Prop}
def tCB (r:List V->Hp->VK->Prop) (t:TA):TE:=fun σ H Q=>t σ H fun vs H1=>r vs H1 Q
theorem zA0 (hc:jx X (.builtin id) r) (hg:Gl X x) (hm:X.mg x=none) (hv:bootBuiltins x=some (.builtin id)) (ha:PA X (e::es) t) (hn:x ≠ "__name__" := by decide) (hdb:(x == ("__debug__" : Str))=false:=by decide)
  (he:starEach (e::es) X.env=(false,eval e X.env)::starEach es X.env:=by rfl) (hpl:(backTo pos (starEach es X.env)).any (·.1)=false:=by rfl):PE X (.Call (.Name x p) (e::es) [] pos) (tCB r t):=by
 intro pins s σ H Q I h
 refine wpAny_Call_Name_kw (Ju I hg hm hv ?_ hn hdb)
 exact PyProof.Rows.callWith_builtin1 (thn (ha pos pins s σ H _ I h) fun us s1 ⟨vs,H1,I1,r1,q1⟩=>hc pins s1 σ H1 vs us Q I1 r1 q1) he hpl
theorem yD (hc:jx X (.type T) r) (hg:Gl X x) (hm:X.mg x=none) (hv:bootBuiltins x=some (.type T)) (ha:PA X (e::es) t) (hn:x ≠ "__name__" := by decide) (hdb:(x == ("__debug__" : Str))=false:=by decide)
  (he:starEach (e::es) X.env=(false,eval e X.env)::starEach es X.env:=by rfl) (hpl:(backTo pos (starEach es X.env)).any (·.1)=false:=by rfl):PE X (.Call (.Name x p) (e::es) [] pos) (tCB r t):=by
 intro pins s σ H Q I h
 refine wpAny_Call_Name_kw (Ju I hg hm hv ?_ hn hdb)
 exact PyProof.Rows.callWith_type1 (thn (ha pos pins s σ H _ I h) fun us s1 ⟨vs,H1,I1,r1,q1⟩=>hc pins s1 σ H1 vs us Q I1 r1 q1) he hpl
end
end L2
namespace HT
open PySem PyProof.Rows
section
open PySem.SeqAt
open PySem.AutoSeq1 (wpAny_loadPart')
open PySem.MeetsSeq PySem.MeetsSeq2 PySem.MeetsSeq3
end
section
variable {prog : Program} {w : World} {A : Around} {E : Value -> Shared -> Prop} {s : Shared}
theorem cat_tup {t b:Addr} {vs ws:List Value} {Q:Value->Shared->Prop} (ht:IsTup s.heap t vs.toArray) (hb:IsTup s.heap b ws.toArray) (hv:vs≠[])
  (h1:ws=[]->Q (.ref t) s) (h2:ws≠[]->Q (.ref s.heap.objs.size) { s with heap:=s.heap.push { cls:=.type "tuple", data:=.seq (vs++ws).toArray } })
  (hsz:vs.length+ws.length<=sizeLine):wpAny (model prog w) A (binaryOp .Add (.ref t) (.ref b)) Q E s:=by
 obtain ⟨⟨cls,dd,data,sl⟩,ho,hc,n,hd⟩:=id ht
 obtain ⟨⟨cls2,dd2,data2,sl2⟩,ho2,hc2,n2,hd2⟩:=id hb
 simp only at hc hd hc2 hd2
 subst hc hd hc2 hd2
 have e:vs.toArray++ws.toArray=(vs++ws).toArray:=by simp
 by_cases hw:ws=[]
 ·exact concat_meets ⟨_,ho,rfl⟩ ⟨_,ho2,rfl⟩ noFill_tuple_add seq_tuple_add PySem.F.slot_tuple_add PySem.F.entry_tuple_add (PySem.F.args_tuple_add_2 _ _)
   (tuple_addW1 t b vs.toArray ws.toArray n n2 dd dd2 sl sl2 (by simpa using hv) (by simp [hw])) ⟨ho,ho2,h1 hw⟩
 ·refine concat_meets ⟨_,ho,rfl⟩ ⟨_,ho2,rfl⟩ noFill_tuple_add seq_tuple_add PySem.F.slot_tuple_add PySem.F.entry_tuple_add (PySem.F.args_tuple_add_2 _ _)
   (tuple_addW2 t b vs.toArray ws.toArray n n2 dd dd2 sl sl2 (by simpa using hv) (by simpa using hw) (by rw [List.size_toArray,List.size_toArray];exact hsz)) ⟨ho,ho2,?_⟩
  rw [e]
  exact h2 hw
def sIx (n d:Nat):Option Int->Nat
 | none=>d
 | some v=>if v < 0 then (v+(n:Int)).toNat else min v.toNat n
theorem sIx_none (n d:Nat):sIx n d none=d:=rfl
theorem zEz (n d:Nat) (hd:d<=n) (o:Option Int):sIx n d o<=n:=by
 cases o with
 | none=>exact hd
 | some v =>
  show (if v < 0 then (v+(n:Int)).toNat else min v.toNat n)<=n
  by_cases hv:v < 0
  ·rw [if_pos hv];omega
  ·rw [if_neg hv];exact Nat.min_le_right _ _
theorem Wh (v:Int) (n d:Nat):(if v < 0 then max (v+(n:Int)) 0 else min v (n:Int))=((sIx n d (some v):Nat):Int):=by
 show (if v < 0 then max (v+(n:Int)) 0 else min v (n:Int))=(((if v < 0 then (v+(n:Int)).toNat else min v.toNat n):Nat):Int)
 by_cases hv:v < 0
 ·simp only [if_pos hv];omega
 ·simp only [if_neg hv];omega
theorem Vd (lo hi:Option Int) (n:Nat):Builtin.Slice.sliceAdjust lo hi 1 (n:Int)=(((sIx n 0 lo:Nat):Int),((sIx n n hi:Nat):Int)):=by
 have h1 : ¬ ((1:Int) < 0):=by omega
 unfold Builtin.Slice.sliceAdjust
 simp only [h1,if_false]
 refine Prod.ext ?_ ?_
 ·cases lo with
  | none=>rfl
  | some v=>exact Wh v n 0
 ·cases hi with
  | none=>rfl
  | some v=>exact Wh v n n
theorem Vk (i j:Nat):Builtin.Slice.slicePlaces (i:Int) (j:Int) 1=j - i:=by
 unfold Builtin.Slice.slicePlaces
 have h1:(1:Int) > 0:=by omega
 simp only [h1,if_true,Int.ediv_one]
 split <;> omega
theorem Qt {v:Value} {o:Option Int} {Q:Option Int->Shared->Prop} (p:IsPart v o) (h:Q o s):wpAny (model prog w) A (Builtin.Slice.slicePartIndex v) Q E s:=by
 cases p with
 | none=>exact slicePart_none h
 | int i t=>exact slicePart_int h
theorem w6 {sl:Addr} {vl vu:Value} {lo hi:Option Int} {n:Nat} {Q:Int × Int × Nat->Shared->Prop} (hs:s.heap.IsSliceOf sl vl vu .none) (pl:IsPart vl lo) (pu:IsPart vu hi)
  (h:Q (((sIx n 0 lo:Nat):Int),1,sIx n n hi - sIx n 0 lo) s):wpAny (model prog w) A (Builtin.Slice.sliceApplied (.ref sl) (pure (n:Int))) Q E s:=by
 obtain ⟨os,hos,hcs,hds⟩:=id hs
 unfold Builtin.Slice.sliceApplied Builtin.Slice.sliceFields
 refine wpAny_bind (wpAny_bind (wpAny_field hos hds (x:=vl) rfl (wpAny_bind (wpAny_field hos hds (x:=vu) rfl (wpAny_bind (wpAny_field hos hds (x:=.none) rfl (wpAny_pure ?_)))))))
 refine wpAny_bind (slicePart_none ?_)
 show wpAny _ _ (if ((1:Int) == 0)=true then _ else _) _ _ s
 rw [if_neg (by decide)]
 refine wpAny_bind (Qt pl (wpAny_bind (Qt pu (wpAny_bind (wpAny_pure ?_)))))
 show wpAny _ _ (match Builtin.Slice.sliceAdjust lo hi 1 (n:Int) with | (lo,hi)=>pure (lo,(1:Int),Builtin.Slice.slicePlaces lo hi 1)) _ _ s
 rw [Vd lo hi n]
 show wpAny _ _ (pure (((sIx n 0 lo:Nat):Int),(1:Int),Builtin.Slice.slicePlaces ((sIx n 0 lo:Nat):Int) ((sIx n n hi:Nat):Int) 1)) _ _ s
 rw [Vk]
 exact wpAny_pure h
theorem zA5 (xs:Array Value) (i k:Nat):((List.range k).filterMap fun (m:Nat)=>xs[((i:Int)+(m:Int)*1).toNat]?).toArray=((xs.toList.drop i).take k).toArray:=by
 have e:(fun (m:Nat)=>xs[((i:Int)+(m:Int)*1).toNat]?)=fun m=>xs[i+m]?:=by
  funext m
  have:((i:Int)+(m:Int)*1).toNat=i+m:=by omega
  rw [this]
 rw [e]
 have:=pick_run xs i k
 rw [List.filterMap_map] at this
 have e2:((fun x=>xs[x]?) ∘ fun x=>i+x)=fun m=>xs[i+m]?:=rfl
 rw [e2] at this
 rw [this]
theorem getItem_tuple_cut {t sl:Addr} {items:Array Value} {vl vu:Value} {lo hi:Option Int} {Q:Value->Shared->Prop} (ht:IsTup s.heap t items) (hs:s.heap.IsSliceOf sl vl vu .none) (pl:IsPart vl lo) (pu:IsPart vu hi)
  (hw : ¬ (sIx items.size 0 lo=0/\sIx items.size items.size hi=items.size))
  (h:Q (.ref s.heap.objs.size) { s with heap:=s.heap.push { cls:=.type "tuple", data:=.seq ((items.toList.drop (sIx items.size 0 lo)).take (sIx items.size items.size hi - sIx items.size 0 lo)).toArray } })
  (hsz:items.size<=sizeLine):wpAny (model prog w) A (getItem (.ref t) (.ref sl)) Q E s:=by
 have htake:sizeOk (.seq ((items.toList.drop (sIx items.size 0 lo)).take (sIx items.size items.size hi - sIx items.size 0 lo)).toArray):=by
  show ((items.toList.drop (sIx items.size 0 lo)).take (sIx items.size items.size hi - sIx items.size 0 lo)).toArray.size<=sizeLine
  rw [List.size_toArray,List.length_take,List.length_drop,Array.length_toList]
  omega
 have hj:sIx items.size items.size hi<=items.size:=zEz _ _ (Nat.le_refl _) hi
 obtain ⟨os,hos,hcs,hds⟩:=id hs
 have hTs:s.TypeIs (.ref sl) "slice" := ⟨os,hos,hcs⟩
 unfold getItem
 try with_reducible refine wpAny_holding ?_
 first | refine wpAny_bind (wpAny_pure ?_) | skip
 refine wpAny_bind (wpAny_sequenceKey ht.typeIs (by decide) ?_)
 refine wpAny_bind (wpAny_callSpecial?_slot (name:=Str.ofString "__getitem__") ht.typeIs PyProof.Rows.slot_tuple_getitem
  (wpAny_call_entry PyProof.Rows.slot_tuple_getitem ht.typeIs entry_tuple_getitem ?_ (args_tuple_getitem _ _)))
 show wpAny _ _ (Builtin.Tuple.tupleItemsOf (.ref t) >>= _) _ _ s
 refine wpAny_bind (tupleItemsOf_ ht ?_)
 refine wpAny_bind (wpAny_typeOf hTs ?_)
 rw [if_pos (by decide)]
 refine wpAny_bind (w6 hs pl pu ?_)
 have hno : ¬ ((((sIx items.size 0 lo:Nat):Int) == 0 && (1:Int) == 1 && (sIx items.size items.size hi - sIx items.size 0 lo) == items.size)=true):=by
  intro q
  rw [Bool.and_eq_true,Bool.and_eq_true] at q
  have q1:((sIx items.size 0 lo:Nat):Int)=0:=eq_of_beq q.1.1
  have q2:sIx items.size items.size hi - sIx items.size 0 lo=items.size:=eq_of_beq q.2
  exact hw ⟨by omega,by omega⟩
 show wpAny _ _ (if (((sIx items.size 0 lo:Nat):Int) == 0 && (1:Int) == 1 && (sIx items.size items.size hi - sIx items.size 0 lo) == items.size)=true then _ else _) _ _ s
 rw [if_neg hno,zA5]
 first
  | exact wpAny_bind (m:=Builtin.Tuple.tupleExact _) (wpAny_newObj_type (wpAny_pure ⟨_,rfl,wpAny_pure h⟩) htake)
  | exact wpAny_bind (m:=Builtin.Tuple.tupleExact _) (wpAny_newObj_type (wpAny_bind (wpAny_pure (wpAny_pure ⟨_,rfl,wpAny_pure h⟩))) htake)
  | exact wpAny_bind (wpAny_bind (m:=Builtin.Tuple.tupleExact _) (wpAny_newObj_type (wpAny_pure (wpAny_pure ⟨_,rfl,wpAny_pure h⟩)) htake))
  | exact wpAny_bind (wpAny_bind (m:=Builtin.Tuple.tupleExact _) (wpAny_newObj_type (wpAny_pure ⟨_,rfl,wpAny_pure h⟩) htake))
end
end HT
namespace L2
open PySem PySem.Spec PyProof.Rows
open List (length_append size_toArray)
open Nat (le_refl)
abbrev TO:=St->Hp->(Option Int->Hp->Prop)->Prop
def PO (X:Cx) (e:Option Expr) (t:TO):Prop:=
 ∀ (pins:List (Addr × Obj)) (s:Shared) (σ:St) (H:Hp) (Q:Option Int->Hp->Prop),Inv X pins σ H s->t σ H Q ->
  wpAny (model X.prog X.w) X.A (evalPart e X.env) (fun u s'=>∃ o H',Inv X pins σ H' s'/\IsPart u o/\Q o H') X.xe s
def Wn:TO:=fun _ H Q=>Q none H
def zEp (t:TE):TO:=fun σ H Q=>t σ H fun x H1=>∃ i,x = .int i/\Q (some i) H1
theorem Vv {ns:List Int} : ∀ {us:List Value},z9 (ns.map V.int) us->IntsAre us ns:=by
 induction ns with
 | nil=>intro us r;rw [List.map_nil] at r;cases r;exact .nil
 | cons n ns ih =>
  intro us r
  rw [List.map_cons] at r
  cases r with
  | cons r1 r2 =>
   obtain ⟨t,e⟩:=r1
   subst e
   exact .cons n t (ih r2)
section
variable {X : Cx} {e : Expr} {te : TE} {lo hi : Option Expr} {tl th : TO} {pos p2 : Pos}
theorem qQ:PO X none Wn:=by
 intro pins s σ H Q I h
 rw [evalPart_none]
 exact wpAny_pure ⟨none,H,I,.none,h⟩
theorem ze (h:PE X e te):PO X (some e) (zEp te):=by
 intro pins s σ H Q I hw
 rw [evalPart_some]
 refine thn (h pins s σ H _ I hw) fun u s1 zq=>?_
 obtain ⟨x,H1,I1,r1,q1⟩:=zq
 obtain ⟨i,rfl,q⟩:=q1
 obtain ⟨t,rfl⟩:=r1
 exact ⟨some i,H1,I1,.int i t,q⟩
def SlR (X:Cx) (r:V->Option Int->Option Int->Hp->VK->Prop):Prop:=
 ∀ (pins:List (Addr × Obj)) (s:Shared) (σ:St) (H:Hp) (x:V) (v vl vu:Value) (lo hi:Option Int) (sl:Addr) (Q:VK),Inv X pins σ H s->jO x v->s.heap.IsSliceOf sl vl vu .none->IsPart vl lo->IsPart vu hi->r x lo hi H Q ->
  ∃ T id,typeLookup (.type T) "__getitem__" = pure (some (.builtin id))/\s.TypeIs v T/\wpAny (model X.prog X.w) X.A (getItem v (.ref sl)) (EP X pins σ Q) X.xe s
def tSl (r:V->Option Int->Option Int->Hp->VK->Prop) (te:TE) (tl th:TO):TE:=fun σ H Q=>te σ H fun x H1=>tl σ H1 fun l H2=>th σ H2 fun u H3=>r x l u H3 Q
theorem zi {r:V->Option Int->Option Int->Hp->VK->Prop} (hr:SlR X r) (he:PE X e te) (hl:PO X lo tl) (hu:PO X hi th):PE X (.Subscript e (.Slice lo hi none p2) pos) (tSl r te tl th):=by
 intro pins s σ H Q I h
 refine Subscript_ (thn (he pins s σ H _ I h) fun v s1 zq=>?_)
 obtain ⟨x,H1,I1,r1,q1⟩:=zq
 refine wpAny_Slice (thn (hl pins s1 σ H1 _ I1 q1) fun vl s2 ⟨l,H2,I2,pl,q2⟩=>thn (hu pins s2 σ H2 _ I2 q2) fun vu s3 zq=>?_)
 obtain ⟨u,H3,I3,pu,q3⟩:=zq
 rw [evalPart_none]
 refine wpAny_pure ?_
 have I4:Inv X pins σ H3 { s3 with heap:=s3.heap.push { cls:=.type "slice", data:=.fields #[vl,vu,.none] } }:=I3.kept (t':=s3.toks) fun b ob q=>Heap.get?_push_of_some _ q
 obtain ⟨T,id,hT,ht,hg⟩:=hr pins { s3 with heap:=s3.heap.push { cls:=.type "slice", data:=.fields #[vl,vu,.none] } } σ H3 x v vl vu l u s3.heap.objs.size Q I4 r1 (Heap.IsSliceOf.new ..) pl pu q3
 show wpAny (model X.prog X.w) X.A (subscriptTail e (.Slice lo hi none p2) v (.ref s3.heap.objs.size)) (EP X pins σ Q) X.xe { s3 with heap:=s3.heap.push { cls:=.type "slice", data:=.fields #[vl,vu,.none] } }
 exact tail_any (ops:=[.ref s3.heap.objs.size,v]) ht hT hg (by with_unfolding_all rfl)
def V9 (xs:List V) (lo hi:Option Int):List V:=(xs.drop (HT.sIx xs.length 0 lo)).take (HT.sIx xs.length xs.length hi - HT.sIx xs.length 0 lo)
theorem Zu (xs:List V) (lo hi:Option Int):(V9 xs lo hi).length<=xs.length:=by
 unfold V9
 rw [List.length_take,List.length_drop]
 omega
def zGY (K:W.Frag):V->Option Int->Option Int->Hp->VK->Prop:=fun x lo hi H Q=>∃ a xs,x = .ref a/\SqT K H a xs /\
 ¬ (HT.sIx xs.length 0 lo=0/\HT.sIx xs.length xs.length hi=xs.length) /\ ∀ p,H p=none->Q (.ref p) (upd H p (.tup (V9 xs lo hi)))
theorem QY:SlR X (zGY X.K):=by
 intro pins s σ H x v vl vu lo hi sl Q I rx hs pl pu h
 obtain ⟨a,xs,rfl,hx,hw,q⟩:=h
 cases rx
 obtain ⟨its,r,ht,hz⟩:=I.tuple hx
 have hlen:its.toArray.size=xs.length:=by rw [size_toArray];exact r.length.symm
 refine ⟨"tuple", _,PyProof.Rows.slot_tuple_getitem.lookup,ht.typeIs,?_⟩
 refine HT.getItem_tuple_cut ht hs pl pu (by rw [hlen];exact hw) ?_ (by rw [hlen];exact hz)
 rw [hlen]
 refine ⟨.ref s.heap.objs.size,_,I.laid (t':=s.toks) (o:=.tup (V9 xs lo hi)) (fun b ob q=>Heap.get?_push_of_some _ q) (le_refl _) ?_,rfl,q _ (I.hok.fresh (le_refl _))⟩
 exact ⟨Nat.le_trans (Zu xs lo hi) hz,_,(r.drop (HT.sIx xs.length 0 lo)).take (HT.sIx xs.length xs.length hi - HT.sIx xs.length 0 lo),IsTup.new _ _⟩
def zDb (K:W.Frag):R2:=fun x y H Q=>∃ a b xs ys,x = .ref a/\y = .ref b/\SqT K H a xs/\SqT K H b ys/\xs≠[]/\xs.length+ys.length<=sizeLine /\
 (ys=[]->Q (.ref a) H)/\(ys≠[] -> ∀ p,H p=none->Q (.ref p) (upd H p (.tup (xs++ys))))
theorem z9.nil_iff {xs:List V} {us:List Value} (r:z9 xs us):us=[]↔xs=[]:=by
 cases r with
 | nil=>simp
 | cons _ _=>simp
theorem KS:OpR X (binaryOp .Add) (zDb X.K):=by
 intro pins s σ H x y v u Q I rx ry h
 obtain ⟨a,b,xs,ys,rfl,rfl,ha,hb,hx,hz,q1,q2⟩:=h
 cases rx
 cases ry
 obtain ⟨its,r1,p1,_⟩:=I.tuple ha
 obtain ⟨its2,r2,p2,_⟩:=I.tuple hb
 refine HT.cat_tup p1 p2 (fun z=>hx (r1.nil_iff.mp z)) (fun z=>⟨.ref a,H,I,rfl,q1 (r2.nil_iff.mp z)⟩) (fun z=>?_) (by rw [<- r1.length,<- r2.length];exact hz)
 refine ⟨.ref s.heap.objs.size,_,I.laid (t':=s.toks) (o:=.tup (xs++ys)) (fun b ob q=>Heap.get?_push_of_some _ q) (le_refl _) ?_,rfl,q2 (fun w=>z (r2.nil_iff.mpr w)) _ (I.hok.fresh (le_refl _))⟩
 exact ⟨by rw [length_append];exact hz,_,r1.append r2,IsTup.new _ _⟩
end
def ixN (n:Nat) (i:Int):Option Nat:=if 0<=i then (if i < n then some i.toNat else none) else if -(n:Int)<=i then some (i+n).toNat else none
def atI {α:Type} (xs:List α) (i:Int):Option α:=(ixN xs.length i).bind fun j=>xs[j]?
variable {n:Nat}
theorem zDC {i:Int} {j:Nat} (h:ixN n i=some j):seqIndex? i n=some j/\j < n /\ -(n:Int)<=i/\i < n:=by
 unfold ixN at h
 by_cases h0:0<=i
 ·rw [if_pos h0] at h
  by_cases h1:i < n
  ·rw [if_pos h1] at h
   have e:i.toNat=j:=Option.some.inj h
   exact ⟨by rw [seqIndex_of h0 h1,e],by omega,by omega,h1⟩
  ·rw [if_neg h1] at h;cases h
 ·rw [if_neg h0] at h
  by_cases h1 : -(n:Int)<=i
  ·rw [if_pos h1] at h
   have e:(i+n).toNat=j:=Option.some.inj h
   exact ⟨by rw [seqIndex_neg (by omega) h1,e],by omega,h1,by omega⟩
  ·rw [if_neg h1] at h;cases h
theorem Xu {α:Type} {xs:List α} {i:Int} {v:α} (h:atI xs i=some v) : ∃ j,seqIndex? i xs.length=some j/\xs[j]? = some v/\j < xs.length /\ -(xs.length:Int)<=i/\i < xs.length:=by
 unfold atI at h
 cases e:ixN xs.length i with
 | none=>rw [e] at h;cases h
 | some j =>
  rw [e] at h
  obtain ⟨h1,h2,h3,h4⟩:=zDC e
  exact ⟨j,h1,h,h2,h3,h4⟩
theorem zCJ {α:Type} {xs:List α} {j:Nat} {v:α} (h:xs[j]? = some v):atI xs (j:Int)=some v:=by
 have hj:j < xs.length:=(List.getElem?_eq_some_iff.mp h).1
 have e:ixN xs.length (j:Int)=some j:=by
  unfold ixN
  rw [if_pos (by omega),if_pos (by omega)];simp
 unfold atI;rw [e];exact h
def zCc (b:Expr):Prop:=∀ o i,subscripted b false o i=operate [o,i] (getItem o i)
def IxR (X:Cx) (r:R2):Prop:=
 ∀ (value slice:Expr) (pins:List (Addr × Obj)) (s:Shared) (σ:St) (H:Hp) (x y:V) (v u:Value) (Q:VK),Inv X pins σ H s->jO x v->jO y u->r x y H Q ->
  subscripted slice false v u=operate [v,u] (getItem v u)->wpAny (model X.prog X.w) X.A (subscriptTail value slice v u) (EP X pins σ Q) X.xe s
def MtR (X:Cx) (id:String) (r:V->List V->Hp->VK->Prop):Prop:=
 ∀ (pins:List (Addr × Obj)) (s:Shared) (σ:St) (H:Hp) (x:V) (xs:List V) (v:Value) (us:List Value) (Q:VK),Inv X pins σ H s->jO x v->z9 xs us->r x xs H Q ->
  wpAny (model X.prog X.w) X.A (call (.builtin id) (v::us)) (EP X pins σ Q) X.xe s
section
variable {X : Cx} {a b : Expr} {ta tb : TE} {pos : Pos}
theorem zR {r:R2} (hr:IxR X r) (ha:PE X a ta) (hb:PE X b tb) (hs:zCc b):PE X (.Subscript a b pos) (tOp r ta tb):=by
 intro pins s σ H Q I h
 exact Subscript_ (zGk ha hb I h fun v u s2 x y H2 I2 rx ry q=>hr a b pins s2 σ H2 x y v u Q I2 rx ry q (hs _ _))
def zBi (K:W.Frag):R2:=fun x y H Q=>∃ p xs i v,x = .ref p/\y = .int i/\SqL K H p xs/\atI xs i=some v/\Q v H
def zBK (K:W.Frag):R2:=fun x y H Q=>∃ p xs i v,x = .ref p/\y = .int i/\SqT K H p xs/\atI xs i=some v/\Q v H
def zBN:R2:=fun x y H Q=>∃ z i c,x = .str z/\y = .int i/\z.length<=sizeLine/\atI z.cps.toList i=some c/\Q (.str ⟨#[c]⟩) H
theorem zk:IxR X (zBi X.K):=by
 intro value slice pins s σ H x y v u Q I rx ry h hs
 obtain ⟨p,xs,i,z,rfl,rfl,hq,he,q⟩:=h
 cases rx
 obtain ⟨t,rfl⟩:=ry
 obtain ⟨its,r,pl,hz⟩:=I.list hq
 obtain ⟨j,h1,h2,h3,h4,h5⟩:=Xu he
 obtain ⟨w,ew,rw'⟩:=r.get h2
 have hl:=r.length
 have hn:=Jd
 have fin:EP X pins σ Q w s:=⟨z,H,I,rw',q⟩
 by_cases h0:0<=i
 ·have hj:i.toNat=j:=by
   rw [seqIndex_of h0 h5] at h1
   exact Option.some.inj h1
  exact item_listR pl.isList h0 (by omega) (by rw [hj];simpa using ew) fin hs
 ·have hj:(i+(its.toArray.size:Int)).toNat=j:=by
   rw [seqIndex_neg (by omega) h4] at h1
   rw [size_toArray,<- hl]
   exact Option.some.inj h1
  exact subscriptTail_builtinR (x:=w) pl.isList.typeIs slot_list_getitem.lookup
   (wpAny_getItem_list_neg (Q:=fun r s'=>r=w/\EP X pins σ Q r s') pl.isList (by omega) (by rw [size_toArray] <;> omega) (by omega) (by rw [hj];simpa using ew) ⟨rfl,fin⟩) hs
theorem zV:IxR X (zBK X.K):=by
 intro value slice pins s σ H x y v u Q I rx ry h hs
 obtain ⟨p,xs,i,z,rfl,rfl,hq,he,q⟩:=h
 cases rx
 obtain ⟨t,rfl⟩:=ry
 obtain ⟨its,r,pl,hz⟩:=I.tuple hq
 obtain ⟨j,h1,h2,h3,h4,h5⟩:=Xu he
 obtain ⟨w,ew,rw'⟩:=r.get h2
 have hl:=r.length
 have hn:=Jd
 have fin:EP X pins σ Q w s:=⟨z,H,I,rw',q⟩
 exact subscriptTail_builtinR (x:=w) pl.typeIs slot_tuple_getitem.lookup
  (getItem_tuple (j:=j) (Q:=fun r s'=>r=w/\EP X pins σ Q r s') pl (by omega) (by omega) (by rw [size_toArray,<- hl];exact h1) (by simpa using ew) ⟨rfl,fin⟩) hs
theorem jo:IxR X zBN:=by
 intro value slice pins s σ H x y v u Q I rx ry h hs
 obtain ⟨z,i,c,rfl,rfl,hz,he,q⟩:=h
 obtain ⟨t,rfl⟩:=rx
 obtain ⟨t',rfl⟩:=ry
 obtain ⟨j,h1,h2,h3,h4,h5⟩:=Xu he
 have hl:z.cps.toList.length=z.length:=by simp [Str.length]
 rw [hl] at h1 h4 h5
 have hn:=Jd
 exact tail_any (typeIs_str s z t) slot_str_getitem.lookup (getItem_str (c:=c) (by
  have e1:decide (i < -(2 ^ 63:Int))=false:=decide_eq_false (by omega)
  have e2:decide (i ≥ 2 ^ 63)=false:=decide_eq_false (by omega)
  rw [e1,e2,Bool.or_false]) (by rw [h1];simpa using h2) ⟨.str ⟨#[c]⟩,H,I.tok _,⟨_,rfl⟩,q⟩) hs
variable {s:Shared}
theorem Inv.lst {pins:List (Addr × Obj)} {σ:St} {H:Hp} {p:Addr} {xs:List V} (I:Inv X pins σ H s) (h:H p=some (.lst xs)) :
  ∃ (its:List Value) (n:Nat),z9 xs its/\s.heap.get? p=some { cls:=.type "list", data:=.seq its.toArray n }/\xs.length<=sizeLine:=by
 obtain ⟨z,its,n,r,e⟩:=I.hok p _ h
 exact ⟨its,n,r,e,z⟩
theorem J9 (lo hi:Option Int) (n:Nat):(sliceBounds lo hi none n).1=((HT.sIx n 0 lo:Nat):Int)/\(sliceBounds lo hi none n).2.1=((HT.sIx n n hi:Nat):Int)/\(sliceBounds lo hi none n).2.2=1:=by
 refine ⟨?_,?_,rfl⟩
 ·cases lo with
  | none=>simp [sliceBounds,HT.sIx]
  | some i =>
   simp only [sliceBounds,HT.sIx,Option.getD_none,show (1:Int) > 0 by decide,if_true]
   by_cases h:i < 0
   ·simp only [h,if_true] <;> omega
   ·simp only [h,if_false] <;> omega
 ·cases hi with
  | none=>simp [sliceBounds,HT.sIx]
  | some i =>
   simp only [sliceBounds,HT.sIx,Option.getD_none,show (1:Int) > 0 by decide,if_true]
   by_cases h:i < 0
   ·simp only [h,if_true] <;> omega
   ·simp only [h,if_false] <;> omega
theorem JD (its:List Value) (lo hi:Option Int):slicePick its.toArray lo hi none=((its.drop (HT.sIx its.length 0 lo)).take (HT.sIx its.length its.length hi - HT.sIx its.length 0 lo)).toArray:=by
 obtain ⟨h1,h2,h3⟩:=J9 lo hi its.toArray.size
 unfold slicePick
 rw [h1,h2,h3]
 simp only [sliceRange_one,pick_run,size_toArray] <;> rfl
def zGA (K:W.Frag):V->Option Int->Option Int->Hp->VK->Prop:=fun x lo hi H Q=>∃ a xs,x = .ref a/\SqL K H a xs /\ ∀ p,H p=none->Q (.ref p) (upd H p (.lst (V9 xs lo hi)))
theorem Wt:SlR X (zGA X.K):=by
 intro pins s σ H x v vl vu lo hi sl Q I rx hs pl pu h
 obtain ⟨a,xs,rfl,hx,q⟩:=h
 cases rx
 obtain ⟨its,r,ht,hz⟩:=I.list hx
 have hlen:=r.length
 refine ⟨"list", _,slot_list_getitem.lookup,ht.isList.typeIs,?_⟩
 refine wpAny_getItem_list_slice ht.isList hs pl pu .none (by simp) ?_ (by rw [size_toArray] <;> omega)
 rw [JD,<- hlen]
 refine ⟨.ref s.heap.objs.size,_,I.laid (t':=s.toks) (o:=.lst (V9 xs lo hi)) (fun b ob q=>Heap.get?_push_of_some _ q) (le_refl _) ?_,rfl,q _ (I.hok.fresh (le_refl _))⟩
 exact ⟨Nat.le_trans (Zu xs lo hi) hz,_,0,(r.drop (HT.sIx xs.length 0 lo)).take (HT.sIx xs.length xs.length hi - HT.sIx xs.length 0 lo),Heap.get?_push_size _ rfl⟩
def QL:V->Bool
 | .non=>true
 | .bl _=>true
 | .int _=>true
 | .str _=>true
 | _=>false
def eqV:V->V->Bool
 | .non,.non=>true
 | .bl a,.bl b=>a == b
 | .bl a,.int b=>(if a then 1 else 0) == b
 | .int a,.bl b=>a == (if b then 1 else 0)
 | .int a,.int b=>a == b
 | .str a,.str b=>a == b
 | _,_=>false
variable {x:V}
theorem zFL {A:Around} {y:V} {u v:Value} (ry:jO y u) (rx:jO x v) (fy:QL y=true) (fx:QL x=true):SeqAt.EqAt A s u v (eqV y x):=by
 cases y with
 | non =>
  cases ry
  cases x with
  | non=>cases rx;exact SeqAt.EqAt.same _
  | bl b=>cases rx;exact SeqAt.EqAt.none_bool b
  | int b=>obtain ⟨t,rfl⟩:=rx;exact SeqAt.EqAt.none_int b t
  | str b=>obtain ⟨t,rfl⟩:=rx;exact SeqAt.EqAt.none_str b t
  | _=>exact absurd (show false=true from fx) Bool.false_ne_true
 | bl a =>
  cases ry
  cases x with
  | non=>cases rx;exact SeqAt.EqAt.bool_none a
  | bl b=>cases rx;exact SeqAt.EqAt.bool_bool a b
  | int b=>obtain ⟨t,rfl⟩:=rx;exact SeqAt.EqAt.bool_int a b t
  | str b=>obtain ⟨t,rfl⟩:=rx;exact SeqAt.EqAt.bool_str a b t
  | _=>exact absurd (show false=true from fx) Bool.false_ne_true
 | int a =>
  obtain ⟨t',rfl⟩:=ry
  cases x with
  | non=>cases rx;exact SeqAt.EqAt.int_none a t'
  | bl b=>cases rx;exact SeqAt.EqAt.int_bool a t' b
  | int b=>obtain ⟨t,rfl⟩:=rx;exact SeqAt.EqAt.int_int a t' b t
  | str b=>obtain ⟨t,rfl⟩:=rx;exact SeqAt.EqAt.int_str a t' b t
  | _=>exact absurd (show false=true from fx) Bool.false_ne_true
 | str a =>
  obtain ⟨t',rfl⟩:=ry
  cases x with
  | non=>cases rx;exact SeqAt.EqAt.str_none a t'
  | bl b=>cases rx;exact SeqAt.EqAt.str_bool a t' b
  | int b=>obtain ⟨t,rfl⟩:=rx;exact SeqAt.EqAt.str_int a t' b t
  | str b=>obtain ⟨t,rfl⟩:=rx;exact SeqAt.EqAt.str_str a t' b t
  | _=>exact absurd (show false=true from fx) Bool.false_ne_true
 | _=>exact absurd (show false=true from fy) Bool.false_ne_true
def eqU (x:V) (u:Value):Bool:=match u with
 | .none=>eqV .non x
 | .bool b=>eqV (.bl b) x
 | .int i _=>eqV (.int i) x
 | .str z _=>eqV (.str z) x
 | _=>false
theorem zB1 {y:V} {u:Value} (r:jO y u) (f:QL y=true):eqU x u=eqV y x:=by
 cases y with
 | non=>cases r;rfl
 | bl b=>cases r;rfl
 | int i=>obtain ⟨t,rfl⟩:=r;rfl
 | str z=>obtain ⟨t,rfl⟩:=r;rfl
 | _=>exact absurd (show false=true from f) Bool.false_ne_true
theorem YF {x:V} : ∀ {xs:List V} {us:List Value},z9 xs us->xs.all QL=true->us.any (eqU x)=xs.any fun y=>eqV y x
 | _,_,.nil,_=>rfl
 | y::xs,u::us,.cons r t,f=>by
  rw [List.all_cons,Bool.and_eq_true] at f
  rw [List.any_cons,List.any_cons,zB1 r f.1,YF t f.2]
theorem ZJ {A:Around} {s:Shared} {x:V} {v:Value} (rx:jO x v) (fx:QL x=true) : ∀ {xs:List V} {us:List Value},z9 xs us->xs.all QL=true -> ∀ u ∈ us,SeqAt.EqAt A s u v (eqU x u)
 | _,_,.nil,_=>fun u hu=>by cases hu
 | y::xs,u::us,.cons r t,f=>fun u' hu=>by
  rw [List.all_cons,Bool.and_eq_true] at f
  rcases List.mem_cons.mp hu with rfl | hu
  ·rw [zB1 r f.1];exact zFL r rx f.1 fx
  ·exact ZJ rx fx t f.2 u' hu
def inV (x:V) (xs:List V):Bool:=xs.any fun y=>eqV y x
def rIn (K:W.Frag) (neg:Bool):R2:=fun x y H Q=>∃ p xs,y = .ref p/\(SqL K H p xs\/SqT K H p xs)/\QL x=true/\xs.all QL=true/\Q (.bl (if neg then !inV x xs else inV x xs)) H
theorem Kr:OpR X (compareOp .In) (rIn X.K false):=by
 intro pins s σ H x y v u Q I rx ry h
 obtain ⟨p,xs,rfl,hq,fx,fs,q⟩:=h
 cases ry
 rcases hq with hq | hq
 ·obtain ⟨its,r,pl,hz⟩:=I.list hq
  refine SeqAt.in_listAt (eqU x) pl.isList (fun w hw=>ZJ rx fx r fs w (by simpa using hw)) ⟨.bl _,H,I,rfl,?_⟩
  rw [show its.toArray.any (eqU x)=its.any (eqU x) by simp,YF r fs]
  exact q
 ·obtain ⟨its,r,pl,hz⟩:=I.tuple hq
  refine SeqAt.in_tupleAt (eqU x) pl (fun w hw=>ZJ rx fx r fs w (by simpa using hw)) ⟨.bl _,H,I,rfl,?_⟩
  rw [show its.toArray.any (eqU x)=its.any (eqU x) by simp,YF r fs]
  exact q
theorem Je:jx X (.builtin "len") (fun xs H Q=>∃ p ys,xs=[.ref p]/\(SqL X.K H p ys\/SqT X.K H p ys)/\Q (.int ys.length) H):=by
 intro pins s σ H xs us Q I r h
 obtain ⟨p,ys,rfl,hq,q⟩:=h
 obtain ⟨u,rfl,rx⟩:=JH r
 cases rx
 have hn:=Jd
 rcases hq with hq | hq
 ·obtain ⟨its,r',pl,hz⟩:=I.list hq
  have hlen:=r'.length
  exact Calls.call_len_list pl.isList (by simp only [size_toArray] <;> omega) ⟨.int ys.length,H,I.tok _,⟨s.toks+1,by rw [size_toArray,hlen]⟩,q⟩
 ·obtain ⟨its,r',pl,hz⟩:=I.tuple hq
  have hlen:=r'.length
  exact len_tuple pl (by simp only [size_toArray] <;> omega) ⟨.int ys.length,H,I.tok _,⟨s.toks+1,by rw [size_toArray,hlen]⟩,q⟩
theorem J5:jx X (.builtin "len") (fun xs H Q=>∃ z,xs=[.str z]/\z.length<=sizeLine/\Q (.int z.length) H):=by
 intro pins s σ H xs us Q I r h
 obtain ⟨z,rfl,hz,q⟩:=h
 obtain ⟨u,rfl,t,rfl⟩:=JH r
 have hn:=Jd
 exact len_str (by omega) ⟨.int z.length,H,I.tok _,⟨_,rfl⟩,q⟩
theorem J4:jx X (.type "list") (fun xs H Q=>∃ p ys,xs=[.ref p]/\(SqL X.K H p ys\/SqT X.K H p ys) /\ ∀ l,H l=none->Q (.ref l) (upd H l (.lst ys))):=by
 intro pins s σ H xs us Q I r h
 obtain ⟨p,ys,rfl,hq,q⟩:=h
 obtain ⟨u,rfl,rx⟩:=JH r
 cases rx
 have fin : ∀ (its:List Value),z9 ys its->ys.length<=sizeLine -> ∀ (h':Heap) (c':Nat),(∀ b o',s.heap.get? b=some o'->h'.get? b=some o') ->
   h'.get? s.heap.objs.size=some { cls:=.type "list", dict:=none,data:=.seq its.toArray c',slots:=#[] }->EP X pins σ Q (.ref s.heap.objs.size) { s with heap:=h' }:=fun its r' hz h' c' kp e =>
  ⟨.ref s.heap.objs.size,_,I.laid (t':=s.toks) kp (le_refl _) (show jr X.prog X.w _ h' _ (.lst ys) from ⟨hz,its,c',r',e⟩),rfl,q _ (I.hok.fresh (le_refl _))⟩
 rcases hq with hq | hq
 ·obtain ⟨its,r',pl,hz⟩:=I.list hq
  have hlen:=r'.length
  obtain ⟨o,ho,hc,n,hd⟩:=pl.isList
  exact call_list_seq p (.inl rfl) ho hc hd (fun h' c' kp e=>fin its r' hz h' c' kp e) (by simp only [size_toArray] <;> omega)
 ·obtain ⟨its,r',pl,hz⟩:=I.tuple hq
  have hlen:=r'.length
  obtain ⟨o,ho,hc,n,hd⟩:=pl
  exact call_list_seq p (.inr rfl) ho hc hd (fun h' c' kp e=>fin its r' hz h' c' kp e) (by simp only [size_toArray] <;> omega)
def tyV (K:W.Frag) (T:String) (x:V) (H:Hp):Prop:=match x with
 | .str _=>T = "str"
 | .int _=>T = "int"
 | .ref p=>(T = "list" /\ ∃ xs,SqL K H p xs)\/(T = "tuple" /\ ∃ o,K.lookup p=some o/\o.cls = .type "tuple" /\ o.dict=none) \/
   (T = "dict" /\ ((∃ kvs,H p=some (.dK kvs)) \/ ∃ kvs,H p=some (.dT kvs)))\/(T = "set" /\ ∃ S n,H p=some (.set S n))
 | _=>False
theorem zB2 {pins:List (Addr × Obj)} {σ:St} {H:Hp} {T:String} {v:Value} (I:Inv X pins σ H s) (r:jO x v) (ty:tyV X.K T x H) :
  s.TypeIs v T /\ ∀ a,v = .ref a -> ∃ ob,s.heap.get? a=some ob/\ob.dict=none:=by
 cases x with
 | str z =>
  obtain ⟨t,rfl⟩:=r
  cases (show T = "str" from ty)
  exact ⟨typeIs_str s z t,fun _ e=>nomatch e⟩
 | int i =>
  obtain ⟨t,rfl⟩:=r
  cases (show T = "int" from ty)
  exact ⟨typeIs_int s i t,fun _ e=>nomatch e⟩
 | ref p =>
  cases r
  rcases ty with ⟨rfl,xs,hq⟩ | ⟨rfl,o,hk,hc,hd⟩ | ⟨rfl,hk⟩ | ⟨rfl,S,n,hk⟩
  ·obtain ⟨its,_,pl,_⟩:=I.list hq
   refine ⟨pl.isList.typeIs,fun a e=>?_⟩
   cases e
   obtain ⟨o,n,e,c,hd,_⟩:=pl
   exact ⟨o,e,hd⟩
  ·refine ⟨⟨o,I.kIn p o hk,hc⟩,fun a e=>?_⟩
   cases e
   exact ⟨o,I.kIn _ o hk,hd⟩
  ·have z : ∃ o,s.heap.get? p=some o/\o.ExactDict:=by
    rcases hk with ⟨kvs,hk⟩ | ⟨kvs,hk⟩
    ·obtain ⟨_,_,_,_,o,_,_,e,ex,_⟩:=I.hok p _ hk
     exact ⟨o,e,ex⟩
    ·obtain ⟨_,_,_,_,o,_,_,e,ex,_⟩:=I.hok p _ hk
     exact ⟨o,e,ex⟩
   obtain ⟨o,e,ex⟩:=z
   refine ⟨⟨o,e,ex.1⟩,fun a e2=>?_⟩
   cases e2
   exact ⟨o,e,ex.2.1⟩
  ·obtain ⟨o,_,_,_,e,ex,_⟩:=I.hok p _ hk
   refine ⟨⟨o,e,ex.1⟩,fun a e2=>?_⟩
   cases e2
   exact ⟨o,e,ex.2.1⟩
 | _=>exact False.elim ty
def zHe (K:W.Frag) (T:String) (r:V->List V->Hp->VK->Prop) (to:TE):TE:=fun σ H Q=>to σ H fun x H1=>tyV K T x H1/\r x [] H1 Q
def tBM (K:W.Frag) (T:String) (r:V->List V->Hp->VK->Prop) (to:TE) (t:TA):TE:=fun σ H Q=>to σ H fun x H1=>tyV K T x H1/\t σ H1 fun xs H2=>r x xs H2 Q
variable {o e : Expr} {es : List Expr} {to : TE} {t : TA} {name : Str} {apos cpos : Pos} {T id : String} {r : V -> List V -> Hp -> VK -> Prop}
theorem zDx (pa:PlainAttrs T) (slot:Slot T name id) (hty:typeOf (.builtin id)=pure (.type "method_descriptor")) (hm:MtR X id r) (ho:PE X o to)
  (hbase:attributeBase o name X.env (eval o X.env)=eval o X.env:=by rfl) (hline:(apos.endLine == cpos.line)=true:=by rfl):PE X (.Call (.Attribute o name apos) [] [] cpos) (zHe X.K T r to):=by
 intro pins s σ H Q I h
 refine wpAny_Call_method0_late hbase hline (thn (ho pins s σ H _ I h) fun v s1 zq=>?_)
 obtain ⟨x,H1,I1,r1,ty,q1⟩:=zq
 obtain ⟨h1,h2⟩:=zB2 I1 r1 ty
 exact ⟨T,id,pa,slot,hty,h1,h2,Calls.callWith_builtin rfl (PySem.evalArgs_none (hm pins s1 σ H1 x [] v [] Q I1 r1 .nil q1))⟩
theorem ki (pa:PlainAttrs T) (slot:Slot T name id) (hty:typeOf (.builtin id)=pure (.type "method_descriptor")) (hm:MtR X id r) (ho:PE X o to) (ha:PA X (e::es) t)
  (hbase:attributeBase o name X.env (eval o X.env)=eval o X.env:=by rfl)
  (hfew:((backTo cpos (starEach (e::es) X.env)).all (fun x=>!x.1) && (backToKw cpos (keywordEach [] X.env)).all (fun x=>x.1.isSome)
   && decide ((e::es).length+([]:List Keyword).length+(if ([]:List Keyword).isEmpty then 0 else 1) < 30))=true:=by rfl)
  (hline:(apos.endLine == cpos.line)=true:=by rfl) (hs:starEach (e::es) X.env=(false,eval e X.env)::starEach es X.env:=by rfl) (hplain:(backTo cpos (starEach es X.env)).any (·.1)=false:=by rfl) :
  PE X (.Call (.Attribute o name apos) (e::es) [] cpos) (tBM X.K T r to t):=by
 intro pins s σ H Q I h
 refine wpAny_Call_method_late hbase hfew hline rfl (thn (ho pins s σ H _ I h) fun v s1 zq=>?_)
 obtain ⟨x,H1,I1,r1,ty,q1⟩:=zq
 obtain ⟨h1,h2⟩:=zB2 I1 r1 ty
 refine ⟨T,id,pa,slot,hty,h1,h2,?_⟩
 have hA:=ha cpos pins s1 σ H1 _ I1 q1
 rw [hs] at hA ⊢
 refine Calls.callWith_builtin (by show (false || (backTo cpos (starEach es X.env)).any (·.1))=false;rw [hplain] <;> rfl) (Calls.evalArgs_plain ?_)
 exact thn hA fun us s2 ⟨vs,H2,I2,r2,q2⟩=>hm pins s2 σ H2 x vs v us Q I2 r1 r2 q2
end
def MtM (X:Cx) (id:String) (r:V->List V->Hp->VK->Prop):Prop:=
 ∀ (pins:List (Addr × Obj)) (s:Shared) (σ:St) (H:Hp) (x:V) (xs:List V) (v:Value) (us:List Value) (Q:VK),Inv X pins σ H s->jO x v->z9 xs us->r x xs H Q ->
  wpAny (model X.prog X.w) X.A (call (.builtin id) (v::us)) (EP X pins σ Q) X.xe s
theorem z9.one : ∀ {x:V} {us:List Value},z9 [x] us -> ∃ u,us=[u]/\jO x u
 | _,_,.cons r .nil=>⟨_,rfl,r⟩
theorem z9.zero : ∀ {us:List Value},z9 [] us->us=[]
 | _,.nil=>rfl
theorem z9.dropLast {xs:List V} {us:List Value} (h:z9 xs us):z9 xs.dropLast us.dropLast:=by
 induction h with
 | nil=>exact .nil
 | cons r t ih =>
  cases t with
  | nil=>exact .nil
  | cons q t'=>exact .cons r ih
theorem z9.reverse {xs:List V} {us:List Value} (h:z9 xs us):z9 xs.reverse us.reverse:=by
 induction h with
 | nil=>exact .nil
 | cons r t ih=>rw [List.reverse_cons,List.reverse_cons];exact z9.append ih (.cons r .nil)
theorem z9.rep {xs:List V} {us:List Value} (h:z9 xs us) : ∀ k:Nat,z9 (List.replicate k xs).flatten (List.replicate k us).flatten
 | 0=>.nil
 | k+1=>by
  rw [List.replicate_succ,List.replicate_succ,List.flatten_cons,List.flatten_cons]
  exact z9.append h (z9.rep h k)
section
variable {X : Cx} {pins : List (Addr × Obj)} {σ : St} {H : Hp} {s : Shared} {l b : Addr} {xs ys zs : List V}
theorem Inv.lset {its its':List Value} {f:Array Value->Array Value} {t':Nat} (I:Inv X pins σ H s) (hH:H l=some (.lst xs))
  (e:s.heap.get? l=some { cls:=.type "list", data:=.seq its.toArray n }) (hf:f its.toArray=its'.toArray) (hv:z9 ys its') (hz:ys.length<=sizeLine) :
  Inv X pins σ (upd H l (.lst ys)) { s with heap:=s.heap.update l (Obj.mapSeq f),toks:=t' }:=by
 have q:=PySem.IsL.update e f
 rw [hf] at q
 refine I.write (x:=l) (e:=l) (by rw [hH];exact trivial) (.inl rfl) (fun b' u hb hu=>(Heap.get?_update_other s.heap (Obj.mapSeq f) (Ne.symm hb)).trans hu) ⟨_,q⟩ ?_
 exact ⟨hz,its',_,hv,q⟩
theorem Inv.lnew {its:List Value} {t':Nat} (I:Inv X pins σ H s) (hv:z9 ys its) (hz:ys.length<=sizeLine) :
  Inv X pins σ (upd H s.heap.objs.size (.lst ys)) { s with heap:=s.heap.push { cls:=.type "list", data:=.seq its.toArray },toks:=t' }:=
 I.laid (fun _ _ q=>Heap.get?_push_of_some _ q) (le_refl _) ⟨hz,its,0,hv,Heap.get?_push_size _ rfl⟩
theorem Inv.fresh (I:Inv X pins σ H s):H s.heap.objs.size=none:=I.hok.fresh (le_refl _)
theorem Inv.lstM (I:Inv X pins σ H s) (hH:H l=some (.lst xs)):xs.length<=sizeLine /\ ∃ (its:List Value) (n:Nat),z9 xs its/\xs.length=its.length/\s.heap.get? l=some { cls:=.type "list", data:=.seq its.toArray n }:=by
 obtain ⟨z,its,n,r,e⟩:=I.hok l _ hH
 exact ⟨z,its,n,r,r.length,e⟩
theorem zAN (h:n<=sizeLine):Builtin.List.listTooLong n=false:=by
 unfold Builtin.List.listTooLong
 exact decide_eq_false (by omega)
end
section
variable {X : Cx}
def Xg:V->List V->Hp->VK->Prop:=fun x vs H Q=>∃ l xs y,x = .ref l/\vs=[y]/\H l=some (.lst xs)/\xs.length < sizeLine/\Q .non (upd H l (.lst (xs++[y])))
theorem yI:MtM X "list.append" Xg:=by
 intro pins s σ H x vs v us Q I rx rv h
 obtain ⟨l,xs,y,rfl,rfl,hH,hz,q⟩:=h
 cases rx
 obtain ⟨u,rfl,ru⟩:=rv.one
 obtain ⟨z,its,n,r,hl,e⟩:=I.lstM hH
 refine call_meets F.slot_list_append ⟨_,e,rfl⟩ F.entry_list_append (F.args_list_append_2 _ _) (PySem.list_append l its.toArray n u (by rw [size_toArray];omega)) ⟨e,?_⟩
 refine ⟨.non,_,I.lset (its':=its++[u]) hH e (by simp) (r.append (.cons ru .nil)) ?_,rfl,q⟩
 rw [length_append,List.length_singleton]
 omega
def zCt:V->List V->Hp->VK->Prop:=fun x vs H Q=>∃ l b xs zs,x = .ref l/\vs=[.ref b]/\H l=some (.lst xs)/\H b=some (.lst zs)/\xs.length+zs.length<=sizeLine/\Q .non (upd H l (.lst (xs++zs)))
theorem KO:MtM X "list.extend" zCt:=by
 intro pins s σ H x vs v us Q I rx rv h
 obtain ⟨l,b,xs,zs,rfl,rfl,hH,hB,hz,q⟩:=h
 cases rx
 obtain ⟨u,rfl,ru⟩:=rv.one
 cases ru
 obtain ⟨z,its,n,r,hl,e⟩:=I.lstM hH
 obtain ⟨z2,its2,n2,r2,hl2,e2⟩:=I.lstM hB
 have hsz:its.toArray.size+its2.toArray.size<=sizeLine:=by rw [size_toArray,size_toArray];omega
 have hlong : ¬ (!its.toArray.isEmpty && Builtin.List.listTooLong (its.toArray.size+its2.toArray.size))=true:=by
  rw [zAN hsz,Bool.and_false]
  exact Bool.false_ne_true
 refine call_meets F.slot_list_extend ⟨_,e,rfl⟩ F.entry_list_extend (F.args_list_extend_2 _ _)
  (AutoSeq1.list_extend_list_list_0 l its.toArray n b its2.toArray n2 hlong (by rw [size_toArray];omega) (by omega)) ⟨e,e2,?_⟩
 refine ⟨.non,_,I.lset (its':=its++its2) hH e (by simp) (r.append r2) ?_,rfl,q⟩
 rw [length_append]
 omega
def Yc:V->List V->Hp->VK->Prop:=fun x vs H Q=>∃ l xs,x = .ref l/\vs=[]/\H l=some (.lst xs)/\Q .non (upd H l (.lst xs.reverse))
theorem VE:MtM X "list.reverse" Yc:=by
 intro pins s σ H x vs v us Q I rx rv h
 obtain ⟨l,xs,rfl,rfl,hH,q⟩:=h
 cases rx
 have hus:=rv.zero
 subst hus
 obtain ⟨z,its,n,r,hl,e⟩:=I.lstM hH
 refine call_meets F.slot_list_reverse ⟨_,e,rfl⟩ F.entry_list_reverse (F.args_list_reverse_1 _) (AutoSeq1.list_reverse_list_0 l its.toArray n (by rw [size_toArray];omega)) ⟨e,?_⟩
 refine ⟨.non,_,I.lset (its':=its.reverse) hH e (by simp) r.reverse ?_,rfl,q⟩
 rw [List.length_reverse]
 omega
def zGn:R2:=fun x y H Q=>∃ l b xs zs,x = .ref l/\y = .ref b/\H l=some (.lst xs)/\H b=some (.lst zs)/\xs.length+zs.length<=sizeLine /\ ∀ p,H p=none->Q (.ref p) (upd H p (.lst (xs++zs)))
theorem WO:OpR X (binaryOp .Add) zGn:=by
 intro pins s σ H x y v u Q I rx ry h
 obtain ⟨l,b,xs,zs,rfl,rfl,hH,hB,hz,q⟩:=h
 cases rx
 cases ry
 obtain ⟨z,its,n,r,hl,e⟩:=I.lstM hH
 obtain ⟨z2,its2,n2,r2,hl2,e2⟩:=I.lstM hB
 refine PySem.P.add_list e e2 ?_ (by rw [size_toArray,size_toArray];omega)
 have ea:its.toArray++its2.toArray=(its++its2).toArray:=by simp
 rw [ea]
 exact ⟨.ref _,_,I.lnew (t':=s.toks) (r.append r2) (by rw [length_append];omega),rfl,q _ I.fresh⟩
end
section
variable {prog : Program} {w : World} {A : Around} {E : Value -> Shared -> Prop} {s : Shared}
set_option maxRecDepth 100000 in
end
end L2
namespace Att
open PySem PySem.W PySem.Calls PyProof.Rows
theorem Zn {P:Params} {h:Heap} : ∀ (ns:List Int) (vs:List Value),WellAll P h vs (ns.map WData.int)->IntsAre vs ns:=by
 intro ns
 induction ns with
 | nil =>
  intro vs w
  rw [List.map_nil] at w
  cases w
  exact .nil
 | cons n ns ih =>
  intro vs w
  rw [List.map_cons] at w
  cases w with
  | cons a b =>
   cases a
   exact .cons _ _ (ih _ b)
theorem Km {l:OpenLaw} {n:Nat} (hn:l.most=some n) {P:Params} {h:Heap} {args:List WData} {vals:List Value}
  (hpre:l.row.toRowW.claim.pre args=true) (hwl:WellAll P h vals args) :
  ∃ a vs ns,vals=[Value.ref a]/\args=[WData.list (ns.map WData.int)]/\h.get? a=some { cls:=.type "list", data:=.seq vs.toArray }/\IntsAre vs ns/\ns.length<=n:=by
 have hsh:WShape.hasAll [] args [.list .int]=true:=(pre_splitW hpre).1
 have hc:l.pre.holds [] { args:=args }=true:=(pre_splitW hpre).2
 obtain ⟨d,r,rfl,h1,h2⟩:=hasAllW_cons hsh
 obtain rfl:=hasAllW_nil h2
 obtain ⟨xs,rfl,h3⟩:=hasW_list h1
 obtain ⟨ns,rfl⟩:=items_int h3
 have hlen:ns.length<=n:=by
  unfold OpenLaw.pre at hc
  have h4:(WTm.not (.lt (.lit (.int (n:Int))) (.len (.arg 0)))).holds [] { args:=[.list (ns.map .int)] }=true:=by
   have h4:=(holds_andW hc).1
   rw [hn] at h4
   exact h4
  have h5:=condW_of h4 (w_not (w_lt w_lit (w_len_list (w_arg rfl))))
  rw [List.length_map] at h5
  refine Nat.le_of_not_lt fun q=>?_
  have q':(n:Int) < ((ns.length:Nat):Int):=by omega
  first
   | (rw [decide_eq_true q'] at h5;exact absurd h5 (by decide))
   | (simp at h5;omega)
 cases hwl with
 | cons w1 w2 =>
  cases w2
  cases w1 with
  | list ho hall=>exact ⟨_,_,ns,rfl,rfl,ho,Zn ns _ hall,hlen⟩
theorem Kc (l:OpenLaw) (args:List WData):l.row.toRowW.claim.post args (.bool true) args=true:=
 postW_of (r:=l.row.toRowW) (X:=(true == true))
  (show WShape.has [] (.bool true) .bool=true by first | rfl | decide | simp [WShape.has,WShape.arms,WShape.armsAll])
  (show (WTm.eq .res (.lit (.bool true))).value [] { args:=args,res:=some (.bool true),after:=args }=some (.bool (true == true)) from w_eq_bool (w_res rfl) w_lit) rfl
theorem attach_call {l:OpenLaw} {n:Nat} {q:Program} {loose:List Str} {XP:(Str->Option Value)->Heap->Prop} {YP:World->Heap->Prop} {d:DefRec}
  (hn:l.most=some n) (hdf:d.params.defaults=[])
  (call : ∀ (w:World) (s₀ s₁:Shared) (mg mb:Str->Option Value) (fa:Addr) (o:Obj) (pm cd doc:Value) (a:Addr) (vs:List Value) (ns:List Int),
   Ground q loose [] XP w s₀ mg mb s₁.heap->YP w s₁.heap ->
   s₁.heap.get? fa=some o->o.data = .func (docDef d.name d.params d.body d.scope pm cd doc)->s₁.heap.CodeRec cd d.name->mg d.name=some (.ref fa) ->
   s₁.heap.get? a=some { cls:=.type "list", data:=.seq vs.toArray }->IntsAre vs ns->ns.length<=n->s₁.gens = #[] ->
   codeAny (model l.prog w) callerA (.call (.ref fa) ⟨[.ref a],[]⟩) (fun r s'=>r = .ok (.ret (.bool true))/\OldK s₁.heap s'.heap/\s'.os=s₁.os/\AllBare s'.gens) s₁) :
  WalkO q loose XP YP l.row.toRowW d [] (fun f vs=>PySem.call f vs):=by
 intro w s₀ s₁ mg mb G Y fa o pm cd doc dV kV ho hd hcd hD hmg hg args vals as hpre hlay hrd hwl hlo
 obtain rfl:dV = .none:=Dflts.none hD hdf
 obtain rfl:kV = .none:=Dflts.noKw hD
 obtain ⟨a,vs,ns,rfl,rfl,hobj,hints,hlen⟩:=Km hn hpre hwl
 refine enter_call (codeAny_mono (call w s₀ s₁ mg mb fa o pm cd doc a vs ns G Y ho (fd_plain hd) hcd hmg hobj hints hlen hg) fun r s' hq=>?_)
 obtain ⟨rfl,h2,h3,h4⟩:=hq
 exact ⟨.inl ⟨.bool true,.bool true,[],rfl,fun _=>rfl,.bool true,Kc l _,fun _=>⟨List.Pairwise.nil,fun _ hm=>(nomatch hm)⟩⟩,h2,h3,h4⟩
end Att
namespace L2
open PySem PySem.Spec PyProof.Rows
open List (append_assoc drop_of_length_le drop_zero eq_nil_of_length_eq_zero find?_cons find?_toArray foldl_cons getD_eq_getElem?_getD getElem?_eq_getElem getElem?_map getElem_mem length_append length_cons length_drop length_map length_reverse length_singleton length_take lookup_cons map_cons mem_append_left mem_append_right mem_cons reverse_reverse take_append_of_le_length take_length take_of_length_le)
open Nat (eq_zero_or_pos le_trans lt_irrefl lt_of_lt_of_le lt_or_ge mod_eq_of_lt ne_of_lt)
open Int (max_eq_right)
theorem XN : ∀ {vs:List Value} {ns:List Int},IntsAre vs ns->z9 (ns.map V.int) vs
 | _,_,.nil=>.nil
 | _,_,.cons n t h=>.cons ⟨t,rfl⟩ (XN h)
def zGP (H:Hp):Prop:=∀ b,H b=none \/ ∃ o xs,H b=some (.frz o (.lst xs))
variable {P:Program} {w:World} {K:W.Frag} {mg:Str->Option Value} {k:Nat} {a:Addr} {fd:FuncData} {x:Str} {sp:Sp}
theorem zAX {mb:Str->Option Value} {CX:CXT} {fa:Addr} {s₁:Shared} {vs:List Value} {ns:List Int}
  (KX:K.In s₁.heap) (hns:s₁.heap.Ns mainGlobals mg) (hb:s₁.heap.Ns builtinsNs mb) (hbb : ∀ x:Str,x ≠ "__name__" -> mb x=bootBuiltins x) (hlim:s₁.heap.NoLimit) (hg:s₁.gens = #[])
  (ha:s₁.heap.get? a=some { cls:=.type "list", data:=.seq vs.toArray }) (hi:IntsAre vs ns) (hl:ns.length<=sizeLine) (hr:xA k callerA)
  (F : ∀ base:Heap,K.In base->base.Ns mainGlobals mg->xG P w K mg base CX k fa fd [x] sp) (hbind : ∀ (s:Shared) (u:Value),BindsTo s fd ⟨[u],[]⟩ [(x,u)])
  (hsp : ∀ H:Hp,zGP H->SqL K H a (ns.map V.int)->sp [.ref a] H (fun v _=>v = .bl true) fun _ _ _=>False)
  (hCX : ∀ H e s',CX [] H s₁ (fun _ _ _=>False) e s'->False) :
  codeAny (model P w) callerA (.call (.ref fa) ⟨[.ref a],[]⟩) (fun r s'=>r = .ok (.ret (.bool true))/\OldK s₁.heap s'.heap/\s'.os=s₁.os/\AllBare s'.gens) s₁:=by
 have rv:=XN hi
 have lenV:=hi.length
 have core : ∀ H:Hp,zGP H->SqL K H a (ns.map V.int)->HOk P w H s₁.heap->(∀ b,H b≠none->b=a)->(H a≠none->K.lookup a=none) ->
   codeAny (model P w) callerA (.call (.ref fa) ⟨[.ref a],[]⟩) (fun r s'=>r = .ok (.ret (.bool true))/\OldK s₁.heap s'.heap/\s'.os=s₁.os/\AllBare s'.gens) s₁:=by
  intro H hO hS hok hA hK
  have base_of : ∀ {b:Addr} {o:Obj},s₁.heap.get? b=some o->H b=none->(zAR s₁.heap H).get? b=some o:=fun e n=>zAW e n
  have noA : ∀ {b:Addr} {o:Obj} {es:Array DictEntry} {ep:Nat},s₁.heap.get? b=some o->o.data = .dict es ep->H b=none:=fun {b o es ep} e d=>by
   cases q:H b with
   | none=>rfl
   | some u =>
    have e':b=a:=hA b (by rw [q];simp)
    subst e'
    rw [ha] at e;cases e
    have d':Data.seq vs.toArray _=Data.dict es ep:=d
    cases d'
  have nsK : ∀ {b:Addr} {m:Str->Option Value},s₁.heap.Ns b m->(zAR s₁.heap H).Ns b m:=fun {b m} ⟨o,es,ep,e,d,r⟩=>⟨o,es,ep,base_of e (noA e d),d,r⟩
  have hKb:K.In (zAR s₁.heap H):=fun b o e=>base_of (KX b o e) (by
   cases q:H b with
   | none=>rfl
   | some u =>
    have e':b=a:=hA b (by rw [q];simp)
    subst e'
    rw [hK (by rw [q];simp)] at e;cases e)
  have hM:Mod K mg (zAR s₁.heap H):=⟨hKb,nsK hns,⟨mb,nsK hb,hbb⟩,let ⟨mc,h1,h2⟩:=hlim;⟨mc,nsK h1,h2⟩⟩
  have e0:VV P w K mg (zAR s₁.heap H) callerA [] s₁ H:=⟨rfl,hM,fun b o e=>zDd e,Nat.le_of_eq (WU _ _),trivial,fun b hb=>absurd (show b ∈ ([]:List Addr) from hb) (by simp),hok,.of_eq hg⟩
  refine codeAny_mono ((F _ hKb (nsK hns)).run callerA [] s₁ H ⟨[.ref a],[]⟩ [.ref a] [.ref a] _ _ hr e0 (hbind s₁ (.ref a)) (.cons rfl .nil) (hsp H hO hS)) fun r s' h=>?_
  cases r with
  | error e=>exact (hCX H e s' h).elim
  | ok fl =>
   cases fl with
   | next=>exact False.elim h
   | brk=>exact False.elim h
   | cont=>exact False.elim h
   | ret u =>
    obtain ⟨v,H',os,bare,un,hok',r',q⟩:=h
    have q':v = .bl true:=q
    subst q'
    obtain rfl:u=Value.bool true:=r'
    refine ⟨rfl,OldK.of_keep fun b o e=>?_,os,bare⟩
    cases q:H b with
    | none=>exact un.keep b o e q (by intro z;exact absurd (show b ∈ ([]:List Addr) from z) (by simp)) (by simp)
    | some u =>
     rcases hO b with z | ⟨ob,xs,z⟩
     ·rw [q] at z;cases z
     ·have z2:=un.frzs b ob _ z
      obtain ⟨e1,_⟩:=hok b _ z
      obtain ⟨e2,_⟩:=hok' b _ z2
      rw [e] at e1;cases e1
      exact e2
 cases hk:K.lookup a with
 | some o =>
  have e:=KX a o hk
  rw [ha] at e
  cases e
  refine core (fun _=>none) (fun _=>.inl rfl) (.inr ⟨_,vs.toArray,_,hk,rfl,rfl,rfl,by rw [List.size_toArray,lenV];exact hl,by simpa using rv⟩) (fun b u z=>by have z':(none:Option HO)=some u:=z;cases z') (fun b z=>absurd rfl z) fun z=>absurd rfl z
 | none =>
  refine core (fun b=>if b=a then some (.frz { cls:=.type "list", data:=.seq vs.toArray } (.lst (ns.map V.int))) else none) (fun b=>?_) (.inl (.inr ⟨{ cls:=.type "list", data:=.seq vs.toArray },if_pos rfl⟩)) (fun b u z=>?_) (fun b z=>?_) fun _=>hk
  ·by_cases hb:b=a
   ·exact .inr ⟨_,_,if_pos hb⟩
   ·exact .inl (if_neg hb)
  ·by_cases hb:b=a
   ·have z':=(if_pos hb).symm.trans z
    cases z'
    subst hb
    exact ⟨ha,by rw [length_map];exact hl,vs,_,rv,ha⟩
   ·have z':=(if_neg hb).symm.trans z
    cases z'
  ·by_cases hb:b=a
   ·exact hb
   ·exact absurd (if_neg hb) z
variable {n:Nat}
theorem walk_of {l:W.OpenLaw} {q:Program} {loose:List Str} {XP:(Str->Option Value)->Heap->Prop} {YP:World->Heap->Prop} {d:DefRec} {K:Params->W.Frag} {CX:World->CXT} {sp:World->Sp}
  (hn:l.most=some n) (hn2:n<=sizeLine) (hdf:d.params.defaults=[]) (hr:xA k callerA)
  (hY : ∀ (w:World) (h:Heap),YP w h->(K w.params).In h)
  (F : ∀ (w:World) (mg:Str->Option Value) (fa:Addr) (h:Heap),(K w.params).In h->h.Ns mainGlobals mg->mg d.name=some (.ref fa) ->
   ∃ fd:FuncData,(∀ (s:Shared) (u:Value),BindsTo s fd ⟨[u],[]⟩ [(x,u)]) /\
    ∀ base:Heap,(K w.params).In base->base.Ns mainGlobals mg->xG l.prog w (K w.params) mg base (CX w) k fa fd [x] (sp w))
  (hsp : ∀ (w:World) (H:Hp) (a:Addr) (ns:List Int),ns.length<=n->zGP H->SqL (K w.params) H a (ns.map V.int)->sp w [.ref a] H (fun v _=>v = .bl true) fun _ _ _=>False)
  (hCX : ∀ (w:World) (H:Hp) (s:Shared) (e:Value) (s':Shared),CX w [] H s (fun _ _ _=>False) e s'->False) :
  W.WalkO q loose XP YP l.row.toRowW d [] (fun f vs=>PySem.call f vs):=by
 refine Att.attach_call hn hdf fun w s₀ s₁ mg mb fa o pm cd doc a vs ns G Y ho hd hcd hmg hobj hints hlen hg=>?_
 have KX:=hY w _ Y
 obtain ⟨fd,hb,hF⟩:=F w mg fa _ KX G.T.g hmg
 exact zAX KX G.T.g G.T.b G.T.builtins G.T.nolimit hg hobj hints (le_trans hlen hn2) hr hF hb (fun H hO hS=>hsp w H a ns hlen hO hS) fun H e s'=>hCX w H s₁ e s'
def qy (s:Stmt) (j:Nat):Stmt:=match s with
 | .ClassDef _ _ _ body _ _ _ _ _ _ _=>body.getD j (.Pass ⟨0,0,0,0⟩)
 | _=>.Pass ⟨0,0,0,0⟩
def qC (s:Stmt):Arguments:=match s with
 | .FunctionDef _ a _ _ _ _ _ _ _ _=>a
 | _=>{ posonlyargs:=[],args:=[],vararg:=none,kwonlyargs:=[],kw_defaults:=[],kwarg:=none,defaults:=[] }
def zm (s:Stmt):List Stmt:=match s with
 | .FunctionDef _ _ b _ _ _ _ _ _ _=>b
 | _=>[]
def zE (s:Stmt):Scope:=match s with
 | .FunctionDef _ _ _ _ _ _ sc _ _ _=>sc
 | _=>{ kind:=.function,names:=[],isGenerator:=false,isCoroutine:=false }
abbrev CX0:CXT:=fun _ _ _ _ _ _=>False
abbrev E0:XK:=fun _ _ _=>False
variable {X:Cx}
theorem jg:j5 CX0 X E0:=fun _ _ _ _ _ _ _ h=>h.elim
structure Fun (K:W.Frag) (x qual:Str) (st:Stmt) (f:Addr) (fd:FuncData):Prop where
 ex : ∃ (oc:Value) (od:Option Addr) (kV doc pm:Value) (an:Option Addr) (cdv ct:Value) (osl:Array (Option Value)),
  fd=W.fnOf x qual (qC st) (zm st) (zE st) .none kV doc pm an cdv ct/\K.lookup f=some ⟨oc,od,.func fd,osl⟩/\W.codeIn K cdv qual=true
 kp:W.keepIn K (.ref f)=true
section
variable {P : Program} {w : World} {K : W.Frag} {mg : Str -> Option Value} {base : Heap}
variable {qual:Str} {st:Stmt}
theorem Fun.ok {f:Addr} {N ps:List Str} (F:Fun K x qual st f fd) (S:zN N ps (zE st)) (len : ∀ vs H Q E,sp vs H Q E->vs.length=ps.length)
  (hbody : ∀ (cdv:Value) (A:Around) (outer:List Env) (s:Shared) (H:Hp) (vs:List V) (Q:VK) (E:XK),xA k (A.deeper (envOfC qual (zE st) s.heap.objs.size f cdv))->sp vs H Q E ->
   ∃ t,PSs (kC CX0 P w K mg base N qual (zE st) f cdv A outer s H E).nox (zm st) t/\t { nx:=fun _ H'=>Q .non H',rt:=Q } (start N vs) H):xG P w K mg base CX0 (k+1) f fd ps sp:=by
 obtain ⟨oc,od,kV,doc,pm,an,cdv,ct,osl,rfl,lk,hcd⟩:=F.ex
 refine V1 lk hcd S len fun A outer s H vs Q E hr hsp=>?_
 obtain ⟨t,h,q⟩:=hbody cdv A outer s H vs Q E hr hsp
 exact ⟨t,h.nox,q⟩
theorem Fun.binds {f:Addr} {ps:List Str} (F:Fun K x qual st f fd)
  (h : ∀ (kV doc pm:Value) (an:Option Addr) (cdv ct:Value) (us:List Value),us.length=ps.length->bindArgs (W.fnOf x qual (qC st) (zm st) (zE st) .none kV doc pm an cdv ct) ⟨us,[]⟩=pure (ps.zip us)):xJ K fd ps []:=by
 obtain ⟨oc,od,kV,doc,pm,an,cdv,ct,osl,rfl,lk,hcd⟩:=F.ex
 exact .all (h kV doc pm an cdv ct)
theorem zBe {f:Addr} {oc:Value} {od an:Option Addr} {osl:Array (Option Value)} {kV doc pm cdv ct:Value} (l:K.lookup f=some ⟨oc,od,.func (W.fnOf x qual (qC st) (zm st) (zE st) .none kV doc pm an cdv ct),osl⟩)
  (c:W.codeIn K cdv qual=true) (k:W.keepIn K (.ref f)=true):Fun K x qual st f (W.fnOf x qual (qC st) (zm st) (zE st) .none kV doc pm an cdv ct):=⟨⟨oc,od,kV,doc,pm,an,cdv,ct,osl,rfl,l,c⟩,k⟩
end
theorem qV (h:n<=1000):n < sizeLine:=Nat.lt_of_le_of_lt h (by decide)
section
variable {X : Cx}
theorem pv (i:Nat) {pos:Pos} (hN:X.N[i]? = some x:=by rfl) (hv:Vis X.env.scope x:=by first | exact Or.inl rfl | exact Or.inr (Or.inl rfl) | exact Or.inr (Or.inr rfl)) (hd:(x == ("__debug__" : Str))=false:=by decide)
  (hcd:(x == ("__classdict__" : Str))=false:=by decide):PE X (.Name x pos) (zG6 i):=zER hN hv hd hcd
end
variable {A B:Prop}
theorem zHr (h:B):if false=true then A else B:=by
 rw [if_neg Bool.false_ne_true]
 exact h
theorem zH1 (h:A):if true=true then A else B:=by
 rw [if_pos rfl]
 exact h
def zY (H H':Hp):Prop:=∀ b o,H b=some o->H' b=some o
theorem zY.refl (H:Hp):zY H H:=fun _ _ h=>h
variable {H:Hp}
theorem zY.trans {H1 H2:Hp} (a:zY H H1) (b:zY H1 H2):zY H H2:=fun c o h=>b c o (a c o h)
variable {H':Hp} {l:Addr}
theorem zY.free (e:zY H H') (h:H' l=Option.none):H l=Option.none:=by
 cases q:H l with
 | none=>rfl
 | some o =>
  rw [e l o q] at h
  cases h
variable {xs:List V}
theorem zY.seq (e:zY H H') (h:SqL K H a xs):SqL K H' a xs:=by
 rcases h with (h | ⟨o,h⟩) | h
 ·exact .inl (.inl (e _ _ h))
 ·exact .inl (.inr ⟨o,e _ _ h⟩)
 ·exact .inr h
set_option maxHeartbeats 4000000
abbrev GL:Int:=100000000000000000000000000000000000000000000000000000000000000000000000000000000000000000000000000000000000000000000000000000000000000000000000000000000000000000000000000000000000000000000000000000000
theorem WG {k:Int} (h1 : -GL < k) (h2:k < GL):Builtin.Int.intBits k<=1000:=by
 unfold Builtin.Int.intBits
 split
 ·exact Nat.zero_le _
 ·have hn:k.natAbs < 100000000000000000000000000000000000000000000000000000000000000000000000000000000000000000000000000000000000000000000000000000000000000000000000000000000000000000000000000000000000000000000000000000000:=by
   unfold GL at h1 h2;omega
  have hp:(100000000000000000000000000000000000000000000000000000000000000000000000000000000000000000000000000000000000000000000000000000000000000000000000000000000000000000000000000000000000000000000000000000000:Nat)<=2 ^ 999:=by decide +kernel
  have:k.natAbs.log2 < 999:=by
   rcases eq_zero_or_pos k.natAbs with h0 | hp'
   ·rw [h0];decide
   ·exact (Nat.log2_lt (Nat.ne_of_gt hp')).mpr (lt_of_lt_of_le hn hp)
  omega
def Ky (i j:Int):Prop:=(-GL < i/\i < GL)/\(-GL < j/\j < GL)
variable {i j:Int}
theorem Ky.ok (h:Ky i j):IntMulOk i j:=PySem.IntMulOk.of_le (WG h.1.1 h.1.2) (WG h.2.1 h.2.2) (by decide)
def zFP (i j:Int):Prop:=zD7 i j\/Ky i j
def zFa (i j:Int):Prop:=0 < j/\j < GL
def zGV (i j:Int):Prop:=j≠0 /\ -GL < j/\j < GL
theorem zH4 (h1 : -GL < j) (h2:j < GL):Builtin.divisionGoesByPylong i j=false:=by
 refine PyProof.noPylong_of_log2 ?_
 have hn:j.natAbs < 100000000000000000000000000000000000000000000000000000000000000000000000000000000000000000000000000000000000000000000000000000000000000000000000000000000000000000000000000000000000000000000000000000000:=by
  unfold GL at h1 h2;omega
 have hp:(100000000000000000000000000000000000000000000000000000000000000000000000000000000000000000000000000000000000000000000000000000000000000000000000000000000000000000000000000000000000000000000000000000000:Nat)<=2 ^ 999:=by decide +kernel
 have:j.natAbs.log2 < 999:=by
  rcases eq_zero_or_pos j.natAbs with h0 | hp'
  ·rw [h0];decide
  ·exact (Nat.log2_lt (Nat.ne_of_gt hp')).mpr (lt_of_lt_of_le hn hp)
 omega
section
variable {X : Cx} {a b : Expr} {ta tb : TE} {pos : Pos}
theorem jl:OpR X (binaryOp .Mult) (rI zFP fun i j=>.int (i*j)):=opI fun _ _ _ _ _ _ _ hc q=>mul_int q (hc.elim zD7.ok Ky.ok)
theorem qj:OpR X (binaryOp .FloorDiv) (rI zFa fun i j=>.int (i / j)):=opI fun i j _ _ _ _ _ hc q=>by
 have h1:(0:Int) < j:=hc.1
 have h2:=hc.2
 exact floordiv_int (by omega) (by rw [Int.fdiv_eq_ediv_of_nonneg i (by omega)];exact q) (.inl (zH4 (by unfold GL;omega) h2))
theorem zCC {k:Int} {n1 n2:Nat} {p1 p2:Pos} (hc:zGl i j) (e:i ^ j.toNat=k):PE X (.BinOp (.Constant (.int i) n1 p1) .Pow (.Constant (.int j) n2 p2) pos) (tC (.int k)):=by
 intro pins s σ H Q I h
 refine zO zET zB zB pins s σ H Q I ⟨i,j,rfl,rfl,hc,?_⟩
 show Q (.int (i ^ j.toNat)) H
 rw [e];exact h
def zGe:V->Value
 | .ty T=>.type T
 | .ref C=>.ref C
 | _=>.none
def zDs (K:W.Frag):List V->Hp->VK->Prop:=fun xs H Q=>∃ x c t b,xs=[x,c]/\YX K H x t/\(∃ T,c = .ty T \/ ∃ C,c = .ref C)/\W.kitOne K t (zGe c)=some b/\Q (.bl b) H
theorem ZH:jx X (.builtin "isinstance") (zDs X.K):=by
 intro pins s σ H xs us Q I r h
 obtain ⟨x,c,t,b,rfl,ty,hc,e,q⟩:=h
 obtain ⟨v,w,rfl,rx,rw'⟩:=zCh r
 have:w=zGe c:=by
  obtain ⟨T,rfl | ⟨C,rfl⟩⟩:=hc
  ·exact rw'
  ·exact rw'
 subst this
 exact KC I rx ty e fun tk=>⟨.bl b,H,I.tok _,rfl,q⟩
theorem z9.getD : ∀ {xs:List V} {us:List Value} (j:Nat) (h:j < us.length),z9 xs us->jO (xs.getD j .non) us[j]
 | _,_,j,h,.nil=>absurd h (Nat.not_lt_zero _)
 | _,_,0,_,.cons r _=>r
 | _,_,j+1,h,.cons _ t=>z9.getD j (Nat.lt_of_succ_lt_succ h) t
end
def Has (P:Program) (w:World) (K:W.Frag) (mg:Str->Option Value) (base:Heap) (x:Str) (k:Nat) (ps:List Str) (sp:Sp):Prop:=
 ∃ (f:Addr) (fd:FuncData),xG P w K mg base CX0 k f fd ps sp/\mg x=some (.ref f)/\W.keepIn K (.ref f)=true/\xJ K fd ps []
variable {ps:List Str} {p pos:Pos} {e:Expr} {es:List Expr} {t:TA}
theorem zG (F:Has X.prog X.w X.K X.mg X.base x k ps sp) (hr:xA n X.A) (hg:Gl X x) (ha:PA X (e::es) t) (hk:k<=n:=by decide)
  (hdb:(x == ("__debug__" : Str))=false:=by decide) (he:starEach (e::es) X.env=(false,eval e X.env)::starEach es X.env:=by rfl) (hpl:(backTo pos (starEach es X.env)).any (·.1)=false:=by rfl) :
  PE X (.Call (.Name x p) (e::es) [] pos) (Xn sp [] E0 t):=by
 obtain ⟨f,fd,G,hm,kp,hb⟩:=F
 exact zCO G (hr.mono hk) hg hm kp hb .nil jg ha hdb he hpl
theorem zI {id:String} {r:List V->Hp->VK->Prop} (hc:jx X (.builtin id) r) (hm:X.mg x=none) (hg:Gl X x) (hv:bootBuiltins x=some (.builtin id)) (ha:PA X (e::es) t) (hn:x ≠ "__name__" := by decide) (hdb:(x == ("__debug__" : Str))=false:=by decide)
  (he:starEach (e::es) X.env=(false,eval e X.env)::starEach es X.env:=by rfl) (hpl:(backTo pos (starEach es X.env)).any (·.1)=false:=by rfl):PE X (.Call (.Name x p) (e::es) [] pos) (tCB r t):=
 zA0 hc hg hm hv ha hn hdb he hpl
theorem jM {p:Addr} (h:H p=none) (o:HO):zY H (upd H p o):=fun b u q=>by rw [qB (z7 q h)];exact q
variable {o:HO}
theorem zY.at (g:zY H H') {b:Addr} (h:H b=some o):H' b=some o:=g b o h
theorem qY (h:n<=1000):n<=sizeLine:=Nat.le_of_lt (qV h)
section
variable {σ : St} {H : Hp} {Q : VK} {D : kD} {K : W.Frag}
variable {v:V}
theorem zGW {i:Nat} (e:σ[i]? = some (some v)) (h:Q v H):zG6 i σ H Q:=⟨v,e,h⟩
theorem r_c (h:Q v H):tC v σ H Q:=h
variable {ta tb:TE}
theorem zHf {r:R2} (h:ta σ H fun x H1=>tb σ H1 fun y H2=>r x y H2 Q):tOp r ta tb σ H Q:=h
theorem zHq {r:V->Hp->VK->Prop} (h:ta σ H fun x H1=>r x H1 Q):tUn r ta σ H Q:=h
theorem r_I {C:Int->Int->Prop} {g:Int->Int->V} (hc:C i j) (h:Q (g i j) H):rI C g (.int i) (.int j) H Q:=⟨i,j,rfl,rfl,hc,h⟩
theorem zHk {g:Int->Int->V} (h:Q (g i j) H):rI0 g (.int i) (.int j) H Q:=⟨i,j,rfl,rfl,h⟩
theorem r_U {g:Int->V} (h:Q (g i) H):rU g (.int i) H Q:=⟨i,rfl,h⟩
theorem zGj (h:Q (.bl (decide (i=j))) H):rEq (.int i) (.int j) H Q:=⟨rfl,by rw [show decide (V.int i=V.int j)=decide (i=j) by by_cases e:i=j <;> simp [e]];exact h⟩
theorem zGL (h:Q (.bl (!decide (i=j))) H):rNe (.int i) (.int j) H Q:=⟨rfl,by rw [show decide (V.int i=V.int j)=decide (i=j) by by_cases e:i=j <;> simp [e]];exact h⟩
variable {b:Bool}
theorem Vz {y:Str} (e:decide (x=y)=b) (h:Q (.bl b) H):rEq (.str x) (.str y) H Q:=⟨rfl,by rw [show decide (V.str x=V.str y)=decide (x=y) by by_cases e:x=y <;> simp [e],e];exact h⟩
variable {R:Bool->Hp->Prop}
theorem zEI {t:TE} (h:t σ H fun x H'=>∃ k,x = .bl k/\R k H'):zCv t σ H R:=h
theorem zH2 {t:TE} (h:t σ H fun x H'=>∃ k,x = .bl k/\R k H'):tB t σ H R:=h
theorem zFr {R:Bool->Prop} (h:R b) : ∃ k,V.bl b = .bl k/\R k:=⟨b,rfl,h⟩
theorem zGb {t u:TT} (h:t σ H fun c H1=>if c=true then u σ H1 R else R false H1):zHG t u σ H R:=h
theorem zHt {t u:TT} (h:t σ H fun c H1=>if c=true then R true H1 else u σ H1 R):tOr t u σ H R:=h
theorem zG7 {t:TT} (h:t σ H fun c H1=>R (!c) H1):zHX t σ H R:=h
theorem zF5 (h:ta σ H fun x H1=>∃ c,x = .bl c/\if c=true then tb σ H1 Q else Q (.bl false) H1):zF8 ta tb σ H Q:=h
theorem zFp (h:ta σ H fun x H1=>∃ c,x = .bl c/\Q (.bl (!c)) H1):zD8 ta σ H Q:=h
theorem zGM {t:TT} (h:t σ H fun c H1=>if c=true then ta σ H1 Q else tb σ H1 Q):tIf t ta tb σ H Q:=h
theorem zDT {r r':R2} {tc:TE} (h:ta σ H fun x H1=>tb σ H1 fun y H2=>r x y H2 fun z H3=>∃ k,z = .bl k/\(if k=true then tc σ H3 fun w' H4=>r' y w' H4 Q else Q (.bl false) H3)):zBM r r' ta tb tc σ H Q:=h
theorem zEq {t u:TS} (h:t { D with nx:=u D } σ H):zHK t u D σ H:=h
theorem zFw (h:D.nx σ H):zEn D σ H:=h
variable {te:TE}
theorem zEc {g:TG} (h:te σ H fun x H1=>g x σ H1 D.nx):zGB te g D σ H:=h
theorem zEN {i:Nat} {R:St->Hp->Prop} (h:R (σ.set i (some v)) H):zAd i v σ H R:=h
theorem zGf (h:te σ H D.rt):zHd te D σ H:=h
theorem zEo (h:te σ H fun _ H1=>D.nx σ H1):zFk te D σ H:=h
theorem zHA {c:TT} {t u:TS} (h:c σ H fun b H1=>if b=true then t D σ H1 else u D σ H1):zHR c t u D σ H:=h
theorem zEm {R:List V->Hp->Prop} (h:R [] H):zGF σ H R:=h
theorem zFJ {tr:TA} {R:List V->Hp->Prop} (h:ta σ H fun x H1=>tr σ H1 fun xs H2=>R (x::xs) H2):zFc ta tr σ H R:=h
theorem zD1 {dvs:List V} {E:XK} (h:t σ H fun vs H1=>sp (vs++dvs) H1 Q E):Xn sp dvs E t σ H Q:=h
theorem zHj {r:List V->Hp->VK->Prop} (h:t σ H fun vs H1=>r vs H1 Q):tCB r t σ H Q:=h
def zHc (Q:VK) (xs:List V) (H:Hp):Prop:=xs.length<=sizeLine /\ ∀ p,H p=none->Q (.ref p) (upd H p (.tup xs))
def zFy (Q:VK) (xs:List V) (H:Hp):Prop:=xs.length<=sizeLine /\ ∀ p,H p=none->Q (.ref p) (upd H p (.lst xs))
theorem zG9 (h:t σ H (zHc Q)):zHa t σ H Q:=h
theorem zEA (h:t σ H (zFy Q)):zHQ t σ H Q:=h
theorem zF0 (hz:xs.length<=sizeLine) (h : ∀ p H',zY H H'->H' p=some (.tup xs)->Q (.ref p) H'):zHc Q xs H:=⟨hz,fun p hp=>h p _ (jM hp _) zQ⟩
theorem kX {p:Addr} (h:H p=some (.tup xs)) (e:atI xs i=some v) (q:Q v H):zBK K (.ref p) (.int i) H Q:=⟨p,xs,i,v,rfl,rfl,SqT.of h,e,q⟩
theorem zAr {p:Addr} (h:SqL K H p xs) (e:atI xs i=some v) (q:Q v H):zBi K (.ref p) (.int i) H Q:=⟨p,xs,i,v,rfl,rfl,h,e,q⟩
theorem XB {x c:V} {t:Value} (ty:YX K H x t) (hc : ∃ T,c = .ty T \/ ∃ C,c = .ref C) (e:W.kitOne K t (zGe c)=some b) (q:Q (.bl b) H):zDs K [x,c] H Q:=⟨x,c,t,b,rfl,ty,hc,e,q⟩
end
def zHH (_ j:Int):Prop:=0 < j
def CNn (_ j:Int):Prop:=0<=j
def CNz (_ j:Int):Prop:=j≠0
theorem jC:OpR X (binaryOp .Mod) (rI zHH fun i j=>.int (i % j)):=zE8
theorem WM:OpR X (binaryOp .RShift) (rI CNn fun i j=>.int (i / 2 ^ j.toNat)):=zD2
section
variable {σ : St} {H : Hp} {Q : VK} {D : kD} {K : W.Frag}
theorem zG8 {i j:Nat} {ta:TA} (h:ta σ H fun vs H1=>∃ v w,vs=[v,w]/\D.nx ((σ.set i (some v)).set j (some w)) H1):zHZ i j ta D σ H:=h
theorem zGw {v w:V} {R:V->V->Prop} (h:R v w) : ∃ v' w',[v,w]=[v',w']/\R v' w':=⟨v,w,rfl,h⟩
variable {tb:TS}
theorem zGK {W:Nat->St->Hp->Prop} {m:Nat} (h:tb { D with nx:=fun σ' H'=>∃ m',m' < m/\W m' σ' H',ct:=fun σ' H'=>∃ m',m' < m/\W m' σ' H',bk:=D.nx } σ H) :
  ∃ N:St->Hp->Prop,(∀ σ' H',N σ' H' -> ∃ m',m' < m/\W m' σ' H')/\tb { D with nx:=N,ct:=N,bk:=D.nx } σ H:=⟨_,fun _ _ h=>h,h⟩
theorem JY {c:TT} (W:Nat->St->Hp->Prop) (h0 : ∃ m,W m σ H) (hs : ∀ m σ H,W m σ H->c σ H fun b H1=>if b=true then ∃ N:St->Hp->Prop,(∀ σ' H',N σ' H' -> ∃ m',m' < m/\W m' σ' H')/\tb { D with nx:=N,ct:=N,bk:=D.nx } σ H1 else D.nx σ H1):zBb c tb D σ H:=⟨W,h0,hs⟩
def zF2 (K:PySem.W.Frag) (g:TG) (tb:TS) (D:kD) (σ:St) (x:V) (H:Hp):Prop:=∃ a,x = .ref a/\(∃ xs,SqL K H a xs) /\ ∃ W:Nat->Nat->St->Hp->Prop,(∃ m,W 0 m σ H) /\ ∀ i m σ H,W i m σ H ->
 ((Itl K a).stop i H/\D.nx σ H)\/((Itl K a).go i H /\ ∃ N:St->Hp->Prop,(∀ σ' H',N σ' H' -> ∃ m',m' < m/\W (i+1) m' σ' H') /\ ∀ x H',(Itl K a).yld i H x H'->g x σ H' fun σ2 H2=>tb { D with nx:=N,ct:=N,bk:=D.nx } σ2 H2)
variable {g:TG}
theorem zEE {tl:TE} (h:tl σ H (zF2 K g tb D σ)):zDp (zCp K tl) g tb D σ H:=h
theorem JT (hx:SqL K H a xs) (Pv:Nat->St->Hp->Prop) (h0:Pv 0 σ H) (hl : ∀ i σ H,i<=xs.length->Pv i σ H->SqL K H a xs)
  (hs : ∀ i x σ H,xs[i]? = some x->Pv i σ H->g x σ H fun σ2 H2=>tb { D with nx:=Pv (i+1),ct:=Pv (i+1),bk:=D.nx } σ2 H2) (hd : ∀ σ H,Pv xs.length σ H->D.nx σ H):zF2 K g tb D σ (.ref a) H:=⟨a,rfl,⟨xs,hx⟩,zAo Pv h0 hl hs hd⟩
def zD6 (g:TG) (tb:TS) (D:kD) (σ:St) (vs:List V) (H:Hp):Prop:=∃ j:Int,vs=[.int j] /\ -(2 ^ 62)<=j/\j < 2 ^ 62 /\ ∃ W:Nat->Nat->St->Hp->Prop,(∃ m,W 0 m σ H) /\ ∀ i m σ H,W i m σ H ->
 ((Itr 0 j.toNat).stop i H/\D.nx σ H)\/((Itr 0 j.toNat).go i H /\ ∃ N:St->Hp->Prop,(∀ σ' H',N σ' H' -> ∃ m',m' < m/\W (i+1) m' σ' H') /\ ∀ x H',(Itr 0 j.toNat).yld i H x H'->g x σ H' fun σ2 H2=>tb { D with nx:=N,ct:=N,bk:=D.nx } σ2 H2)
theorem zEx {ta:TA} (h:ta σ H (zD6 g tb D σ)):zDp (zDQ ta) g tb D σ H:=h
theorem Zz (h1 : -(2 ^ 62)<=j) (h2:j < 2 ^ 62) (Pv:Nat->St->Hp->Prop) (h0:Pv 0 σ H)
  (hs : ∀ i σ H,i < j.toNat->Pv i σ H->g (.int (0+i)) σ H fun σ2 H2=>tb { D with nx:=Pv (i+1),ct:=Pv (i+1),bk:=D.nx } σ2 H2) (hd : ∀ σ H,Pv j.toNat σ H->D.nx σ H):zD6 g tb D σ [.int j] H:=⟨j,rfl,h1,h2,Jk Pv h0 hs hd⟩
variable {R:St->Hp->Prop}
theorem zFm {t:TGs} (h:H a=some (.tup xs)) (hn:xs.length=n) (k:t xs σ H R):zHJ K n t (.ref a) σ H R:=⟨a,xs,rfl,SqT.of h,hn,k⟩
theorem zC0 {t:TG} {u:TGs} {v:V} {r:List V} (h:t v σ H fun σ' H'=>u r σ' H' R):zFN t u (v::r) σ H R:=⟨v,r,rfl,h⟩
theorem zEJ (h:R σ H):zHM [] σ H R:=⟨rfl,h⟩
end
def zHL:List V->Hp->VK->Prop:=fun xs H Q=>∃ i,xs=[.int i]/\Q (.int (if i < 0 then -i else i)) H
def zFM:List V->Hp->VK->Prop:=fun xs H Q=>∃ i j,xs=[.int i,.int j]/\Q (.int (if j > i then j else i)) H
def zDu:List V->Hp->VK->Prop:=fun xs H Q=>∃ i j,xs=[.int i,.int j]/\Q (.int (if j < i then j else i)) H
def zDU:List V->Hp->VK->Prop:=fun xs H Q=>(∃ i,xs=[.int i]/\Q (.int i) H) \/ ∃ k,xs=[.bl k]/\Q (.int (if k then 1 else 0)) H
def zEP (K:W.Frag):List V->Hp->VK->Prop:=fun xs H Q=>∃ p ys,xs=[.ref p]/\(SqL K H p ys\/SqT K H p ys)/\Q (.int ys.length) H
section
variable {X : Cx} {H : Hp} {Q : VK} {K : W.Frag}
theorem kG:jx X (.builtin "abs") zHL:=zA2
theorem yY (hc:X.calm=true):jx X (.builtin "max") zFM:=WW hc
theorem ji (hc:X.calm=true):jx X (.builtin "min") zDu:=Ku hc
theorem Qe:jx X (.type "int") zDU:=WR
theorem Zj:jx X (.builtin "len") (zEP X.K):=Je
theorem zFX (h : ∀ k:Int,(0<=i/\k=i)\/(i < 0/\k = -i)->Q (.int k) H):zHL [.int i] H Q:=⟨i,rfl,h _ (by split <;> omega)⟩
theorem zDk (h : ∀ k:Int,(i < j/\k=j)\/(j<=i/\k=i)->Q (.int k) H):zFM [.int i,.int j] H Q:=⟨i,j,rfl,h _ (by split <;> omega)⟩
theorem zDg (h : ∀ k:Int,(j < i/\k=j)\/(i<=j/\k=i)->Q (.int k) H):zDu [.int i,.int j] H Q:=⟨i,j,rfl,h _ (by split <;> omega)⟩
theorem YL {k:Bool} (h:Q (.int (if k then 1 else 0)) H):zDU [.bl k] H Q:=.inr ⟨k,rfl,h⟩
theorem zEk {p:Addr} {ys:List V} (h:SqL K H p ys) (q:Q (.int ys.length) H):zEP K [.ref p] H Q:=⟨p,ys,rfl,.inl h,q⟩
end
theorem Wo:bootBuiltins "int" = some (.type "int"):=by decide +kernel
theorem zDo:bootBuiltins "bool" = some (.type "bool"):=by decide +kernel
theorem zBL:bootBuiltins "str" = some (.type "str"):=by decide +kernel
theorem X7:bootBuiltins "list" = some (.type "list"):=by decide +kernel
theorem jh:bootBuiltins "isinstance" = some (.builtin "isinstance"):=by decide +kernel
theorem Yr:bootBuiltins "abs" = some (.builtin "abs"):=by decide +kernel
theorem YN:bootBuiltins "max" = some (.builtin "max"):=by decide +kernel
theorem Qq:bootBuiltins "min" = some (.builtin "min"):=by decide +kernel
theorem qJ:bootBuiltins "len" = some (.builtin "len"):=by decide +kernel
def zHp (T T':String):Option Bool:=if (Value.type T == Value.type T')=true then some true else if W.kitMeta T'=true then (fastBuiltinMro T).map (·.contains (Value.type T')) else none
variable {b:Bool}
theorem kN (K:W.Frag) (T T':String) (h:zHp T T'=some b):W.kitOne K (.type T) (.type T')=some b:=h
theorem YH (K:W.Frag):W.kitOne K (.type "int") (.type "int")=some true:=kN K _ _ (by decide +kernel)
theorem XA (K:W.Frag):W.kitOne K (.type "int") (.type "bool")=some false:=kN K _ _ (by decide +kernel)
theorem J0 (K:W.Frag):W.kitOne K (.type "bool") (.type "int")=some true:=kN K _ _ (by decide +kernel)
theorem Xq (K:W.Frag):W.kitOne K (.type "str") (.type "int")=some false:=kN K _ _ (by decide +kernel)
theorem Xl (K:W.Frag):W.kitOne K (.type "str") (.type "str")=some true:=kN K _ _ (by decide +kernel)
theorem Jp (K:W.Frag):W.kitOne K (.type "list") (.type "int")=some false:=kN K _ _ (by decide +kernel)
theorem JR (K:W.Frag):W.kitOne K (.type "tuple") (.type "int")=some false:=kN K _ _ (by decide +kernel)
theorem wW (K:W.Frag):W.kitOne K (.type "NoneType") (.type "int")=some false:=kN K _ _ (by decide +kernel)
theorem J1 (K:W.Frag):W.kitOne K (.type "dict") (.type "int")=some false:=kN K _ _ (by decide +kernel)
section
variable {H : Hp} {Q : VK} {K : W.Frag}
theorem zAt (q:Q (.bl true) H):zDs K [.int i,.ty "int"] H Q:=XB (.int i) ⟨_,.inl rfl⟩ (YH K) q
theorem zA7 (q:Q (.bl false) H):zDs K [.int i,.ty "bool"] H Q:=XB (.int i) ⟨_,.inl rfl⟩ (XA K) q
end
variable {c:Prop}
theorem i_d [Decidable c] (h1:c->A) (h2 : ¬ c->B):if decide c=true then A else B:=by
 by_cases h:c
 ·rw [if_pos (decide_eq_true h)];exact h1 h
 ·rw [if_neg (by rw [decide_eq_false h];decide)];exact h2 h
theorem zHE [Decidable c] (h1:c->B) (h2 : ¬ c->A):if (!decide c)=true then A else B:=by
 by_cases h:c
 ·rw [decide_eq_true h];exact h1 h
 ·rw [decide_eq_false h];exact h2 h
theorem zHy [Decidable c] (h:c) (h1:A):if decide c=true then A else B:=i_d (fun _=>h1) (fun n=>absurd h n)
theorem zHg [Decidable c] (h : ¬ c) (h1:B):if decide c=true then A else B:=i_d (fun n=>absurd n h) (fun _=>h1)
theorem zGi [Decidable c] (h:c) (h1:B):if (!decide c)=true then A else B:=zHE (fun _=>h1) (fun n=>absurd h n)
theorem i_b (h1:b=true->A) (h2:b=false->B):if b=true then A else B:=by
 cases b with
 | true=>rw [if_pos rfl];exact h1 rfl
 | false=>rw [if_neg (by decide)];exact h2 rfl
theorem zHi (h:B):if (!true)=true then A else B:=h
theorem zHs (h:A):if (!false)=true then A else B:=h
def jG (X:Cx) (scope:Scope) (cl:List (Str × Addr)) (N':List Str) (C:Addr) (s₂:Shared) (H₂:Hp) (fp:List Addr):Cx where
 prog:=X.prog
 w:=X.w
 K:=X.K
 mg:=X.mg
 base:=X.base
 A:=X.A
 N:=N'
 s₀:=s₂
 H₀:=H₂
 env:=compEnvC scope cl C X.env
 outer:=X.stack
 stack:=X.stack
 ex:=fp
 calm:=X.calm
 fn:=fun _=>false
 pn:=[]
 xe:=fun _ _=>False
def zBY (cells:List (Str × Addr)):List (Str × Addr)->Prop
 | []=>True
 | p::r=>cells.lookup p.1=some p.2/\zBY cells r
theorem zBY.look {cells:List (Str × Addr)} : ∀ {cl:List (Str × Addr)} {x:Str} {c:Addr},zBY cells cl->cl.lookup x=some c->cells.lookup x=some c
 | [],_,_,_,h=>by simp at h
 | (y,d)::r,x,c,⟨h1,h2⟩,h=>by
  rw [lookup_cons] at h
  cases e:x == y with
  | true =>
   rw [e] at h
   have e':x=y:=eq_of_beq e
   cases h
   rw [e'];exact h1
  | false =>
   rw [e] at h
   exact zBY.look h2 h
def W5 (X:Cx) (scope:Scope):List Str->List Nat->Prop
 | [],[]=>True
 | y::r,j::js=>(X.N[j]? = some y/\scope.names.lookup y=some .free/\(X.env.kindOf y=some .cell\/X.env.kindOf y=some .free))/\W5 X scope r js
 | _,_=>False
theorem W5.get {X:Cx} {scope:Scope} : ∀ {fr:List Str} {js:List Nat} {k:Nat} {y:Str},W5 X scope fr js->fr[k]? = some y -> ∃ j,js[k]? = some j/\X.N[j]? = some y/\scope.names.lookup y=some .free/\(X.env.kindOf y=some .cell\/X.env.kindOf y=some .free)
 | [],_,_,_,_,h=>by simp at h
 | _::_,[],_,_,h,_=>h.elim
 | y::r,j::js,0,z,⟨h1,_⟩,h=>by simp at h;subst h;exact ⟨j,rfl,h1⟩
 | y::r,j::js,k+1,z,⟨_,h2⟩,h=>by
  obtain ⟨j',e,q⟩:=W5.get (k:=k) h2 (by simpa using h)
  exact ⟨j',by simpa using e,q⟩
theorem W5.len {X:Cx} {scope:Scope} : ∀ {fr:List Str} {js:List Nat},W5 X scope fr js->fr.length=js.length
 | [],[],_=>rfl
 | [],_::_,h=>h.elim
 | _::_,[],h=>h.elim
 | _::r,_::js,h=>by rw [length_cons,length_cons,W5.len h.2]
theorem wS {env : Env} : ∀ {names : List (Str × NameKind)} {x : Str}, (∀ y ∈ names, y.2 ≠ .cell) ->
    ((names.map fun (n, k) => if (k == NameKind.free && env.scope.kind == .function && env.kindOf n == some .cell) then (n, NameKind.cell) else (n, k)).lookup x = some .cell \/
     (names.map fun (n, k) => if (k == NameKind.free && env.scope.kind == .function && env.kindOf n == some .cell) then (n, NameKind.cell) else (n, k)).lookup x = some .free) -> names.lookup x = some .free
  | [], _, _, h => by simp at h
  | (n, k) :: r, x, hc, h => by
    have ih := @wS env r x (fun y hy => hc y (List.mem_cons_of_mem _ hy))
    rw [map_cons] at h
    dsimp only at h
    by_cases hb : (k == NameKind.free && env.scope.kind == .function && env.kindOf n == some .cell) = true
    · rw [if_pos hb] at h
      rw [lookup_cons] at h
      rw [lookup_cons]
      cases e : x == n with
      | true =>
        have : k = .free := by simp at hb; exact hb.1.1
        rw [this]
      | false =>
        rw [e] at h
        exact ih h
    · rw [if_neg hb] at h
      rw [lookup_cons] at h
      rw [lookup_cons]
      cases e : x == n with
      | true =>
        rw [e] at h
        have hk : k ≠ .cell := hc (n, k) List.mem_cons_self
        rcases h with h | h
        · exact absurd (Option.some.inj h) hk
        · exact h
      | false =>
        rw [e] at h
        exact ih h
theorem yM {env : Env} (hk : env.scope.kind = .function) {x : Str} : ∀ {names : List (Str × NameKind)}, names.lookup x = some .free -> (env.kindOf x = some .cell \/ env.kindOf x = some .free) ->
    ((names.map fun (n, k) => if (k == NameKind.free && env.scope.kind == .function && env.kindOf n == some .cell) then (n, NameKind.cell) else (n, k)).lookup x = some .cell \/
     (names.map fun (n, k) => if (k == NameKind.free && env.scope.kind == .function && env.kindOf n == some .cell) then (n, NameKind.cell) else (n, k)).lookup x = some .free)
  | [], h, _ => by simp at h
  | (n, k) :: r, h, hx => by
    have ih := @yM env hk x r
    rw [lookup_cons] at h
    rw [map_cons]
    dsimp only
    cases e : x == n with
    | true =>
      rw [e] at h
      have ek : k = .free := Option.some.inj h
      have en : x = n := eq_of_beq e
      subst ek
      rcases hx with hx | hx
      · left
        have hb : ((NameKind.free == NameKind.free) && env.scope.kind == .function && env.kindOf n == some .cell) = true := by rw [<- en, hx, hk]; decide
        rw [if_pos hb, lookup_cons, e]
      · right
        have hb : ¬ ((NameKind.free == NameKind.free) && env.scope.kind == .function && env.kindOf n == some .cell) = true := by rw [<- en, hx, hk]; decide
        rw [if_neg hb, lookup_cons, e]
    | false =>
      rw [e] at h
      rcases ih h hx with q | q
      · left
        split <;> rw [lookup_cons, e] <;> exact q
      · right
        split <;> rw [lookup_cons, e] <;> exact q
section
variable {X : Cx} {pins : List (Addr × Obj)} {σ : St} {H : Hp} {s : Shared}
theorem HOk.track {h:Heap} (x:HOk P w H h) (hn:H a=none) (new:jr P w (upd H a o) h a o):HOk P w (upd H a o) h:=fun b u e=>by
 by_cases hb:b=a
 ·subst hb;rw [zQ] at e;cases e;exact new
 ·rw [qB hb] at e
  exact (x b u e).stay (fun c v _ q=>q) (fun c q=>by rw [qB (z7 q hn)];exact q) fun c xs q=>by rw [qB (z7 q hn)];exact q
theorem Inv.track (I:Inv X pins σ H s) (f:V8 X pins H a) (new:jr X.prog X.w (upd H a o) s.heap a o):Inv X pins σ (upd H a o) s:=by
 obtain ⟨f0,f1,f2,f3,f4,f5⟩:=f
 have up : ∀ b,H b=none->b≠a->upd H a o b=none:=fun b e n=>by rw [qB n];exact e
 have st : ∀ {b u},H b=some u->upd H a o b=some u:=fun {b u} e=>by rw [qB (z7 e f0)];exact e
 have na : ∀ b ob,X.s₀.heap.get? b=some ob->b ∉ X.ex->b≠a:=fun b ob e hx z=>by
  rcases f3 with q | q
  ·exact hx (z ▸ q)
  ·exact absurd (lt_of_lt_of_le (Heap.lt_size e) (z ▸ q)) (lt_irrefl _)
 refine ⟨I.ok,I.os,I.bare,⟨I.base.keep,I.base.slot,fun b ob e n hx=>up b (I.base.free b ob e n hx) (na b ob e hx),I.base.there,fun b xs e=>st (I.base.tups b xs e),fun b ob u e=>st (I.base.frzs b ob u e),fun b ps e=>?_⟩,I.loc,I.cell,up _ I.free (Ne.symm f1),fun x c e=>up c (I.freeC x c e) (f4 x c e),fun p hp=>?_,I.hok.track f0 new,I.len⟩
 ·obtain ⟨m,q⟩:=I.base.tbls b ps e
  exact ⟨m,st q⟩
 ·obtain ⟨e,n,r⟩:=I.pin p hp
  exact ⟨e,up _ n (f5 p hp),r⟩
end
def zEd (Y:Cx) (ifs:List Expr) (t:TT):Prop:=
 ∀ (pins:List (Addr × Obj)) (s:Shared) (σ:St) (H:Hp) (R:Bool->Hp->Prop),Inv Y pins σ H s->t σ H R ->
  wpAny (model Y.prog Y.w) Y.A (forIn ifs true fun c r=>if r=true then do let ok <- isTrue c Y.env (eval c Y.env);pure (ForInStep.yield ok) else pure (ForInStep.yield r)) (TP Y pins σ R) Y.xe s
def zEb:TT:=fun _ H R=>R true H
theorem j6 {Y:Cx}:zEd Y [] zEb:=fun _ _ _ H _ I h=>wpAny_tests_nil ⟨H,I,h⟩
theorem yb {Y:Cx} {c:Expr} {t:TT} (h:PT Y c t):zEd Y [c] t:=fun pins s σ H R I q=>wpAny_tests_one (h pins s σ H R I q)
def V6 (is : List Nat) (tt : TT) (te : TE) (σ : St) (Q : VK) (J : It) (H1 : Hp) : Prop := ∃ W : Nat -> Nat -> List V -> Hp -> Prop, (∃ m, W 0 m [] H1) /\ ∀ i m ys H, W i m ys H -> ys.length <= sizeLine /\
  ((J.stop i H /\ ∀ p, H p = none -> Q (.ref p) (upd H p (.lst ys))) \/
   (J.go i H /\ ys.length < sizeLine /\ ∀ x H', J.yld i H x H' -> tt (some x :: is.map fun j => (σ[j]?).getD none) H' fun ok H2 =>
     if ok = true then te (some x :: is.map fun j => (σ[j]?).getD none) H2 fun y H3 => ∃ m', m' < m /\ W (i + 1) m' (ys ++ [y]) H3 else ∃ m', m' < m /\ W (i + 1) m' ys H2))
def Vi (is:List Nat) (wi:TI) (tt:TT) (te:TE):TE:=fun σ H Q=>wi σ H fun J H1=>V6 is tt te σ Q J H1
section
variable {X : Cx} {elt iter : Expr} {ifs : List Expr} {x : Str} {px pos : Pos} {scope : Scope} {cl : List (Str × Addr)} {fr : List Str} {is : List Nat} {wi : TI} {tt : TT} {te : TE}
theorem Ka {pins:List (Addr × Obj)} {σ:St} {H₂:Hp} {s₂:Shared} {C:Addr} {fp:List Addr} {N':List Str} (I:Inv X pins σ H₂ s₂) (hC:s₂.heap.objs.size<=C) (hf : ∀ b ∈ fp,V8 X pins H₂ b) (hfl : ∀ b ∈ fp,b < s₂.heap.objs.size)
  (hcell : ∀ y ∈ scope.names,y.2 ≠ .cell) (hkind:scope.kind = .function) (hcl:zBY X.env.cells cl) (hfree:(scope.names.all fun p=>p.2 != .free || (cl.lookup p.1).isSome)=true):(jG X scope cl N' C s₂ H₂ fp).Ok where
 mod:=I.mod
 kind:=hkind
 glob:=I.ok.glob
 blt:=I.ok.blt
 above:=hC
 inj:=fun x y c h1 h2=>I.ok.inj x y c (hcl.look h1) (hcl.look h2)
 has:=fun y h=>by
  have h':=wS (env:=X.env) hcell h
  have hm:(y,NameKind.free) ∈ scope.names:=by
   have aux : ∀ {l:List (Str × NameKind)},l.lookup y=some .free->(y,NameKind.free) ∈ l:=by
    intro l
    induction l with
    | nil=>intro z;simp at z
    | cons p r ih =>
     intro z
     obtain ⟨n,k⟩:=p
     rw [lookup_cons] at z
     cases e:y == n with
     | true=>rw [e] at z;cases z;rw [eq_of_beq e];exact List.mem_cons_self
     | false=>rw [e] at z;exact List.mem_cons_of_mem _ (ih z)
   exact aux h'
  have q:((NameKind.free != NameKind.free) || (cl.lookup y).isSome)=true:=List.all_eq_true.mp hfree _ hm
  have q':(cl.lookup y).isSome=true:=by rw [bne_self_eq_false,Bool.false_or] at q;exact q
  exact Option.isSome_iff_exists.mp q'
 cab:=fun _ _ h _=>by cases h
 hd:=I.ok.hd
 frames:=I.ok.frames
 stk:=.inl rfl
 exf:=fun b hb=>⟨ne_of_lt (lt_of_lt_of_le (hfl b hb) hC),fun y c e=>(hf b hb).2.2.2.2.1 y c (hcl.look e)⟩
 bs:=I.bs
 bsz:=le_trans I.ok.bsz I.sz
 noex:=fun b o e hb=>by
  rcases (hf b hb).2.2.2.1 with q | q
  ·exact I.ok.noex b o e q
  ·exact absurd (lt_of_lt_of_le (Heap.lt_size e) (le_trans I.ok.bsz q)) (lt_irrefl _)
 exfs:=fun b hb z=>by
  rcases List.mem_cons.mp (I.stkSub b z) with q | q
  ·exact (hf b hb).2.1 q
  ·exact (hf b hb).2.2.1 q
 funs:=I.stack
 frf:=I.stkFree
def WH (X:Cx) (pins:List (Addr × Obj)) (σ:St) (Q:VK) (acc:Value) (C:Addr) (r:Result) (s':Shared):Prop:=match r with
 | .ok _=>∃ (D:Addr) (H':Hp) (m:Str->Option Value),acc = .ref D/\Inv X pins σ H' s'/\s'.heap.Ns C m/\V8 X pins H' C/\Q (.ref D) H'
 | .error _=>False
theorem zGQ {M:Model} {A:Around} {E:Value->Shared->Prop} {s:Shared} {it u:Value} {Q1:Unit->Shared->Prop} {α:Type} {t:Sem α} {Q2:α->Shared->Prop} (h:wpAny M A (letOwnedTupleGo (.Name x px) it u) Q1 E s) (k : ∀ s,Q1 () s->wpAny M A t Q2 E s):wpAny M A t Q2 E s:=by
 have z:wpAny M A (letOwnedTupleGo (.Name x px) it u >>= fun _=>t) Q2 E s:=wpAny_bind (thn h fun _ s q=>k s q)
 rw [show letOwnedTupleGo (.Name x px) it u=pure () from rfl,pure_bind] at z
 exact z
theorem XJ {pins:List (Addr × Obj)} {σ:St} {Q:VK} {E:Value->Shared->Prop} {s₂:Shared} {H₂:Hp} {it:Addr} {fp:List Addr} {tn:Nat->Heap->Prop} {J:It}
  (hc:X.calm=true) (hcell : ∀ y ∈ scope.names,y.2 ≠ .cell) (hkind:scope.kind = .function) (hx:scope.names.lookup x=some .local) (hcl:zBY X.env.cells cl)
  (hfree:(scope.names.all fun p=>p.2 != .free || (cl.lookup p.1).isSome)=true) (hfr:W5 X scope fr is) (hnd:(x::fr).Nodup)
  (ht : ∀ C s₂ H₂ fp,zEd (jG X scope cl (x::fr) C s₂ H₂ fp) ifs tt) (he : ∀ C s₂ H₂ fp,PE (jG X scope cl (x::fr) C s₂ H₂ fp) elt te)
  (I:Inv X pins σ H₂ s₂) (T:zDt X.prog X.w X.K (.Name x px) J fp it tn) (st:tn 0 s₂.heap) (hf : ∀ b ∈ fp,V8 X pins H₂ b) (R:V6 is tt te σ Q J H₂) :
  wpAny (model X.prog X.w) X.A (newList []) (fun acc s₃=>wpAny (model X.prog X.w) X.A (newFunctionEnv scope X.env.globals cl [] X.env.qual none .none (some X.env)) (fun cenv s₄ =>
   codeAny (model X.prog X.w) X.A (.compStart (.ListComp elt [⟨.Name x px,iter,ifs,0⟩] scope pos) 0 (.ref it) acc { cenv with scope:=relabel scope X.env }) (WH X pins σ Q acc cenv.locals) s₄) E s₃) E s₂:=by
 obtain ⟨W,⟨m0,w0⟩,turn⟩:=R
 refine wpAny_newObj_type (wpAny_newFunctionEnv hcell (by intro y hy;simp at hy) (fun h₁ hns₁ hsb₁=>?_) hkind)
 dsimp only at hns₁ hsb₁ ⊢
 generalize hH2:s₂.heap.push { cls:=.type "list", dict:=none,data:=.seq ([]:List Value).toArray }=G2 at hns₁ hsb₁ ⊢
 have hC:G2.objs.size=s₂.heap.objs.size+1:=by rw [<- hH2,Heap.size_push]
 have hDC:s₂.heap.objs.size≠G2.objs.size:=by rw [hC];exact ne_of_lt (Nat.lt_succ_self _)
 have below : ∀ b,b < s₂.heap.objs.size->b≠G2.objs.size/\b≠s₂.heap.objs.size:=fun b hb=>⟨by rw [hC];exact ne_of_lt (Nat.lt_succ_of_lt hb),ne_of_lt hb⟩
 have hfl : ∀ b ∈ fp,b < s₂.heap.objs.size:=fun b hb=>by obtain ⟨o,e,_⟩:=T.obj _ _ st b hb;exact Heap.lt_size e
 have old : ∀ b o,s₂.heap.get? b=some o->h₁.get? b=some o:=fun b o e=>hsb₁.extBut b o (below b (Heap.lt_size e)).1 (Heap.get?_push_of_some _ (hH2 ▸ Heap.get?_push_of_some _ e))
 have hacc:h₁.get? s₂.heap.objs.size=some { cls:=.type "list", data:=.seq ([]:List Value).toArray 0 }:=hsb₁.extBut _ _ hDC (Heap.get?_push_of_some _ (hH2 ▸ Heap.get?_push_size _ rfl))
 have hfresh : ∀ b,s₂.heap.objs.size<=b->H₂ b=none:=fun b hb=>I.hok.fresh hb
 have hCle:s₂.heap.objs.size<=G2.objs.size:=by rw [hC];exact Nat.le_succ _
 generalize hCe:G2.objs.size=C at *
 generalize hDe:s₂.heap.objs.size=D at *
 have ok:(jG X scope cl (x::fr) C s₂ H₂ fp).Ok:=Ka I (by rw [hDe];exact hCle) hf (by rw [hDe];exact hfl) hcell hkind hcl hfree
 have hYc:(jG X scope cl (x::fr) C s₂ H₂ fp).calm=true:=hc
 have hDfp : ∀ b ∈ fp,b≠D:=fun b hb=>ne_of_lt (hfl b hb)
 have hDst:D ∉ frs X.stack:=fun z=>by
  rcases List.mem_cons.mp (I.stkSub D z) with q | q
  ·have:=I.lt;rw [hDe,<- q] at this;exact lt_irrefl _ this
  ·exact I.nofs (by rw [hDe];exact Nat.le_refl _) q
 have hfY : ∀ {H':Hp} {its:List Value} {n:Nat},(∀ b ∈ fp,H' b=none) -> ∀ b ∈ fp,V8 (jG X scope cl (x::fr) C s₂ H₂ fp) [(D,{ cls:=.type "list", data:=.seq its.toArray n })] H' b:=fun hn b hb =>
  ⟨hn b hb,(ok.exf b hb).1,ok.exfs b hb,.inl hb,(ok.exf b hb).2,fun p hp=>by
   have e:p=(D,{ cls:=.type "list", data:=.seq _ _ }):=List.mem_singleton.mp hp
   rw [e];exact Ne.symm (hDfp b hb)⟩
 have lenF:(is.map fun j=>(σ[j]?).getD none).length=fr.length:=by rw [length_map,hfr.len]
 have I0:Inv (jG X scope cl (x::fr) C s₂ H₂ fp) [(D,{ cls:=.type "list", data:=.seq ([]:List Value).toArray 0 })] (none::is.map fun j=>(σ[j]?).getD none) H₂ { s₂ with heap:=h₁,toks:=s₂.toks+([]:List (Str × Value)).length }:=by
  refine ⟨ok,rfl,I.bare,Un.kept old,⟨_,hns₁,fun i y v e1 e2 e3=>?_⟩,fun y c e=>?_,hfresh C hCle,fun y c e=>I.freeC y c (hcl.look e),fun p hp=>?_,I.hok.kept old,?_⟩
  ·cases i with
   | zero=>cases e2
   | succ k =>
    have e1':fr[k]? = some y:=e1
    have e2':(is.map fun j=>(σ[j]?).getD none)[k]? = some (some v):=e2
    obtain ⟨j,hj,hN,hfy,hkx⟩:=hfr.get e1'
    rw [getElem?_map,hj] at e2'
    have e4:(σ[j]?).getD none=some v:=Option.some.inj e2'
    have e5:σ[j]? = some (some v):=by
     cases q:σ[j]? with
     | none=>rw [q] at e4;cases e4
     | some o=>rw [q] at e4;have e4':o=some v:=e4;rw [e4']
    obtain ⟨m,hn,hl⟩:=id I.loc
    have hvis:Vis X.env.scope y:=hkx.elim (fun q=>.inr (.inl q)) fun q=>.inr (.inr q)
    obtain ⟨u,r,lk⟩:=hl j y v hN e5 hvis
    refine ⟨u,r,.inr ⟨yM I.ok.kind hfy hkx,?_⟩⟩
    rcases lk with ⟨kl,_⟩ | ⟨_,c,ec,ic⟩
    ·rcases hkx with q | q <;> rw [kl] at q <;> cases q
    ·obtain ⟨c',ec'⟩:=ok.has y (yM I.ok.kind hfy hkx)
     have:c'=c:=Option.some.inj ((hcl.look ec').symm.trans ec)
     rw [this] at ec'
     obtain ⟨o,ho,hd⟩:=ic
     exact ⟨c,ec',o,old c o ho,hd⟩
  ·obtain ⟨v,o,ho,hd⟩:=I.cell y c (hcl.look e)
   exact ⟨v,o,old c o ho,hd⟩
  ·have e:p=(D,{ cls:=.type "list", data:=.seq ([]:List Value).toArray 0 }):=List.mem_singleton.mp hp
   rw [e]
   exact ⟨hacc,hfresh D (Nat.le_refl _),hDC,hDst,fun v z=>by cases z⟩
  ·show (none::_).length=(x::fr).length
   rw [length_cons,length_cons,lenF]
 have loop : ∀ s₃:Shared,s₃={ s₂ with heap:=h₁,toks:=s₂.toks+([]:List (Str × Value)).length } ->
   codeAny (model X.prog X.w) X.A (.compLoop (.ListComp elt [⟨.Name x px,iter,ifs,0⟩] scope pos) 0 (.ref it) (.ref D) (compEnvC scope cl C X.env)) (WH X pins σ Q (.ref D) C) s₃:=by
  rintro s₃ rfl
  refine codeAny_compLoop_tests (fun n s'=>∃ (i:Nat) (o:Option V) (ys:List V) (its:List Value) (k:Nat) (H':Hp),Inv (jG X scope cl (x::fr) C s₂ H₂ fp) [(D,{ cls:=.type "list", data:=.seq its.toArray k })] (o::is.map fun j=>(σ[j]?).getD none) H' s' /\
   tn i s'.heap/\(∀ b ∈ fp,H' b=none)/\z9 ys its/\W i n ys H') ?_ m0 ⟨0,none,[],[],0,H₂,I0,T.keep _ _ _ st fun b _ o e=>old b o e,fun b hb=>(hf b hb).1,.nil,w0⟩
  rintro n s' ⟨i,o,ys,its,k,H',I',st',fr',vs,w'⟩
  obtain ⟨hlen,⟨stop,fin⟩ | ⟨go,hlt,step⟩⟩:=turn i n ys H' w'
  ·refine wpAny_mono (T.done (jG X scope cl (x::fr) C s₂ H₂ fp) rfl rfl rfl hYc i _ s' _ H' (fun _ _=>False) I' (hfY fr') st' stop) (fun r s1 zq=>?_) fun _ _ z=>z.elim
   obtain ⟨hr,I1⟩:=zq
   subst hr
   obtain ⟨pD,nD,_,_,_⟩:=I1.pin _ (mem_append_right _ (List.mem_singleton.mpr rfl))
   have IX:Inv X pins σ H' s1:=I.call' I1.os I1.base I1.hok I1.bare fun b hb=>⟨(hf b hb).2.2.2.1,(hf b hb).2.1,(hf b hb).2.2.2.2.1,(hf b hb).2.2.2.2.2⟩
   have fD:V8 X pins H' D:=I.fpOk (by rw [hDe];exact Nat.le_refl _) nD
   obtain ⟨m,hn,_⟩:=id I1.loc
   have hC':H' C=none:=I1.free
   refine ⟨D,upd H' D (.lst ys),m,rfl,IX.track fD ⟨hlen,its,k,vs,pD⟩,hn,I.fpOk (by rw [hDe];exact hCle) (by rw [qB (Ne.symm hDC)];exact hC'),fin D nD⟩
  ·refine wpAny_mono (T.item (jG X scope cl (x::fr) C s₂ H₂ fp) rfl rfl rfl hYc i _ s' _ H' (fun _ _=>False) I' (hfY fr') st' go) (fun r s1 zq=>?_) fun _ _ z=>z.elim
   obtain ⟨u,hr,h4⟩:=zq
   subst hr
   refine wpAny_mono (zGQ (Q2:=fun _ s6=>_) h4 fun s2 zq=>?_) (fun _ _ q=>q) fun _ _ z=>z.elim
   obtain ⟨v,H5,I5,r5,y5,st5,fr5⟩:=zq
   have I5':=I5.pinned (hfY fr5) (T.obj _ _ st5)
   refine thn (zf (X:=jG X scope cl (x::fr) C s₂ H₂ fp) (i:=0) hnd rfl (.inl (lookup_relabel_local hx)) (.inr (lookup_relabel_local hx)) _ s2 _ H5 v u (fun σ' H'=>σ'=(some v::is.map fun j=>(σ[j]?).getD none)/\H'=H5) I5' r5 ⟨rfl,rfl⟩) fun _ s6 zq=>?_
   obtain ⟨σ6,H6,I6,e6,e7⟩:=zq
   subst e6 e7
   refine wpAny_mono (ht C s₂ H₂ fp _ s6 _ H6 _ I6 (step v H6 y5)) (fun ok7 s7 zq=>?_) fun _ _ z=>z.elim
   obtain ⟨H7,I7,q7⟩:=zq
   have keep : ∀ {σ8:St} {H8:Hp} {s8:Shared},Inv (jG X scope cl (x::fr) C s₂ H₂ fp) ([(D,{ cls:=.type "list", data:=.seq its.toArray k })]++XQ fp s2.heap) σ8 H8 s8->tn (i+1) s8.heap /\ ∀ b ∈ fp,H8 b=none:=fun {σ8 H8 s8} I8 =>
    ⟨T.keep _ _ _ st5 fun b hb o e=>(I8.pin (b,o) (mem_append_right _ (mem_append_right _ (ya hb e)))).1,fun b hb=>by
     obtain ⟨o,e,d⟩:=T.obj _ _ st5 b hb
     exact (I8.pin (b,o) (mem_append_right _ (mem_append_right _ (ya hb e)))).2.1⟩
   cases ok7 with
   | false =>
    obtain ⟨m',hm',w7⟩:=q7
    exact ⟨m',hm',i+1,_,ys,its,k,H7,I7.unpinned,(keep I7).1,(keep I7).2,vs,w7⟩
   | true =>
    refine wpAny_mono (he C s₂ H₂ fp _ s7 _ H7 _ I7 q7) (fun yv s8 zq=>?_) fun _ _ z=>z.elim
    obtain ⟨y,H8,I8,r8,m',hm',w8⟩:=zq
    obtain ⟨pD,nD,neD,nfD,ncD⟩:=I8.pin (D,{ cls:=.type "list", data:=.seq its.toArray k }) (mem_append_right _ (mem_append_left _ (List.mem_singleton.mpr rfl)))
    have hl:=vs.length
    refine append_at (hsz:=by rw [List.size_toArray,<- hl];exact hlen) pD fun h9 sb9 hD9=>?_
    obtain ⟨st8,fr8⟩:=keep I8
    have I8':Inv (jG X scope cl (x::fr) C s₂ H₂ fp) [] (some v::is.map fun j=>(σ[j]?).getD none) H8 s8:=I8.pins_of fun p hp=>nomatch hp
    have I9:Inv (jG X scope cl (x::fr) C s₂ H₂ fp) [] (some v::is.map fun j=>(σ[j]?).getD none) H8 { s8 with heap:=h9 }:=
     I8'.turned (t':=s8.toks) (fun b o hb e=>(sb9.2 b hb).trans e) nD neD (.inr (by rw [<- hDe];exact Nat.le_refl _)) (fun y' c e z=>by
      obtain ⟨v',o',ho',hd'⟩:=I8'.cell y' c e
      rw [z,pD] at ho';cases ho';cases hd') (fun p hp=>nomatch hp)
    refine ⟨m',hm',i+1,_,ys++[y],its++[yv],k+1,H8,I9.pins_of fun p hp=>?_,T.keep _ _ _ st8 fun b hb o e=>(sb9.2 b (hDfp b hb)).trans e,fr8,vs.append (.cons r8 .nil),w8⟩
    rw [List.mem_singleton.mp hp]
    refine ⟨?_,nD,neD,nfD,fun v z=>by cases z⟩
    rw [<- List.push_toArray]
    exact hD9
 exact codeAny_compStart_list (loop _ rfl) (T.self _ 0 _ _ _ (T.keep _ _ _ st fun b _ o e=>old b o e) (loop _ rfl))
theorem jk (hc:X.calm=true) (hclos:closureFor scope X.env=pure cl) (hcl:zBY X.env.cells cl) (hfree:(scope.names.all fun p=>p.2 != .free || (cl.lookup p.1).isSome)=true) (hfr:W5 X scope fr is) (hnd:(x::fr).Nodup)
  (hcell : ∀ y ∈ scope.names,y.2 ≠ .cell) (hkind:scope.kind = .function) (hnames : ∀ y ∈ scope.names,y.2 = .local->scope.names.lookup y.1=some .local) (hx:scope.names.lookup x=some .local)
  (hi:PI X (.Name x px) iter wi) (ht : ∀ C s₂ H₂ fp,zEd (jG X scope cl (x::fr) C s₂ H₂ fp) ifs tt) (he : ∀ C s₂ H₂ fp,PE (jG X scope cl (x::fr) C s₂ H₂ fp) elt te) (hs : ∀ x,foldedSetIterable iter X.env x=pure x:=by intro _;rfl) :
  PE X (.ListComp elt [⟨.Name x px,iter,ifs,0⟩] scope pos) (Vi is wi tt te):=by
 intro pins s σ H Q I h
 rw [eval_ListComp]
 refine wpAny_comprehension_free (use:=none) rfl hs hclos hkind hnames (thn (hi pins s σ H _ I h) fun v s1 h1=>thn h1 fun itv s2 h2=>?_)
 obtain ⟨it,fp,tn,J,H2,e,I2,T,st2,f2,R⟩:=h2
 subst e
 refine thn (XJ hc hcell hkind hx hcl hfree hfr hnd ht he I2 T st2 f2 R) fun acc s3 h3=>thn h3 fun cenv s4 h4=>codeAny_mono h4 fun r s' q=>?_
 cases r with
 | error e=>exact q.elim
 | ok f =>
  obtain ⟨D,H',m,rfl,I',hn,fC,q⟩:=q
  obtain ⟨f0,f1,_,f3,f4,f5⟩:=fC
  exact ⟨m,hn,fun h' sb=>⟨.ref D,H',I'.turned (t':=s'.toks) (fun b o hb e=>(sb.2 b hb).trans e) f0 f1 f3 f4 f5,rfl,q⟩⟩
theorem wE {i:Nat} {y:Str} {py spos:Pos} (hN:X.N.Nodup) (hiy:X.N[i]? = some y) (hy:Loc X.env.scope y) (hsw:swapsWith (.ListComp elt [⟨.Name x px,iter,ifs,0⟩] scope pos) (some (.Name y py)) spos.line X.env=pure true)
  (hc:X.calm=true) (hclos:closureFor scope X.env=pure cl) (hcl:zBY X.env.cells cl) (hfree:(scope.names.all fun p=>p.2 != .free || (cl.lookup p.1).isSome)=true) (hfr:W5 X scope fr is) (hnd:(x::fr).Nodup)
  (hcell : ∀ y ∈ scope.names,y.2 ≠ .cell) (hkind:scope.kind = .function) (hnames : ∀ y ∈ scope.names,y.2 = .local->scope.names.lookup y.1=some .local) (hx:scope.names.lookup x=some .local)
  (hi:PI X (.Name x px) iter wi) (ht : ∀ C s₂ H₂ fp,zEd (jG X scope cl (x::fr) C s₂ H₂ fp) ifs tt) (he : ∀ C s₂ H₂ fp,PE (jG X scope cl (x::fr) C s₂ H₂ fp) elt te) (hs : ∀ x,foldedSetIterable iter X.env x=pure x:=by intro _;rfl)
  (hf:X.fn y=true\/X.env.scope.names.lookup y=some .local:=by first | exact .inl rfl | exact .inr rfl | assumption) :
  PS X (.Assign [.Name y py] (.ListComp elt [⟨.Name x px,iter,ifs,0⟩] scope pos) spos) (zGB (Vi is wi tt te) (zAd i)):=by
 intro pins s σ H D0 I h
 rw [exec_Assign_Name_used _ _ _ _ hsw]
 refine wpAny_bind (wpAny_standAt (wpAny_bind ?_))
 show wpAny _ X.A (do let _ <- comprehension (.ListComp elt [⟨.Name x px,iter,ifs,0⟩] scope pos) scope X.env _ (newList []) false (eval iter X.env) (some (assign (.Name y py) X.env))) _ _ s
 refine wpAny_bind (wpAny_mono (wpAny_comprehension_free (use:=some (assign (.Name y py) X.env)) (Q:=fun _ s'=>SP X pins D0 .next s') rfl hs hclos hkind hnames
  (thn (hi pins s σ H _ I h) fun v s1 h1=>thn h1 fun itv s2 h2=>?_)) (fun _ s' hq=>wpAny_pure (wpAny_pure hq)) fun _ _ e=>e)
 obtain ⟨it,fp,tn,J,H2,e,I2,T,st2,f2,R⟩:=h2
 subst e
 refine thn (XJ hc hcell hkind hx hcl hfree hfr hnd ht he I2 T st2 f2 R) fun acc s3 h3=>thn h3 fun cenv s4 h4=>codeAny_mono h4 fun r s' q=>?_
 cases r with
 | error e=>exact q.elim
 | ok f =>
  obtain ⟨D,H',m,rfl,I',hn,fC,q⟩:=q
  obtain ⟨f0,f1,_,f3,f4,f5⟩:=fC
  show wpAny _ _ (assign (.Name y py) X.env (.ref D)) _ _ _
  refine wpAny_assign_Name (Jq I' hN hiy hy (v:=.ref D) rfl (fun s'' I'' zq=>?_) hf)
  obtain ⟨a,sb,ha⟩:=zq
  have hCa:cenv.locals≠a:=by
   rcases ha with rfl | ha
   ·exact f1
   ·exact Ne.symm (f4 y a ha)
  refine ⟨m,hn.sameBut sb hCa,fun h' sb'=>⟨_,H',I''.turned (t':=s''.toks) (fun b o hb e=>(sb'.2 b hb).trans e) f0 f1 f3 f4 f5,q⟩⟩
end
section
variable {K : W.Frag} {σ : St} {H : Hp} {Q : VK} {is : List Nat} {tt : TT} {te : TE}
def zBa (K:W.Frag) (is:List Nat) (tt:TT) (te:TE) (σ:St) (Q:VK) (x:V) (H:Hp):Prop:=∃ a,x = .ref a/\(∃ xs,SqL K H a xs)/\V6 is tt te σ Q (Itl K a) H
theorem zDm {tl:TE} (h:tl σ H (zBa K is tt te σ Q)):Vi is (zCp K tl) tt te σ H Q:=h
def NxC (n:Nat) (Pv:Nat->List V->Hp->Prop) (i:Nat) (ys:List V) (H:Hp):Prop:=∃ m',m' < n - i/\m'=n - (i+1)/\i+1<=n/\Pv (i+1) ys H
theorem nxC {Pv:Nat->List V->Hp->Prop} {i:Nat} {ys:List V} (h:i < n) (p:Pv (i+1) ys H):NxC n Pv i ys H:=⟨_,by omega,rfl,h,p⟩
theorem zFW {s:St} {R:Bool->Hp->Prop} (h:R true H):zEb s H R:=h
def zB3 (is:List Nat) (tt:TT) (te:TE) (σ:St) (Q:VK) (vs:List V) (H:Hp):Prop:=∃ j:Int,vs=[.int j] /\ -(2 ^ 62)<=j/\j < 2 ^ 62/\V6 is tt te σ Q (Itr 0 j.toNat) H
theorem zDB {ta:TA} (h:ta σ H (zB3 is tt te σ Q)):Vi is (zDQ ta) tt te σ H Q:=h
end
section
variable {K : W.Frag} {σ : St} {H : Hp} {Q : VK}
theorem zCs {r:V->Option Int->Option Int->Hp->VK->Prop} {te:TE} {tl th:TO} (h:te σ H fun x H1=>tl σ H1 fun l H2=>th σ H2 fun u H3=>r x l u H3 Q):tSl r te tl th σ H Q:=h
theorem zAm {R:Option Int->Hp->Prop} (h:R none H):Wn σ H R:=h
theorem zD3 {t:TE} {R:Option Int->Hp->Prop} (h:t σ H fun x H1=>∃ i,x = .int i/\R (some i) H1):zEp t σ H R:=h
theorem zCX {R:Int->Prop} (h:R i) : ∃ k,V.int i = .int k/\R k:=⟨i,rfl,h⟩
theorem zG4 {b:Addr} {zs:List V} (h1:H l=some (.lst xs)) (h2:H b=some (.lst zs)) (hz:xs.length+zs.length<=sizeLine) (q : ∀ p H',zY H H'->H' p=some (.lst (xs++zs))->Q (.ref p) H'):zGn (.ref l) (.ref b) H Q:=
 ⟨l,b,xs,zs,rfl,rfl,h1,h2,hz,fun p hp=>q p _ (jM hp _) zQ⟩
end
variable {Q:VK}
theorem zCw [Decidable c] (h1:c->Q (.int 1) H) (h2 : ¬ c->Q (.int 0) H):zDU [.bl (decide c)] H Q:=by
 by_cases h:c
 ·rw [decide_eq_true h];exact YL (h1 h)
 ·rw [decide_eq_false h];exact YL (h2 h)
section
variable {X : Cx}
theorem wT : ∀ {us:List Value} {ns:List Int},IntsAre us ns->z9 (ns.map V.int) us
 | _,_,.nil=>.nil
 | _,_,.cons n t h=>.cons ⟨t,rfl⟩ (wT h)
def K9 (K:W.Frag):List V->Hp->VK->Prop:=fun xs H Q=>∃ (p:Addr) (ns:List Int),xs=[.ref p]/\SqL K H p (ns.map V.int)/\ns.length < 64 /\
 ∀ (ms:List Int) (q:Addr) (H':Hp),ms.Perm ns->ms.Pairwise (· <= ·)->zY H H'->H' q=some (.lst (ms.map V.int))->Q (.ref q) H'
theorem X8:jx X (.builtin "sorted") (K9 X.K):=by
 intro pins s σ H xs us Q I r h
 obtain ⟨p,ns,rfl,hq,h64,q⟩:=h
 obtain ⟨u,rfl,rx⟩:=JH r
 cases rx
 obtain ⟨its,r',pl,hz⟩:=I.list hq
 have hl:=r'.length
 rw [length_map] at hl hz
 refine sorted_ints pl.isList (Vv r') (by omega) fun out ms hi hp hs=>?_
 obtain ⟨e,he⟩:=sortedAll_at s.heap its out
 have hms:ms.length=ns.length:=hp.length_eq
 have hf:H (s.heap.objs.size+1)=none:=I.hok.fresh (Nat.le_succ _)
 refine ⟨.ref (s.heap.objs.size+1),upd H (s.heap.objs.size+1) (.lst (ms.map V.int)),I.laid (t':=s.toks) (fun _ _=>sortedAll_old) (Nat.le_succ _) ⟨by rw [length_map,hms];exact hz,out.toList,e,wT hi,?_⟩,rfl,q _ _ _ hp hs (jM hf _) zQ⟩
 rw [he,Array.toArray_toList]
theorem zA1 {p:Addr} {ns:List Int} (h:SqL K H p (ns.map V.int)) (h64:ns.length < 64) (q : ∀ (ms:List Int) (q:Addr) (H':Hp),ms.Perm ns->ms.Pairwise (· <= ·)->zY H H'->H' q=some (.lst (ms.map V.int))->Q (.ref q) H'):K9 K [.ref p] H Q:=⟨p,ns,rfl,h,h64,q⟩
theorem ZY:bootBuiltins "sorted" = some (.builtin "sorted"):=by decide +kernel
end
set_option maxHeartbeats 400000
abbrev VEB:List Value:=[.type "ValueError", .type "Exception", .type "BaseException", .type "object"]
structure Exc (K:W.Frag) (C:Addr):Prop where
 ex:W.excIn K C VEB "ValueError.__new__" = true
 h1:W.findIn K (.ref C) "__getattribute__" = some (some (.builtin "BaseException.__getattribute__"))
 h2:W.findIn K (.ref C) "__getattr__" = some none
 hb:W.mroIn K C (.type "BaseException")=some true
 hd:W.hasDictIn K C=true
 ha:W.findIn K (.ref C) "__class__" = some (some (.builtin "object.__class__"))
 hn:W.specialIn K (.builtin "object.__class__") "__get__" = some (some (.builtin "getset_descriptor.__get__"))
 ht:W.takesIn K (.builtin "object.__class__")=some true
 hm:W.mroIn K C (.type "object")=some true
def zDr (x C:Addr) (h:Heap):Prop:=∃ o,h.get? x=some o/\o.cls = .ref C /\ ∃ vs,o.data = .fields vs
variable {C:Addr} {h:Heap}
theorem zDr.keep {x:Addr} {h':Heap} (e:zDr x C h) (k : ∀ o,h.get? x=some o->h'.get? x=some o):zDr x C h':=let ⟨o,a,b⟩:=e;⟨o,k o a,b⟩
section
open PySem.W PySem.Calls Builtin Builtin.ObjectAttr Builtin.Getset_descriptor
variable {K : Frag} {x C : Addr} {M : Model} {h : Heap}
theorem zDr.ty (e:zDr x C h):Looks M h (typeOf (.ref x)) (.ref C):=by
 obtain ⟨o,h1,h2,_⟩:=e
 rw [<- h2]
 exact (Looks.ld h1).andThen .now
variable {prog : Program} {w : World} {A : Around} {E : Value -> Shared -> Prop} {s : Shared}
end
def CXE (P:Program) (w:World):CXT:=fun outer H s E e s'=>∃ (x C:Addr) (a0:Value) (H':Hp) (B:Heap),e = .ref x/\s'.os=s.os/\AllBare s'.gens/\Heap.FlyingW B outer x (.ref C) a0 s'.heap /\
 (∀ h',B.StaysIn h'->s'.heap.UpToSlots h'->Un (frs outer) [] H H' s.heap h'/\HOk P w H' h')/\s.heap.get? x=none/\H' x=none/\E (.ref C) none H'
theorem jr.is (x:jr P w H h a o) : ∃ ob,h.get? a=some ob:=by
 cases o with
 | lst xs=>obtain ⟨_,_,_,_,e⟩:=x;exact ⟨_,e⟩
 | tup xs=>obtain ⟨_,_,_,ob,e,_⟩:=x;exact ⟨_,e⟩
 | dK kvs=>obtain ⟨_,_,_,_,ob,_,_,e,_⟩:=x;exact ⟨_,e⟩
 | dT kvs=>obtain ⟨_,_,_,_,ob,_,_,e,_⟩:=x;exact ⟨_,e⟩
 | set S n=>first | (obtain ⟨ob,e,_⟩:=x;exact ⟨_,e⟩) | (obtain ⟨ob,es,e,_⟩:=x;exact ⟨_,e⟩) | (obtain ⟨ob,es,ep,e,_⟩:=x;exact ⟨_,e⟩) | (obtain ⟨ob,es,ep,z,e,_⟩:=x;exact ⟨_,e⟩)
 | ins C dx fs=>obtain ⟨_,_,_,e,_⟩:=x;exact ⟨_,e⟩
 | own y=>exact x
 | xd fs=>obtain ⟨_,⟨ob,_,_,e,_⟩,_⟩:=x;exact ⟨_,e⟩
 | met f y=>exact ⟨_,x⟩
 | rng lo hi=>obtain ⟨_,_,_,e⟩:=x;exact ⟨_,e⟩
 | frz o u=>exact ⟨_,x.1⟩
 | tbl ps=>exact ⟨_,x⟩
 | ext φ=>exact x.2.1
section
variable {P : Program} {w : World} {K : W.Frag} {mg : Str -> Option Value} {base : Heap} {N : List Str} {qual : Str} {scope : Scope} {f : Addr} {cd : Value} {A : Around} {outer : List Env} {s : Shared} {H : Hp} {E : XK}
theorem Z9 {pins:List (Addr × Obj)} {σ:St} {H1:Hp} {s1:Shared} {h':Heap} {x:Addr} {args:List Value}
  (I:Inv (kC (CXE P w) P w K mg base N qual scope f cd A outer s H E) pins σ H1 s1) (hm:Heap.MadeExcOf s1.heap h' x (.ref C) args) (q:E (.ref C) none H1) :
  (kC (CXE P w) P w K mg base N qual scope f cd A outer s H E).xe (.ref x) { s1 with heap:=h' }:=by
 have hst : ∀ b ∈ frs (envOfC qual scope s.heap.objs.size f cd::outer),H1 b=none:=I.stkFree
 have hin : ∀ env ∈ (envOfC qual scope s.heap.objs.size f cd::outer),∀ b,env.frame=some b->b ∈ frs (envOfC qual scope s.heap.objs.size f cd::outer):=fun env he b hb=>List.mem_filterMap.mpr ⟨env,he,hb⟩
 have FF:s1.heap.FunFrames base (envOfC qual scope s.heap.objs.size f cd::outer):=I.stack
 have old : ∀ b o,s.heap.get? b=some o->b≠s.heap.objs.size:=fun b o e=>ne_of_lt (Heap.lt_size e)
 have sub : ∀ b,b ∈ frs (envOfC qual scope s.heap.objs.size f cd::outer)->b=s.heap.objs.size\/b ∈ frs outer:=fun b hb=>List.mem_cons.mp (I.stkSub b hb)
 refine wpAny_leaves_madeW (base:=W.hideAll s1.heap (frs (envOfC qual scope s.heap.objs.size f cd::outer))) I.ok.frames rfl (fun b o e=>W.of_hideAll _ e) (W.funFrames_hide FF hin) hm fun h2 t f1 f2 f3 f4=>?_
 refine ⟨x,C,.ref t,H1,_,rfl,I.os,I.bare,f1,fun h3 st sm=>?_,?_,?_,q⟩
 ·have here : ∀ b o,s1.heap.get? b=some o->b ∉ frs (envOfC qual scope s.heap.objs.size f cd::outer)->h3.get? b=some o:=fun b o e n=>st b o (W.hideAll_get _ e n)
  have fram : ∀ b o,s1.heap.get? b=some o->b ∈ frs (envOfC qual scope s.heap.objs.size f cd::outer) -> ∃ sl,h3.get? b=some { o with slots:=sl }:=fun b o e m=>by
   obtain ⟨_,o',e',nf⟩:=FF.mem m
   have z:o'=o:=Option.some.inj (e'.symm.trans e)
   subst z
   obtain ⟨sl,e2⟩:=f4 b o' (hm.keeps b o' e) nf
   obtain ⟨sl',e3⟩:=sm b _ e2 nf
   exact ⟨sl',e3⟩
  refine ⟨⟨fun b o e n hb hx=>?_,fun b o e n hb hx=>?_,fun b o e n hx=>I.base.free b o e n hx,fun b o e hx=>?_,I.base.tups,I.base.frzs,I.base.tbls⟩,fun a u e=>?_⟩
  ·exact here b o (I.base.keep b o e n hb hx) fun z=>(sub b z).elim (old b o e) hb
  ·obtain ⟨sl,e1⟩:=I.base.slot b o e n hb hx
   have mem:b ∈ frs (envOfC qual scope s.heap.objs.size f cd::outer):=by
    show b ∈ List.filterMap _ _
    rw [List.filterMap_cons]
    exact List.mem_cons_of_mem _ hb
   obtain ⟨sl',e2⟩:=fram b _ e1 mem
   exact ⟨sl',e2⟩
  ·obtain ⟨o',e1⟩:=I.base.there b o e hx
   by_cases mem:b ∈ frs (envOfC qual scope s.heap.objs.size f cd::outer)
   ·obtain ⟨sl,e2⟩:=fram b o' e1 mem
    exact ⟨_,e2⟩
   ·exact ⟨o',here b o' e1 mem⟩
  ·refine (I.hok a u e).stay (fun b ob hb eb=>here b ob eb fun z=>?_) (fun _ z=>z) (fun _ _ z=>z)
   have:=hst b z
   rcases hb with rfl | hb
   ·rw [e] at this;cases this
   ·rw [hb] at this;cases this
 ·cases z:s.heap.get? x with
  | none=>rfl
  | some o =>
   obtain ⟨o',e1⟩:=I.base.there x o z (fun h=>nomatch h)
   have:=hm.new
   rw [e1] at this;cases this
 ·cases z:H1 x with
  | none=>rfl
  | some o =>
   obtain ⟨ob,e1⟩:=(I.hok x o z).is
   have:=hm.new
   rw [e1] at this;cases this
end
theorem K6 (X:K.In h) (c:Exc K C) : ∃ tl N nm q bs hdct sn sub ab col dd k0 k1 k2 k3 k5 mN,
  h.get? C=some (excClassObj nm q C N bs tl hdct sn sub ab col dd k0 k1 k2 k3 k5 "ValueError.__new__")/\h.Ns N mN/\mN "__init__" = none/\OwnTail h VEB tl:=by
 refine Classical.byContradiction fun ng=>?_
 have q:=c.ex
 clear c
 unfold W.excIn at q
 generalize ho:K.lookup C=o at q
 rcases o with _ | ⟨ty,dd,da,sl⟩
 ·cases q
 cases ty <;> first | (exact absurd q Bool.false_ne_true) | skip
 rename_i tn
 by_cases ht:tn = "type"
 ·subst ht
  cases da <;> first | (exact absurd q Bool.false_ne_true) | skip
  rename_i cd
  obtain ⟨nm,bs,mro,ns,qn,hdc,sn,sub,ab,col,del⟩:=cd
  cases sl with | mk l =>
  rcases mro with _ | ⟨m,bm⟩
  ·exact absurd q Bool.false_ne_true
  cases m <;> first | (exact absurd q Bool.false_ne_true) | skip
  rcases l with _ | ⟨k0,_ | ⟨k1,_ | ⟨k2,_ | ⟨k3,_ | ⟨_ | k4,l⟩⟩⟩⟩⟩ <;> first | (exact absurd q Bool.false_ne_true) | skip
  cases k4 <;> first | (exact absurd q Bool.false_ne_true) | skip
  rcases l with _ | ⟨k5,_ | ⟨k6,l⟩⟩ <;> first | (exact absurd q Bool.false_ne_true) | skip
  have q:(_ && _)=true:=q
  simp only [Bool.and_eq_true,beq_iff_eq,Bool.not_eq_true'] at q
  obtain ⟨⟨⟨⟨⟨z1,z2⟩,hdel⟩,ht⟩,hok⟩,hni⟩:=q
  subst z1 z2 hdel
  exact ng ⟨bm,ns,nm,qn,bs,hdc,sn,sub,ab,col,dd,k0,k1,k2,k3,k5,h.nsMap ns,X _ _ ho,.of_isNs (W.isNs_of_in X hok),W.nsMap_none_of_in X hok hni,W.tail_of_in X ht⟩
 ·unfold W.excIn.match_6 W.nsOkIn._sparseCasesOn_4 W.excIn._sparseCasesOn_6 at q
  dsimp only at q
  rw [dif_neg ht] at q
  cases q
def KR (X:Cx) (E:XK):Prop:=∀ (pins:List (Addr × Obj)) (σ:St) (H:Hp) (s:Shared) (h':Heap) (x C:Addr) (args:List Value),Inv X pins σ H s->Heap.MadeExcOf s.heap h' x (.ref C) args->E (.ref C) none H->X.xe (.ref x) { s with heap:=h' }
def zBh (C:Addr) (E:XK) (t:TA):TS:=fun _ σ H=>t σ H fun vs H1=>vs.length<=sizeLine/\E (.ref C) none H1
variable {E:XK}
theorem yW {np cpos:Pos} (tk:KR X E) (hc:X.calm=true) (c:Exc X.K C) (hg:Gl X x) (hm:X.mg x=some (.ref C)) (ha:PA X (e::es) t)
  (hdb:(x == ("__debug__" : Str))=false:=by decide) (he:starEach (e::es) X.env=(false,eval e X.env)::starEach es X.env:=by rfl) (hpl:(backTo cpos (starEach es X.env)).any (·.1)=false:=by rfl) :
  PS X (.Raise (some (.Call (.Name x np) (e::es) [] cpos)) none pos) (zBh C E t):=by
 intro pins s σ H D I h
 obtain ⟨tl,N,nm,q,bs,hdct,sn,sub,ab,col,dd,k0,k1,k2,k3,k5,mN,hC,hN,hni,T⟩:=K6 I.ok.mod.kin c
 refine wpAny_Raise_call_subT (C:=C) (bm:=tl) (mN:=mN) (N:=N) (nm:=nm) (q:=q) (bs:=bs) (hdct:=hdct) (sn:=sn) (sub:=sub) (ab:=ab) (col:=col) (dd:=dd) (k0:=k0) (k1:=k1) (k2:=k2) (k3:=k3) (k5:=k5) PySem.F.excBase_ValueError (T.hasType PySem.F.excBase_ValueError.hasBase) (I.ok.hd hc) (by rw [he];show (false || (backTo cpos (starEach es X.env)).any (·.1))=false;rw [hpl];rfl) hni (jB I hg hm ⟨rfl,?_⟩ hdb)
 have z:=ha cpos pins s σ H _ I h
 rw [he] at z ⊢
 refine Calls.evalArgs_plain (thn z fun us s1 zq=>?_)
 obtain ⟨vs,H1,I1,r,hl,qe⟩:=zq
 have hv:us.length<=sizeLine:=by rw [<- r.length];exact hl
 exact ⟨rfl,hv,I1.bk _ _ hC,hN.keeps I1.bk,T.keeps I1.bk,fun h' y hm'=>tk pins σ H1 s1 h' y C us I1 hm' qe⟩
def zEr (P:Program) (w:World) (K:W.Frag) (mg:Str->Option Value) (base:Heap) (x:Str) (k:Nat) (ps:List Str) (sp:Sp):Prop:=
 ∃ (f:Addr) (fd:FuncData),xG P w K mg base (CXE P w) k f fd ps sp/\mg x=some (.ref f)/\W.keepIn K (.ref f)=true/\xJ K fd ps []
def XP (X:Cx) (pins:List (Addr × Obj)) (σ:St) (E:XK) (e:Value) (s':Shared):Prop:=∃ H1 s1,Inv X pins σ H1 s1/\CXE X.prog X.w X.stack H1 s1 E e s'
def Cx.inExc (X:Cx) (x:Addr):Cx:={ X with A:=X.A.mark (some (.ref x)),calm:=false,xe:=fun _ _=>False }
section
variable {X : Cx} {pins : List (Addr × Obj)} {σ : St} {H : Hp} {s : Shared}
theorem Cx.Ok.inExc (ok:X.Ok) (x:Addr):(X.inExc x).Ok:=
 ⟨ok.mod,ok.kind,ok.glob,ok.blt,ok.above,ok.inj,ok.has,ok.cab,(fun z=>nomatch z),ok.frames,ok.stk,ok.exf,ok.bs,ok.bsz,ok.noex,ok.exfs,ok.funs,ok.frf⟩
theorem Inv.inExc (I:Inv X pins σ H s) (x:Addr):Inv (X.inExc x) pins σ H s:=⟨I.ok.inExc x,I.os,I.bare,I.base,I.loc,I.cell,I.free,I.freeC,I.pin,I.hok,I.len⟩
theorem Inv.outExc {x:Addr} (ok:X.Ok) (I:Inv (X.inExc x) pins σ H s):Inv X pins σ H s:=⟨ok,I.os,I.bare,I.base,I.loc,I.cell,I.free,I.freeC,I.pin,I.hok,I.len⟩
end
section
variable {X : Cx} {H : Hp} {Q : VK} {K : W.Frag}
theorem Fun.okX {base:Heap} {qual:Str} {st:Stmt} {f:Addr} {N:List Str} (F:Fun K x qual st f fd) (S:zN N ps (zE st)) (len : ∀ vs H Q E,sp vs H Q E->vs.length=ps.length)
  (hbody : ∀ (cdv:Value) (A:Around) (outer:List Env) (s:Shared) (H:Hp) (vs:List V) (Q:VK) (E:XK),xA k (A.deeper (envOfC qual (zE st) s.heap.objs.size f cdv))->sp vs H Q E ->
   KR (kC (CXE P w) P w K mg base N qual (zE st) f cdv A outer s H E) E -> ∃ t,PSs (kC (CXE P w) P w K mg base N qual (zE st) f cdv A outer s H E) (zm st) t/\t { nx:=fun _ H'=>Q .non H',rt:=Q } (start N vs) H):xG P w K mg base (CXE P w) (k+1) f fd ps sp:=by
 obtain ⟨oc,od,kV,doc,pm,an,cdv,ct,osl,rfl,lk,hcd⟩:=F.ex
 exact V1 lk hcd S len fun A outer s H vs Q E hr hsp=>hbody cdv A outer s H vs Q E hr hsp fun pins σ H s h' x C args I hm q=>Z9 I hm q
theorem xG.calm {base:Heap} {f:Addr} (F:xG P w K mg base (CXE P w) k f fd ps sp):xG P w K mg base CX0 k f fd ps (fun vs H Q _=>sp vs H Q E0):=
 ⟨fun vs H Q _ h=>F.len vs H Q E0 h,fun A outer s H args us vs Q _ hr he hb hv hs=>codeAny_mono (F.run A outer s H args us vs Q E0 hr he hb hv hs) fun r s' hq=>by
  cases r with
  | ok fl=>cases fl <;> exact hq
  | error e =>
   obtain ⟨_,_,_,_,_,_,_,_,_,_,_,_,z⟩:=hq
   exact z.elim⟩
end
section
variable {X : Cx} {H : Hp} {Q : VK} {K : W.Frag} {σ : St} {pos p1 p2 : Pos} {n1 n2 : Nat} {a b : Int}
def zF9 (p:Addr):HO:=.ext (W.KitAt p "dict")
inductive Odd (H:Hp):V->Prop where
 | non:Odd H .non
 | bl (b:Bool):Odd H (.bl b)
 | str (x:Str):Odd H (.str x)
 | lst {p:Addr} {xs:List V} (e:H p=some (.lst xs)):Odd H (.ref p)
 | tup {p:Addr} {xs:List V} (e:H p=some (.tup xs)):Odd H (.ref p)
 | dct {p:Addr} (e:H p=some (zF9 p)):Odd H (.ref p)
theorem Odd.same {v:V} (h:Odd H v) (g:zY H H'):Odd H' v:=by
 cases h with
 | non=>exact .non
 | bl b=>exact .bl b
 | str x=>exact .str x
 | lst e=>exact .lst (g _ _ e)
 | tup e=>exact .tup (g _ _ e)
 | dct e=>exact .dct (g _ _ e)
def Xs (K:W.Frag):List V->Hp->VK->Prop:=fun xs H Q=>zDs K xs H Q \/ ∃ p T b,xs=[.ref p,.ty T]/\H p=some (zF9 p)/\W.kitOne K (.type "dict") (.type T)=some b/\Q (.bl b) H
theorem K7 {i:Bool} {T:String} {b:Bool} (e:W.kitOne K (.type "bool") (.type T)=some b) (q:Q (.bl b) H):Xs K [.bl i,.ty T] H Q:=.inl (XB (.bl i) ⟨_,.inl rfl⟩ e q)
theorem VB {T:String} {b:Bool} (e:W.kitOne K (.type "str") (.type T)=some b) (q:Q (.bl b) H):Xs K [.str x,.ty T] H Q:=.inl (XB (.str x) ⟨_,.inl rfl⟩ e q)
theorem V2 {T:String} {b:Bool} (e:W.kitOne K (.type "NoneType") (.type T)=some b) (q:Q (.bl b) H):Xs K [.non,.ty T] H Q:=.inl (XB .non ⟨_,.inl rfl⟩ e q)
theorem V7 {p:Addr} {T:String} {b:Bool} (h:H p=some (.lst xs)) (e:W.kitOne K (.type "list") (.type T)=some b) (q:Q (.bl b) H):Xs K [.ref p,.ty T] H Q:=.inl (XB (.lst h) ⟨_,.inl rfl⟩ e q)
theorem VU {p:Addr} {T:String} {b:Bool} (h:H p=some (.tup xs)) (e:W.kitOne K (.type "tuple") (.type T)=some b) (q:Q (.bl b) H):Xs K [.ref p,.ty T] H Q:=.inl (XB (.tup h) ⟨_,.inl rfl⟩ e q)
theorem V4 {p:Addr} {T:String} {b:Bool} (h:H p=some (zF9 p)) (e:W.kitOne K (.type "dict") (.type T)=some b) (q:Q (.bl b) H):Xs K [.ref p,.ty T] H Q:=.inr ⟨p,T,b,rfl,h,e,q⟩
theorem Odd.int {v:V} (h:Odd H v) (q1:Q (.bl true) H) (q0:Q (.bl false) H):Xs K [v,.ty "int"] H Q:=by
 cases h with
 | non=>exact V2 (wW K) q0
 | bl b=>exact K7 (J0 K) q1
 | str x=>exact VB (Xq K) q0
 | lst e=>exact V7 e (Jp K) q0
 | tup e=>exact VU e (JR K) q0
 | dct e=>exact V4 e (J1 K) q0
theorem Wi {D:kD} (h:t σ H fun vs H1=>vs.length<=sizeLine/\E (.ref C) none H1):zBh C E t D σ H:=h
def Nm (K:W.Frag) (x:Str) (C:Addr):Prop:=W.nsIn K mainGlobals x=some (some (.ref C))
theorem Nm.eq {C':Addr} (h:Nm K x C) (h':Nm K x C'):C=C':=by
 have:=h.symm.trans h'
 cases this;rfl
variable {env:Env}
theorem Zb {c:Const}:starEach (.Constant c n p::es) env=(false,eval (.Constant c n p) env)::starEach es env:=rfl
theorem zu:starEach (.Name x p::es) env=(false,eval (.Name x p) env)::starEach es env:=rfl
theorem z6 {a b:Expr}:starEach (.Subscript a b p::es) env=(false,eval (.Subscript a b p) env)::starEach es env:=rfl
theorem Y4 {a:Expr} {os:List CmpOp} {bs:List Expr}:starEach (.Compare a os bs p::es) env=(false,eval (.Compare a os bs p) env)::starEach es env:=rfl
theorem zD5 {T:String} {r:V->List V->Hp->VK->Prop} {to:TE} (h:to σ H fun x H1=>tyV K T x H1/\t σ H1 fun xs H2=>r x xs H2 Q):tBM K T r to t σ H Q:=h
theorem zBU {p:Addr} {R:Prop} (h:SqL K H p xs) (q:R):tyV K "list" (.ref p) H/\R:=⟨.inl ⟨rfl,_,h⟩,q⟩
theorem JW {y:V} (h:H l=some (.lst xs)) (h2:xs.length < sizeLine) (q:Q .non (upd H l (.lst (xs++[y])))):Xg (.ref l) [y] H Q:=⟨l,xs,y,rfl,rfl,h,h2,q⟩
def SB (r:Addr) (H F:Hp):Prop:=∀ b o,b≠r->H b=some o->F b=some o
theorem SB.refl {r:Addr}:SB r H H:=fun _ _ _ e=>e
theorem SB.same {r:Addr} {F:Hp} (h:SB r H F) (n:H r=none):zY H F:=fun b o e=>h b o (z7 e n) e
end
section
variable {X : Cx} {H : Hp} {Q : VK} {K : W.Frag}
def zAJ:R2:=fun x y H Q=>∃ i j:Str,x = .str i/\y = .str j/\i.length+j.length<=sizeLine/\Q (.str (i++j)) H
theorem zp:OpR X (binaryOp .Add) zAJ:=Ve
theorem zFz {i j:Str} (hz:i.length+j.length<=sizeLine) (q:Q (.str (i++j)) H):zAJ (.str i) (.str j) H Q:=⟨i,j,rfl,rfl,hz,q⟩
variable {z:Str}
theorem zE2 {c:Nat} (hz:z.length<=sizeLine) (e:atI z.cps.toList i=some c) (q:Q (.str ⟨#[c]⟩) H):zBN (.str z) (.int i) H Q:=⟨z,i,c,rfl,rfl,hz,e,q⟩
def zBC:List V->Hp->VK->Prop:=fun xs H Q=>∃ z:Str,xs=[.str z]/\z.length<=sizeLine/\Q (.int z.length) H
theorem zc:jx X (.builtin "len") zBC:=J5
theorem zEj (hz:z.length<=sizeLine) (q:Q (.int z.length) H):zBC [.str z] H Q:=⟨z,rfl,hz,q⟩
def zGG:R2:=fun x y H Q=>∃ i j:Str,x = .str i/\y = .str j/\Q (.bl (!(Builtin.Str.occurrences j i 0 j.length 1).isEmpty)) H
theorem Ko:OpR X (compareOp .In) zGG:=K4
theorem zFE {i j:Str} (q:Q (.bl (!(Builtin.Str.occurrences j i 0 j.length 1).isEmpty)) H):zGG (.str i) (.str j) H Q:=⟨i,j,rfl,rfl,q⟩
theorem zB6 {i j:Str} (q:Q (.bl (decide (i=j))) H):rEq (.str i) (.str j) H Q:=Vz rfl q
theorem zAh (q:Q (.bl true) H):zDs K [.str x,.ty "str"] H Q:=XB (.str x) ⟨_,.inl rfl⟩ (Xl K) q
def zAp:V->Option Int->Option Int->Hp->VK->Prop:=fun x lo hi H Q=>∃ z:Str,x = .str z/\z.length<=sizeLine/\Q (.str (Txt.slice z lo hi)) H
theorem jH:SlR X zAp:=by
 intro pins s σ H x v vl vu lo hi sl Q I rx hs pl pu h
 obtain ⟨z,rfl,hz,q⟩:=h
 obtain ⟨t,rfl⟩:=rx
 refine ⟨"str", _,PySem.F.slot_str_getitem.lookup,typeIs_str _ _ _,?_⟩
 have fin : ∀ (t':Tok) (k:Nat),EP X pins σ Q (.str (Txt.slice z lo hi) t') { s with toks:=k }:=fun t' k=>⟨.str _,H,I.tok _,⟨t',rfl⟩,q⟩
 have le:=le_trans (Txt.slice_le z lo hi) hz
 cases pl <;> cases pu
 ·exact wpAny_getItem_str_slice (l:=none) (u:=none) (st:=none) hs rfl (post_val_or_str ⟨le,fin⟩)
 ·exact wpAny_getItem_str_slice (l:=none) (u:=some (_,_)) (st:=none) hs rfl (post_val_or_str ⟨le,fin⟩)
 ·exact wpAny_getItem_str_slice (l:=some (_,_)) (u:=none) (st:=none) hs rfl (post_val_or_str ⟨le,fin⟩)
 ·exact wpAny_getItem_str_slice (l:=some (_,_)) (u:=some (_,_)) (st:=none) hs rfl (post_val_or_str ⟨le,fin⟩)
theorem zAj {lo hi:Option Int} (hz:z.length<=sizeLine) (q:Q (.str (Txt.slice z lo hi)) H):zAp (.str z) lo hi H Q:=⟨z,rfl,hz,q⟩
end
abbrev Lt (x:Str):List Nat:=x.cps.toList
def T (l:List Nat):Str:=⟨l.toArray⟩
theorem QG (l:List Nat):Lt (T l)=l:=rfl
theorem zEK (x:Str):T (Lt x)=x:=by cases x;simp [T,Lt]
variable {y:Str}
theorem XE (h:Lt x=Lt y):x=y:=by rw [<- zEK x,<- zEK y,h]
theorem zGS {a b:List Nat}:T a=T b↔a=b:=⟨fun h=>by have:=congrArg Lt h;rwa [QG,QG] at this,fun h=>by rw [h]⟩
theorem zEU (x:Str):x.length=(Lt x).length:=rfl
theorem zGN (x y:Str):x++y=T (Lt x++Lt y):=XE (by rw [QG];show (x.cps++y.cps).toList=_;simp)
theorem xL {a b:List Nat} {i:Nat} (h:i < a.length):(a++b).getD i 0=a.getD i 0:=by
 rw [getD_eq_getElem?_getD,getD_eq_getElem?_getD,List.getElem?_append_left h]
theorem Xb {a b:List Nat} {i:Nat} (h:a.length<=i):(a++b).getD i 0=b.getD (i - a.length) 0:=by
 rw [getD_eq_getElem?_getD,getD_eq_getElem?_getD,List.getElem?_append_right h]
theorem KN (l:List Nat) (a:Nat) : ∀ m:Nat,(List.range m).filterMap (fun k=>l[a+k]?)=(l.drop a).take m
 | 0=>by simp
 | m+1=>by
  rw [List.range_succ,List.filterMap_append,KN l a m,List.take_succ]
  congr 1
  rw [List.getElem?_drop]
  rw [List.filterMap_cons]
  cases l[a+m]? <;> rfl
def cl (n d:Nat):Option Int->Nat
 | none=>d
 | some i=>(max 0 (min (if i < 0 then i+n else i) (n:Int))).toNat
theorem Qy (z:Str) (lo hi:Option Int):Txt.slice z lo hi=T (((Lt z).take (cl (Lt z).length (Lt z).length hi)).drop (cl (Lt z).length 0 lo)):=by
 have e:Builtin.Str.strSliceIndices lo hi 1 z.length=(List.range (cl (Lt z).length (Lt z).length hi - cl (Lt z).length 0 lo)).map (fun x=>cl (Lt z).length 0 lo+x):=by
  rw [<- sliceRange_one]
  unfold Builtin.Str.strSliceIndices
  cases lo <;> cases hi <;> simp [cl,zEU,Int.toNat_of_nonneg,Int.le_max_left]
 have k:(List.filterMap (fun x=>z.cps[x]?) (Builtin.Str.strSliceIndices lo hi 1 z.length))=((Lt z).take (cl (Lt z).length (Lt z).length hi)).drop (cl (Lt z).length 0 lo):=by
  rw [e,List.filterMap_map]
  have f:((fun x=>z.cps[x]?) ∘ fun x=>cl (Lt z).length 0 lo+x)=fun k=>(Lt z)[cl (Lt z).length 0 lo+k]?:=by funext k;simp [Lt]
  rw [f,KN,List.drop_take]
 unfold Txt.slice
 split
 ·rename_i h
  have hl:(Builtin.Str.strSliceIndices lo hi 1 z.length).length=(Lt z).length:=(by simpa using h:_=z.length)
  rw [e,length_map,List.length_range] at hl
  have b1:cl (Lt z).length (Lt z).length hi<=(Lt z).length:=by
   unfold cl;split <;> omega
  rcases eq_zero_or_pos (Lt z).length with p | p
  ·rw [eq_nil_of_length_eq_zero p];simp
   exact XE (eq_nil_of_length_eq_zero p)
  ·rw [show cl (Lt z).length 0 lo=0 by omega,show cl (Lt z).length (Lt z).length hi=(Lt z).length by omega,take_length,drop_zero,zEK]
 ·rw [k];rfl
section
variable {X : Cx} {H : Hp} {Q : VK} {K : W.Frag}
theorem zBp (hz:(Lt x).length+(Lt y).length<=16777216) (q:Q (.str (T (Lt x++Lt y))) H):zAJ (.str x) (.str y) H Q:=zFz hz (by rw [zGN];exact q)
variable {z:Str}
theorem zBq (hz:(Lt z).length<=16777216) (q:Q (.int (Lt z).length) H):zBC [.str z] H Q:=zEj hz q
theorem zAn (hz:(Lt z).length<=16777216) (h0:0<=i) (h1:i < (Lt z).length) (q:Q (.str (T [(Lt z).getD i.toNat 0])) H):zBN (.str z) (.int i) H Q:=by
 refine zE2 (c:=(Lt z).getD i.toNat 0) hz ?_ q
 unfold atI ixN
 rw [if_pos h0,if_pos h1]
 show (Lt z)[i.toNat]? = _
 rw [getD_eq_getElem?_getD,getElem?_eq_getElem (by omega)];rfl
theorem Wq (n:Nat) (hn:(Lt z).length=n) (hz:n<=16777216) (h0:0<=i) (h1:i < n) (q : ∀ c,c ∈ Lt z->Q (.str (T [c])) H):zBN (.str z) (.int i) H Q:=by
 refine zAn (by omega) h0 (by omega) (q _ ?_)
 rw [getD_eq_getElem?_getD,getElem?_eq_getElem (by omega)]
 exact getElem_mem _
theorem zFq (hz:(Lt z).length<=16777216) (h1:0 < (Lt z).length) (q:Q (.str (T [(Lt z).getD ((Lt z).length - 1) 0])) H):zBN (.str z) (.int (-1)) H Q:=by
 refine zE2 (c:=(Lt z).getD ((Lt z).length - 1) 0) hz ?_ q
 unfold atI ixN
 rw [if_neg (show ¬ (0:Int) <= -1 by decide),if_pos (show -((Lt z).length:Int) <= -1 by omega)]
 show (Lt z)[((-1:Int)+(Lt z).length).toNat]? = _
 rw [show ((-1:Int)+(Lt z).length).toNat=(Lt z).length - 1 by omega,getD_eq_getElem?_getD,getElem?_eq_getElem (by omega)];rfl
theorem zEH (hz:(Lt z).length<=16777216) (h:0<=j) (q:Q (.str (T ((Lt z).take j.toNat))) H):zAp (.str z) none (some j) H Q:=by
 refine zAj hz ?_
 rw [Qy]
 have e:(Lt z).take (cl (Lt z).length (Lt z).length (some j))=(Lt z).take j.toNat:=by
  unfold cl;dsimp only;rw [if_neg (by omega)]
  rcases Int.le_total j (Lt z).length with p | p
  ·rw [Int.min_eq_left p,max_eq_right h]
  ·rw [Int.min_eq_right p,max_eq_right (by omega),take_of_length_le (by omega),take_of_length_le (by omega)]
 rw [e];exact q
theorem K8 (l:List Nat) (h:0<=i) (n d:Nat) (hn:l.length<=n):l.drop (cl n d (some i))=l.drop i.toNat:=by
 unfold cl;dsimp only;rw [if_neg (by omega)]
 rcases Int.le_total i n with p | p
 ·rw [Int.min_eq_left p,max_eq_right h]
 ·rw [Int.min_eq_right p,max_eq_right (by omega),drop_of_length_le (by omega),drop_of_length_le (by omega)]
theorem zDj (l:List Nat) (h:0<=i) (d:Nat):l.take (cl l.length d (some i))=l.take i.toNat:=by
 unfold cl;dsimp only;rw [if_neg (by omega)]
 rcases Int.le_total i l.length with p | p
 ·rw [Int.min_eq_left p,max_eq_right h]
 ·rw [Int.min_eq_right p,max_eq_right (by omega),take_of_length_le (by omega),take_of_length_le (by omega)]
theorem zES (hz:(Lt z).length<=16777216) (h:0<=i) (q:Q (.str (T ((Lt z).drop i.toNat))) H):zAp (.str z) (some i) none H Q:=by
 refine zAj hz ?_
 rw [Qy,K8 _ h _ _ (by rw [length_take];omega)]
 show Q (.str (T (((Lt z).take (Lt z).length).drop i.toNat))) H
 rw [take_length];exact q
theorem zCP (hz:(Lt z).length<=16777216) (h:0<=i) (h':0<=j) (q:Q (.str (T (((Lt z).take j.toNat).drop i.toNat))) H):zAp (.str z) (some i) (some j) H Q:=by
 refine zAj hz ?_
 rw [Qy,K8 _ h _ _ (by rw [length_take];omega),zDj _ h']
 exact q
def zFB:R2:=fun x y H Q=>∃ (z:Str) (n:Int),x = .str z/\y = .int n/\n < 16777216 /\ -16777216 < n/\(Lt z).length*n.toNat<=16777216/\Q (.str (T (List.replicate n.toNat (Lt z)).flatten)) H
theorem XI : ∀ (xs:List (Array Nat)) (a:Array Nat),(xs.foldl (fun x1 x2=>x1++x2) a).toList=a.toList++(xs.map Array.toList).flatten
 | [],a=>by simp
 | x::xs,a=>by rw [foldl_cons,XI xs];simp
theorem zG5 (z:Str) (n:Int):Txt.mul z n=T (List.replicate n.toNat (Lt z)).flatten:=by
 unfold Txt.mul
 split
 ·rw [show n.toNat=0 by omega];rfl
 ·split
  ·rename_i h1 h2
   rw [Bool.or_eq_true] at h2
   rcases h2 with h | h
   ·have:n=1:=by simpa using h
    subst this
    show z=T ([Lt z].flatten)
    simp [zEK]
   ·have e:(Lt z).length=0:=(by simpa using h:z.length=0)
    have e':Lt z=[]:=eq_nil_of_length_eq_zero e
    refine XE ?_
    rw [QG,e']
    simp
  ·refine XE ?_
   show (List.foldl (fun x1 x2=>x1++x2) #[] (List.replicate n.toNat z.cps)).toList=_
   rw [XI,List.map_replicate,QG]
   simp
theorem kg:OpR X (binaryOp .Mult) zFB:=by
 intro pins s σ H x y v u Q I rx ry h
 obtain ⟨z,n,rfl,rfl,h1,h2,h3,q⟩:=h
 obtain ⟨t,rfl⟩:=rx
 obtain ⟨t',rfl⟩:=ry
 refine SB.mul ⟨?_,fun h4 _=>?_,fun _ _=>?_⟩ fun t' k=>⟨.str _,H,I.tok _,⟨t',rfl⟩,by rw [zG5];exact q⟩
 ·rw [decide_eq_false (by omega),decide_eq_false (by omega)];rfl
 ·have e:((Lt z).length:Int)*n<=16777216:=by
   have:=Int.ofNat_le.mpr h3
   rw [Int.natCast_mul,Int.toNat_of_nonneg (by omega)] at this;exact this
  intro h5
  have h6:=Int.mul_le_of_le_ediv (c:=n) (by omega) (Int.le_refl ((2 ^ 63 - 1) / n))
  have h7:((2:Int) ^ 63 - 1) / n+1<=(Lt z).length:=h5
  have h8:=Int.mul_le_mul_of_nonneg_right h7 (show 0<=n by omega)
  have h9:=Int.lt_ediv_add_one_mul_self ((2:Int) ^ 63 - 1) (show 0 < n by omega)
  omega
 ·unfold Builtin.Str.tooLong
  exact decide_eq_false (by show ¬ (Lt z).length*n.toNat > 16777216;omega)
theorem zDK {c:Nat} {n:Int} (h1:n < 16777216) (h2 : -16777216 < n) (q:Q (.str (T (List.replicate n.toNat c))) H):zFB (.str (T [c])) (.int n) H Q:=
 ⟨T [c],n,rfl,rfl,h1,h2,by rw [QG,length_singleton,Nat.one_mul];omega,by rw [QG,List.flatten_replicate_singleton];exact q⟩
theorem WK {i j:Str} (q:Q (.bl (!decide (i=j))) H):rNe (.str i) (.str j) H Q:=⟨rfl,by
 have e:decide (V.str i=V.str j)=decide (i=j):=by
  by_cases h:i=j
  ·rw [decide_eq_true h,decide_eq_true (congrArg V.str h)]
  ·rw [decide_eq_false h,decide_eq_false (fun z=>h (V.str.inj z))]
 rw [e];exact q⟩
theorem zCm {a b:List Nat} (hz:a.length+b.length<=16777216) (q:Q (.str (T (a++b))) H):zAJ (.str (T a)) (.str (T b)) H Q:=zBp hz q
theorem zC2 {a:List Nat} (hz:a.length<=16777216) (q:Q (.int a.length) H):zBC [.str (T a)] H Q:=zBq hz q
theorem zE5 {a:List Nat} (hz:a.length<=16777216) (h0:0<=i) (h1:i < a.length) (q:Q (.str (T [a.getD i.toNat 0])) H):zBN (.str (T a)) (.int i) H Q:=zAn hz h0 h1 q
theorem zC9 {a:List Nat} (hz:a.length<=16777216) (h1:0 < a.length) (q:Q (.str (T [a.getD (a.length - 1) 0])) H):zBN (.str (T a)) (.int (-1)) H Q:=zFq hz h1 q
theorem zDf {a:List Nat} (hz:a.length<=16777216) (h:0<=j) (q:Q (.str (T (a.take j.toNat))) H):zAp (.str (T a)) none (some j) H Q:=zEH hz h q
theorem zDG {a:List Nat} (hz:a.length<=16777216) (h:0<=i) (q:Q (.str (T (a.drop i.toNat))) H):zAp (.str (T a)) (some i) none H Q:=zES hz h q
theorem zBB {a:List Nat} (hz:a.length<=16777216) (h:0<=i) (h':0<=j) (q:Q (.str (T ((a.take j.toNat).drop i.toNat))) H):zAp (.str (T a)) (some i) (some j) H Q:=zCP hz h h' q
theorem zBw {a b:List Nat} (q:Q (.bl (decide (a=b))) H):rEq (.str (T a)) (.str (T b)) H Q:=zB6 (by
 have e:decide (T a=T b)=decide (a=b):=decide_eq_decide.mpr zGS
 rw [e];exact q)
theorem zBZ {a b:List Nat} (q:Q (.bl (!decide (a=b))) H):rNe (.str (T a)) (.str (T b)) H Q:=WK (by
 have e:decide (T a=T b)=decide (a=b):=decide_eq_decide.mpr zGS
 rw [e];exact q)
theorem zCR (h:decide (x=y)=b) (q:Q (.bl (!b)) H):rNe (.str x) (.str y) H Q:=WK (by rw [h];exact q)
theorem wA {p:Addr} (h:SqL K H p xs) (h0:0<=i) (h1:i < xs.length) (q : ∀ x,xs[i.toNat]? = some x->Q x H):zBi K (.ref p) (.int i) H Q:=by
 have h2:i.toNat < xs.length:=by omega
 have e:atI xs ((i.toNat:Nat):Int)=some xs[i.toNat]:=zCJ (getElem?_eq_getElem h2)
 rw [show ((i.toNat:Nat):Int)=i by omega] at e
 exact zAr h e (q _ (getElem?_eq_getElem h2))
def WB:V->List V->Hp->VK->Prop:=fun x xs H Q=>∃ z y:Str,x = .str z/\xs=[.str y]/\Q (.int (Txt.find z y)) H
theorem zAb:MtR X "str.find" WB:=by
 intro pins s σ H x xs v us Q I rx rv h
 obtain ⟨z,y,rfl,rfl,q⟩:=h
 obtain ⟨t,rfl⟩:=rx
 obtain ⟨u,rfl,ru⟩:=rv.one
 obtain ⟨t',rfl⟩:=ru
 exact SC.find ⟨.int _,H,I.tok _,⟨_,rfl⟩,q⟩
theorem WF (q:Q (.int (Txt.find z y)) H):WB (.str z) [.str y] H Q:=⟨z,y,rfl,rfl,q⟩
theorem zGu {R:Prop} (q:R):tyV K "str" (.str z) H/\R:=⟨rfl,q⟩
end
def Its (x:Str):It:=⟨fun i _=>i < (Lt x).length,fun i H v H'=>H'=H /\ ∃ c,(Lt x)[i]? = some c/\v = .str (T [c]),fun i _=>i=(Lt x).length⟩
theorem zAY {K:PySem.W.Frag} {tg:Expr} (x:Str) (t:Tok) (it:Addr) (ty:String) (hty:ty = "str_ascii_iterator" \/ ty = "str_iterator"):zDt P w K tg (Its x) [it] it (fun i h=>h.IsStrIter it ty x t i) where
 mem:=by simp
 obj:=fun i h st b hb=>by
  have e:b=it:=by simpa using hb
  subst e
  obtain ⟨o,e,c,d⟩:=st
  exact ⟨o,e,fun v z=>by rw [d] at z;cases z⟩
 keep:=fun i h h' st k=>by
  obtain ⟨o,e,c,d⟩:=st
  exact ⟨o,k it (by simp) o e,c,d⟩
 item:=by
  intro X hP hw hK hc i pins s σ H E I hf st hg
  subst hP hw hK
  obtain ⟨f0,f1,f2,f3,f4,f5⟩:=hf it (by simp)
  have W:Walks X.prog X.w X.A it [it] [it] x.cps.size (SignAt x) (fun i h=>h.IsStrIter it ty x t i):=by
   rcases hty with rfl | rfl
   ·exact Walks.strAscii (I.ok.hd hc) it x t
   ·exact Walks.strWide (I.ok.hd hc) it x t
  refine W.item i s _ _ hg st fun v h' tk hv st' kk=>?_
  obtain ⟨c,u,hcu,rfl⟩:=hv
  have I1:Inv X pins σ H { s with heap:=h',toks:=tk }:=I.turned (fun b o hb e=>kk b o (by simpa using hb) e) f0 f1 f3 f4 f5
  obtain ⟨o,e,c1,d⟩:=id st'
  have hn:["enumerate", "zip", "dict_itemiterator", "dict_reverseitemiterator", "odict_iterator", "itertools.zip_longest", "itertools.pairwise"].contains ty=false:=by rcases hty with rfl | rfl <;> decide
  exact ⟨_,rfl,W9 (s:={ s with heap:=h',toks:=tk }) e c1 d hn ⟨.str (T [c]),H,I1,⟨u,rfl⟩,⟨rfl,c,by simpa [Lt] using hcu,rfl⟩,st',fun b hb=>(hf b hb).1⟩⟩
 done:=by
  intro X hP hw hK hc i pins s σ H E I hf st hg
  subst hP hw hK
  obtain ⟨f0,f1,f2,f3,f4,f5⟩:=hf it (by simp)
  have W:Walks X.prog X.w X.A it [it] [it] x.cps.size (SignAt x) (fun i h=>h.IsStrIter it ty x t i):=by
   rcases hty with rfl | rfl
   ·exact Walks.strAscii (I.ok.hd hc) it x t
   ·exact Walks.strWide (I.ok.hd hc) it x t
  have hi:i=x.cps.size:=hg
  subst hi
  exact W.done s _ _ st fun h' tk kk=>⟨rfl,I.turned (fun b o hb e=>kk b o (by simpa using hb) e) f0 f1 f3 f4 f5⟩
 self:=fun _ _ _ _ _ st h=>by
  rcases hty with rfl | rfl
  ·exact wpAny_pyIter_striter_ascii st h
  ·exact wpAny_pyIter_striter_wide st h
section
variable {X : Cx} {tg : Expr}
def zG0 (tl:TE):TI:=fun σ H R=>tl σ H fun x H1=>∃ z:Str,x = .str z/\R (Its z) H1
theorem YC {l:Expr} {tl:TE} (hl:PE X l tl):PI X tg l (zG0 tl):=by
 intro pins s σ H R I h
 refine thn (hl pins s σ H _ I h) fun v s1 zq=>?_
 obtain ⟨x,H1,I1,r1,q1⟩:=zq
 obtain ⟨z,e,q⟩:=q1
 subst e
 obtain ⟨t,rfl⟩:=r1
 have hty:strIterType z = "str_ascii_iterator" \/ strIterType z = "str_iterator" := by unfold strIterType;split <;> simp
 refine wpAny_pyIter_strU ?_
 refine ⟨s1.heap.objs.size,[s1.heap.objs.size],_,_,H1,rfl,I1.kept (t':=s1.toks) fun b o e=>Heap.get?_push_of_some _ e,zAY z t _ _ hty,⟨_,Heap.get?_push_size _ rfl,rfl,rfl⟩,fun b hb=>?_,q⟩
 have e:b=s1.heap.objs.size:=by simpa using hb
 subst e
 exact I1.fpOk (Nat.le_refl _) (I1.hok.fresh (Nat.le_refl _))
end
section
variable {σ : St} {H : Hp} {Q : VK} {D : kD} {K : W.Frag}
def zFu (g:TG) (tb:TS) (D:kD) (σ:St) (x:V) (H:Hp):Prop:=∃ z:Str,x = .str z /\ ∃ W:Nat->Nat->St->Hp->Prop,(∃ m,W 0 m σ H) /\ ∀ i m σ H,W i m σ H ->
 ((Its z).stop i H/\D.nx σ H)\/((Its z).go i H /\ ∃ N:St->Hp->Prop,(∀ σ' H',N σ' H' -> ∃ m',m' < m/\W (i+1) m' σ' H') /\ ∀ x H',(Its z).yld i H x H'->g x σ H' fun σ2 H2=>tb { D with nx:=N,ct:=N,bk:=D.nx } σ2 H2)
theorem zE7 {tl:TE} {g:TG} {tb:TS} (h:tl σ H (zFu g tb D σ)):zDp (zG0 tl) g tb D σ H:=h
theorem zDI {g:TG} {tb:TS} {a:List Nat} (Pv:Nat->St->Hp->Prop) (h0:Pv 0 σ H)
  (hs : ∀ i c σ H,a[i]? = some c->Pv i σ H->g (.str (T [c])) σ H fun σ2 H2=>tb { D with nx:=Pv (i+1),ct:=Pv (i+1),bk:=D.nx } σ2 H2) (hd : ∀ σ H,Pv a.length σ H->D.nx σ H):zFu g tb D σ (.str (T a)) H:=by
 refine ⟨T a,rfl,fun i m σ H=>i+m=a.length/\Pv i σ H,⟨a.length,by omega,h0⟩,?_⟩
 rintro i m σ H ⟨hm,hp⟩
 rcases lt_or_ge i a.length with h | h
 ·refine .inr ⟨h,Pv (i+1),fun σ' H' hp'=>⟨m - 1,by omega,by omega,hp'⟩,?_⟩
  rintro x H' ⟨rfl,c,hc,rfl⟩
  exact hs i c σ H' hc hp
 ·have e:i=a.length:=by omega
  subst e
  exact .inl ⟨rfl,hd σ H hp⟩
end
def fv (c:Nat):Int:=if 48<=c/\c<=57 then (c:Int) - 48 else if 97<=c/\c<=102 then (c:Int) - 87 else -1
theorem zAS : ∀ c ∈ List.range 127,Txt.find "0123456789abcdef" (T [c])=fv c:=by decide +kernel
theorem zCE {c:Nat} (h:c < 127):Txt.find "0123456789abcdef" (T [c])=fv c:=zAS c (List.mem_range.mpr h)
def fc (d:Nat):Nat:=(Lt "0123456789abcdef").getD d 0
theorem zEy : ∀ d ∈ List.range 16,fc d < 127/\fv (fc d)=d/\(fc d=48->d=0):=by decide +kernel
variable {d:Nat}
theorem zAH (h:d < 16):fc d < 127/\fv (fc d)=d/\(fc d=48->d=0):=zEy d (List.mem_range.mpr h)
def val (b:Int) (l:List Nat):Int:=l.foldl (fun n c=>n*b+fv c) 0
theorem kr (b:Int) (l:List Nat) (c:Nat):val b (l++[c])=val b l*b+fv c:=by unfold val;rw [List.foldl_append];rfl
theorem QB (b:Int) (l:List Nat) : ∀ m:Nat,val b (List.replicate m 48++l)=val b l
 | 0=>by simp
 | m+1=>by
  have ih:=QB b l m
  unfold val at ih ⊢
  rw [List.replicate_succ,List.cons_append,foldl_cons]
  have:(0:Int)*b+fv 48=0:=by rw [Int.zero_mul];decide
  rw [this];exact ih
def jy (b:Int) (l:List Nat):Prop:=∀ c ∈ l,c < 127/\0<=fv c/\fv c < b
theorem jy.mono {b b':Int} {l:List Nat} (h:jy b l) (hb:b<=b'):jy b' l:=fun c hc=>⟨(h c hc).1,(h c hc).2.1,by have:=(h c hc).2.2;omega⟩
theorem jy.app {b:Int} {l m:List Nat} (h:jy b l) (h':jy b m):jy b (l++m):=fun c hc=>(List.mem_append.mp hc).elim (h c) (h' c)
theorem jy.noughts {b:Int} (hb:2<=b) (m:Nat):jy b (List.replicate m 48):=fun c hc=>by
 rw [List.eq_of_mem_replicate hc];exact ⟨by decide,by decide,by show (0:Int) < b;omega⟩
theorem jy.one {b:Nat} (hb:b<=16) (h:d < b):jy b [fc d]:=fun c hc=>by
 rw [List.mem_singleton.mp hc]
 have:=zAH (d:=d) (by omega)
 exact ⟨this.1,by omega,by omega⟩
def xh (b n:Nat):List Nat:=if h:n < b\/b < 2 then [fc n] else xh b (n / b)++[fc (n % b)]
termination_by n
decreasing_by exact Nat.div_lt_self (by omega) (by omega)
theorem jL {b:Nat} (h:n < b):xh b n=[fc n]:=by rw [xh];simp [h]
theorem y8 {b:Nat} (h2:2<=b) (h:b<=n):xh b n=xh b (n / b)++[fc (n % b)]:=by rw [xh];simp [show ¬ n < b by omega,show ¬ b < 2 by omega]
theorem WN {b:Nat} (h2:2<=b) (h16:b<=16) : ∀ (m n:Nat),n<=m->jy b (xh b n)/\val b (xh b n)=n/\xh b n≠[]/\((xh b n).getD 0 0=48->n=0):=by
 intro m
 induction m with
 | zero =>
  intro n hn
  rw [jL (by omega)]
  have e:=zAH (d:=n) (by omega)
  exact ⟨jy.one h16 (by omega),by unfold val;simp [e.2.1],by simp,fun _=>by omega⟩
 | succ m ih =>
  intro n hn
  rcases lt_or_ge n b with h | h
  ·rw [jL h]
   have e:=zAH (d:=n) (by omega)
   exact ⟨jy.one h16 (by omega),by unfold val;simp [e.2.1],by simp,fun q=>e.2.2 (by simpa using q)⟩
  ·have hd:n / b < n:=Nat.div_lt_self (by omega) (by omega)
   obtain ⟨i1,i2,i3,i4⟩:=ih (n / b) (by omega)
   have hm:=Nat.mod_lt n (show b > 0 by omega)
   rw [y8 h2 h]
   refine ⟨i1.app (jy.one h16 hm),?_,by simp,fun q=>?_⟩
   ·rw [kr,i2,(zAH (d:=n % b) (by omega)).2.1]
    have:=Nat.div_add_mod n b
    rw [Nat.mul_comm] at this
    omega
   ·rw [xL (List.length_pos_iff.mpr i3)] at q
    have:=i4 q
    have p:0 < n / b:=Nat.div_pos h (by omega)
    omega
theorem JV {b:Nat} (h2:2<=b) : ∀ (k n:Nat),n < b ^ (k+1)->(xh b n).length<=k+1
 | 0,n,h=>by rw [Nat.pow_one] at h;rw [jL h];simp
 | k+1,n,h=>by
  rcases lt_or_ge n b with h' | h'
  ·rw [jL h'];simp
  ·rw [y8 h2 h',length_append]
   have:=JV h2 k (n / b) (Nat.div_lt_of_lt_mul (by rw [Nat.pow_succ,Nat.mul_comm] at h;exact h))
   simp;omega
theorem Qv {b:Nat} (h2:2<=b) (h:n < 1766847064778384329583297500742918515827483896875618958121606201292619776):(xh b n).length<=240:=by
 refine JV h2 239 n (lt_of_lt_of_le h ?_)
 have e:(1766847064778384329583297500742918515827483896875618958121606201292619776:Nat)=2 ^ 240:=by decide +kernel
 rw [e];exact Nat.pow_le_pow_left h2 240
variable {m:Nat}
theorem Kx {b:Nat} (h2:2<=b) (l:List Nat):xh b m++l=if m / b=0 then fc (m % b)::l else xh b (m / b)++fc (m % b)::l:=by
 rcases lt_or_ge m b with h' | h'
 ·rw [if_pos (Nat.div_eq_of_lt h'),jL h',mod_eq_of_lt h'];rfl
 ·have p:0 < m / b:=Nat.div_pos h' (by omega)
  rw [if_neg (by omega),y8 h2 h',append_assoc];rfl
theorem zCd (hz:xs.length<=sizeLine) (h : ∀ p,H p=none->Q (.ref p) (upd H p (.lst xs))):zFy Q xs H:=⟨hz,h⟩
theorem qK (g:zY H H') (n:H l=none):zY H (upd H' l o):=fun b u q=>by rw [qB (z7 q n)];exact g b u q
variable {σ:St}
theorem zEf {T:String} {r:V->List V->Hp->VK->Prop} {to:TE} (h:to σ H fun x H1=>tyV K T x H1/\r x [] H1 Q):zHe K T r to σ H Q:=h
theorem Wu (h:H l=some (.lst xs)) (q:Q .non (upd H l (.lst xs.reverse))):Yc (.ref l) [] H Q:=⟨l,xs,rfl,rfl,h,q⟩
def jn (m:List Nat):List (List Nat)->List Nat
 | []=>[]
 | x::xs=>x++(xs.map (m ++ ·)).flatten
theorem Jm (m:Str) : ∀ (xs:List (List Nat)) (a:Array Nat),((xs.map T).foldl (fun acc p=>acc++m.cps++p.cps) a).toList=a.toList++(xs.map (Lt m ++ ·)).flatten
 | [],a=>by simp
 | x::xs,a=>by
  rw [map_cons,foldl_cons,Jm m xs,map_cons,List.flatten_cons]
  simp [T]
theorem zBf (m:Str) (xs:List (List Nat)):Txt.join m (xs.map T)=T (jn (Lt m) xs):=by
 refine XE ?_
 rw [QG]
 unfold Txt.join Builtin.Str.glued
 cases xs with
 | nil=>rfl
 | cons x xs =>
  show (List.foldl (fun acc p=>acc++m.cps++p.cps) (T x).cps (xs.map T)).toList=_
  rw [Jm];rfl
theorem zDP (m:List Nat) {xs:List (List Nat)} (h:xs≠[]) (y:List Nat):jn m (xs++[y])=jn m xs++(m++y):=by
 cases xs with
 | nil=>exact absurd rfl h
 | cons x xs=>unfold jn;simp
theorem zBl (xs:List (List Nat)):jn [] xs=xs.flatten:=by
 cases xs with
 | nil=>rfl
 | cons x xs=>unfold jn;simp
theorem zE6 {m:Str} {xs:List (List Nat)} (h:xs.flatten.length+xs.length*(Lt m).length<=16777216):JoinOk m (xs.map T)=true:=by
 have e : ∀ (xs:List (List Nat)) (n:Nat),(xs.map T).foldl (fun x1 x2=>x1+x2.length+m.length) n=n+xs.flatten.length+xs.length*(Lt m).length:=by
  intro xs
  induction xs with
  | nil=>intro n;simp
  | cons x xs ih =>
   intro n
   rw [map_cons,foldl_cons,ih,List.flatten_cons,length_append,length_cons,Nat.add_mul]
   have e1:(T x).length=x.length:=rfl
   have e2:m.length=(Lt m).length:=rfl
   rw [e1,e2];omega
 unfold JoinOk Builtin.Str.tooLong
 rw [List.foldl_toArray,e,decide_eq_false (by show ¬ 0+xs.flatten.length+xs.length*(Lt m).length > 16777216;omega)]
 rfl
def zBX (K:W.Frag):V->List V->Hp->VK->Prop:=fun x vs H Q=>∃ (m:Str) (p:Addr) (xs:List (List Nat)),x = .str m/\vs=[.ref p]/\H p=some (.lst (xs.map fun l=>V.str (T l)))/\xs.flatten.length+xs.length*(Lt m).length<=16777216/\Q (.str (T (jn (Lt m) xs))) H
theorem XX : ∀ {xs:List (List Nat)} {us:List Value},z9 (xs.map fun l=>V.str (T l)) us -> ∃ ts:List (Str × Tok),us=strValues ts/\ts.map (fun x=>x.1)=xs.map T
 | [],_,.nil=>⟨[],rfl,rfl⟩
 | x::xs,_,.cons r t=>by
  obtain ⟨ts,rfl,e⟩:=XX t
  obtain ⟨u,rfl⟩:=r
  exact ⟨(T x,u)::ts,rfl,by rw [map_cons,map_cons,e]⟩
theorem JK:MtR X "str.join" (zBX X.K):=by
 intro pins s σ H x vs v us Q I rx rv h
 obtain ⟨m,p,xs,rfl,rfl,hH,hz,q⟩:=h
 obtain ⟨t,rfl⟩:=rx
 obtain ⟨u,rfl,ru⟩:=rv.one
 cases ru
 obtain ⟨its,r,pl,_⟩:=I.list (SqL.of hH)
 obtain ⟨ts,rfl,e⟩:=XX r
 exact SC.join pl.isList e (zE6 hz) fun t' k=>⟨.str _,H,I.tok _,⟨t',rfl⟩,by rw [zBf];exact q⟩
theorem X6 {m:Str} {p:Addr} {xs:List (List Nat)} (h:H p=some (.lst (xs.map fun l=>V.str (T l)))) (hz:xs.flatten.length+xs.length*(Lt m).length<=16777216) (q:Q (.str (T (jn (Lt m) xs))) H):zBX K (.str m) [.ref p] H Q:=⟨m,p,xs,rfl,rfl,h,hz,q⟩
def pcs (a:List Nat) (z g e:Nat):List (List Nat):=if h:e=0\/z=0 then [] else pcs a z g (e - z - g)++[(a.take e).drop (e - z)]
termination_by e
decreasing_by omega
theorem j0 (a:List Nat) (z g:Nat):pcs a z g 0=[]:=by rw [pcs];simp
variable {z:Nat}
theorem Zv {a:List Nat} {g e:Nat} (hz:0 < z) (h:0 < e):pcs a z g e=pcs a z g (e - z - g)++[(a.take e).drop (e - z)]:=by
 rw [pcs];rw [dif_neg (by omega)]
theorem Yt {a:List Nat} {z g:Nat} (hz:0 < z) : ∀ (m e:Nat),e<=m->(pcs a z g e).flatten.length<=e/\(pcs a z g e).length<=e
 | 0,e,h=>by rw [show e=0 by omega,j0];simp
 | m+1,e,h=>by
  rcases eq_zero_or_pos e with p | p
  ·rw [p,j0];simp
  ·obtain ⟨i1,i2⟩:=Yt (a:=a) (g:=g) hz m (e - z - g) (by omega)
   rw [Zv hz p]
   simp only [List.flatten_append,length_append,List.flatten_cons,List.flatten_nil,List.append_nil,length_drop,length_take,length_cons,List.length_nil]
   have mn:=Nat.min_le_left e a.length
   have d1:e - z - g<=e - z:=Nat.sub_le _ _
   have d2:e - z+z=e\/e - z=0:=by omega
   generalize min e a.length=M at *
   generalize (pcs a z g (e - z - g)).flatten.length=X at *
   generalize (pcs a z g (e - z - g)).length=Y at *
   generalize e - z - g=D at *
   generalize e - z=F at *
   clear h
   exact ⟨by omega,by omega⟩
def RJ (z m:Nat) (b:List Nat):List Nat:=if h:b.length<=z\/z=0 then b else b.take z++m::RJ z m (b.drop z)
termination_by b.length
decreasing_by rw [length_drop];omega
theorem xR {b:List Nat} (h:b.length<=z):RJ z m b=b:=by rw [RJ];simp [h]
theorem Zx {b:List Nat}:RJ 0 m b=b:=by rw [RJ];simp
theorem QI {b:List Nat} (hz:0 < z) (h:z < b.length):RJ z m b=b.take z++m::RJ z m (b.drop z):=by
 rw [RJ];rw [dif_neg (by omega)]
theorem zB5 {z m:Nat} : ∀ (k:Nat) (b:List Nat),b.length<=k->b.length<=(RJ z m b).length/\(RJ z m b).length<=2*b.length
 | 0,b,h=>by rw [xR (by omega)];omega
 | k+1,b,h=>by
  rcases eq_zero_or_pos z with p | p
  ·subst p;rw [Zx];omega
  ·rcases lt_or_ge z b.length with q | q
   ·have ih:=zB5 (z:=z) (m:=m) k (b.drop z) (by rw [length_drop];omega)
    rw [length_drop] at ih
    rw [QI p q,length_append,length_take,length_cons]
    omega
   ·rw [xR q];omega
theorem WT {z m x:Nat} (hz:0 < z) : ∀ (k:Nat) (c:List Nat),c.length<=k->RJ z m (c++[x])=RJ z m c++((if 0 < c.length/\c.length % z=0 then [m] else [])++[x])
 | 0,c,h=>by
  have e:c=[]:=eq_nil_of_length_eq_zero (by omega)
  subst e
  rw [xR (by simp;omega),xR (by simp)];simp
 | k+1,c,h=>by
  rcases Nat.lt_trichotomy c.length z with p | p | p
  ·rw [xR (by simp;omega),xR (by omega),if_neg (by
    intro q;rw [mod_eq_of_lt p] at q;omega)];simp
  ·rw [QI hz (by simp;omega),xR (b:=c) (by omega),if_pos ⟨by omega,by rw [p];exact Nat.mod_self z⟩]
   rw [take_append_of_le_length (by omega),take_of_length_le (by omega),List.drop_append_of_le_length (by omega),drop_of_length_le (by omega),xR (by simp;omega)]
   simp
  ·rw [QI hz (by simp;omega),QI (b:=c) hz p]
   rw [take_append_of_le_length (by omega),List.drop_append_of_le_length (by omega),WT hz k (c.drop z) (by rw [length_drop];omega),length_drop]
   have e:(c.length - z) % z=c.length % z:=(Nat.mod_eq_sub_mod (by omega)).symm
   rw [e,append_assoc,List.cons_append]
   have e2:(0 < c.length - z/\c.length % z=0)=(0 < c.length/\c.length % z=0):=propext ⟨fun q=>⟨by omega,q.2⟩,fun q=>⟨by omega,q.2⟩⟩
   simp only [e2]
theorem zBt {a:List Nat} {z m:Nat} (hz:0 < z) : ∀ (k e:Nat),e<=k->e<=a.length->(jn [m] (pcs a z 0 e)).reverse=RJ z m (a.take e).reverse
 | 0,e,h,_=>by rw [show e=0 by omega,j0,xR (by simp)];simp [jn]
 | k+1,e,h,ha=>by
  rcases eq_zero_or_pos e with p | p
  ·rw [p,j0,xR (by simp)];simp [jn]
  ·rw [Zv hz p,Nat.sub_zero]
   have le:(a.take e).length=e:=by rw [length_take];omega
   rcases lt_or_ge z e with q | q
   ·have ih:=zBt (a:=a) (m:=m) hz k (e - z) (by omega) (by omega)
    have ne:pcs a z 0 (e - z)≠[]:=by rw [Zv hz (by omega)];simp
    rw [zDP _ ne,List.reverse_append,List.reverse_append,ih,QI (b:=(a.take e).reverse) hz (by rw [length_reverse];omega),List.take_reverse,List.drop_reverse,le]
    rw [List.take_take,Nat.min_eq_left (show e - z<=e by omega)]
    simp
   ·rw [show e - z=0 by omega,j0,xR (by rw [length_reverse];omega)]
    simp [jn]
def gr (z m:Nat) (a:List Nat):List Nat:=(RJ z m a.reverse).reverse
theorem zGo {a:List Nat} (hz:0 < z):jn [m] (pcs a z 0 a.length)=gr z m a:=by
 have:=zBt (m:=m) hz a.length a.length (Nat.le_refl _) (Nat.le_refl _)
 rw [take_length] at this
 unfold gr
 rw [<- this,reverse_reverse]
theorem Y2 {a:List Nat}:a.length<=(gr z m a).length/\(gr z m a).length<=2*a.length:=by
 have:=zB5 (z:=z) (m:=m) a.reverse.length a.reverse (Nat.le_refl _)
 unfold gr;rw [length_reverse] at this ⊢;exact this
def UJ (z:Nat) (c:List Nat):List Nat:=if h:c.length=0\/z=0 then [] else c.take z++UJ z (c.drop (z+1))
termination_by c.length
decreasing_by rw [length_drop];omega
theorem xS:UJ z []=[]:=by rw [UJ];simp
theorem ym {c:List Nat} (hz:0 < z) (h:0 < c.length):UJ z c=c.take z++UJ z (c.drop (z+1)):=by rw [UJ];rw [dif_neg (by omega)]
theorem zDy {z m:Nat} (hz:0 < z) : ∀ (k:Nat) (b:List Nat),b.length<=k->UJ z (RJ z m b)=b
 | 0,b,h=>by rw [eq_nil_of_length_eq_zero (show b.length=0 by omega),xR (by simp),xS]
 | k+1,b,h=>by
  rcases eq_zero_or_pos b.length with p | p
  ·rw [eq_nil_of_length_eq_zero p,xR (by simp),xS]
  ·rcases lt_or_ge z b.length with q | q
   ·rw [QI hz q,ym hz (by rw [length_append,length_cons];omega)]
    have l1:(b.take z).length=z:=by rw [length_take];omega
    rw [take_append_of_le_length (by omega),take_of_length_le (by omega),List.drop_append,l1,drop_of_length_le (by omega)]
    rw [show z+1 - z=1 by omega]
    show b.take z++UJ z (RJ z m (b.drop z))=b
    rw [zDy hz k (b.drop z) (by rw [length_drop];omega),List.take_append_drop]
   ·rw [xR q,ym hz p,take_of_length_le q,drop_of_length_le (by omega),xS,List.append_nil]
theorem zBW {a:List Nat} {z:Nat} (hz:0 < z) : ∀ (k e:Nat),e<=k->e<=a.length->(pcs a z 1 e).flatten.reverse=UJ z (a.take e).reverse
 | 0,e,h,_=>by rw [show e=0 by omega,j0];simp [xS]
 | k+1,e,h,ha=>by
  rcases eq_zero_or_pos e with p | p
  ·rw [p,j0];simp [xS]
  ·have le:(a.take e).length=e:=by rw [length_take];omega
   have ih:=zBW (a:=a) hz k (e - z - 1) (by omega) (by omega)
   rw [Zv hz p,List.flatten_append,List.reverse_append,ih,ym (c:=(a.take e).reverse) hz (by rw [length_reverse];omega),List.take_reverse,List.drop_reverse,le,List.take_take,Nat.min_eq_left (show e - (z+1)<=e by omega)]
   simp
   rw [show e - (z+1)=e - z - 1 by omega]
def ug (z:Nat) (a:List Nat):List Nat:=if z=0 then a else (UJ z a.reverse).reverse
theorem zEw {a:List Nat} (hz:0 < z):(pcs a z 1 a.length).flatten=ug z a:=by
 have:=zBW hz a.length a.length (Nat.le_refl _) (Nat.le_refl _)
 rw [take_length] at this
 unfold ug
 rw [if_neg (by omega),<- this,reverse_reverse]
theorem zAK (z m:Nat) (a:List Nat):ug z (gr z m a)=a:=by
 unfold ug gr
 split
 ·rename_i h;subst h;rw [Zx,reverse_reverse]
 ·rename_i h
  rw [reverse_reverse,zDy (by omega) a.reverse.length a.reverse (Nat.le_refl _),reverse_reverse]
theorem k9 {a:List Nat}:gr 0 m a=a:=by unfold gr;rw [Zx,reverse_reverse]
theorem Xr {a:List Nat} (hk:k < a.length):gr z m (a.drop (a.length - (k+1)))=a.getD (a.length - 1 - k) 0::((if 0 < z/\0 < k/\k % z=0 then [m] else [])++gr z m (a.drop (a.length - k))):=by
 have e:a.drop (a.length - (k+1))=a.getD (a.length - 1 - k) 0::a.drop (a.length - k):=by
  rw [List.drop_eq_getElem_cons (by omega),getD_eq_getElem?_getD,getElem?_eq_getElem (by omega)]
  congr 2 <;> omega
 have lk:(a.drop (a.length - k)).length=k:=by rw [length_drop];omega
 rcases eq_zero_or_pos z with p | p
 ·subst p;rw [k9,k9,e,if_neg (by omega)];rfl
 ·rw [e]
  unfold gr
  rw [List.reverse_cons,WT p _ _ (Nat.le_refl _),length_reverse,lk]
  by_cases q:0 < k/\k % z=0
  ·rw [if_pos q,if_pos ⟨p,q⟩];simp
  ·rw [if_neg q,if_neg (fun h=>q h.2)];simp
variable {ts:List (List Nat)}
theorem zFf {p:Addr} (h:SqL K H p (ts.map fun l=>V.str (T l))) (h0:0<=i) (h1:i < ts.length) (q:Q (.str (T (ts.getD i.toNat []))) H):zBi K (.ref p) (.int i) H Q:=by
 refine wA h h0 (by rw [length_map];exact h1) fun x hx=>?_
 have h2:i.toNat < ts.length:=by omega
 rw [getElem?_map,getElem?_eq_getElem h2] at hx
 cases hx
 rw [getD_eq_getElem?_getD,getElem?_eq_getElem h2] at q
 exact q
section
variable {X : Cx} {H : Hp} {Q : VK} {K : W.Frag}
def zGa:R2:=fun x y H Q=>y = .non/\Q (.bl (decide (x = .non))) H
theorem zCr:OpR X (compareOp .Is) zGa:=zFh
theorem zD0 (q:Q (.bl true) H):zGa .non .non H Q:=⟨rfl,by rw [decide_eq_true rfl];exact q⟩
theorem zEB (q:Q (.bl false) H):zGa (.str x) .non H Q:=⟨rfl,by rw [decide_eq_false (fun z=>nomatch z)];exact q⟩
inductive NT (H:Hp):V->Prop where
 | int (i:Int):NT H (.int i)
 | non:NT H .non
 | bl (b:Bool):NT H (.bl b)
 | lst {p:Addr} {xs:List V} (e:H p=some (.lst xs)):NT H (.ref p)
 | tup {p:Addr} {xs:List V} (e:H p=some (.tup xs)):NT H (.ref p)
 | dct {p:Addr} (e:H p=some (zF9 p)):NT H (.ref p)
theorem NT.same {v:V} (h:NT H v) (g:zY H H'):NT H' v:=by
 cases h with
 | int i=>exact .int i
 | non=>exact .non
 | bl b=>exact .bl b
 | lst e=>exact .lst (g _ _ e)
 | tup e=>exact .tup (g _ _ e)
 | dct e=>exact .dct (g _ _ e)
def Asc (l:List Nat):Prop:=∀ c ∈ l,c < 127
theorem Asc.nil:Asc []:=fun _ h=>nomatch h
theorem Asc.app {l m:List Nat} (h:Asc l) (h':Asc m):Asc (l++m):=fun c hc=>(List.mem_append.mp hc).elim (h c) (h' c)
theorem Asc.one {c:Nat} (h:c < 127):Asc [c]:=fun d hd=>by rw [List.mem_singleton.mp hd];exact h
theorem Asc.take {l:List Nat} (h:Asc l) (n:Nat):Asc (l.take n):=fun c hc=>h c (List.mem_of_mem_take hc)
theorem Asc.drop {l:List Nat} (h:Asc l) (n:Nat):Asc (l.drop n):=fun c hc=>h c (List.mem_of_mem_drop hc)
theorem Asc.rep {l:List Nat} (h:Asc l) (n:Nat):Asc (List.replicate n l).flatten:=fun c hc=>by
 obtain ⟨m,hm,hc⟩:=List.mem_flatten.mp hc
 rw [List.eq_of_mem_replicate hm] at hc
 exact h c hc
theorem jy.asc {b:Int} {l:List Nat} (h:jy b l):Asc l:=fun c hc=>(h c hc).1
theorem jy.snoc {b:Int} {l:List Nat} {i c:Nat} (h:jy b (l.take i)) (hi:l[i]? = some c) (h1:c < 127) (h2:0<=fv c) (h3:fv c < b):jy b (l.take (i+1)):=by
 rw [List.take_succ,hi]
 refine h.app fun d hd=>?_
 rw [List.mem_singleton.mp hd];exact ⟨h1,h2,h3⟩
end
theorem qS {l:List Nat} {j:Nat} (e:x=T l):PE X (.Constant (.str x) j pos) (tC (.str (T l))):=by
 rw [<- e];exact zb
theorem Ki {z x:Nat} (hz:0 < z) : ∀ (k:Nat) (c:List Nat),c.length<=k->UJ z (c++[x])=UJ z c++(if c.length % (z+1)=z then [] else [x])
 | 0,c,h=>by
  have e:c=[]:=eq_nil_of_length_eq_zero (by omega)
  subst e
  rw [ym hz (by simp),xS,if_neg (by simp;omega),List.nil_append,take_of_length_le (by simp;omega),drop_of_length_le (by simp),xS];simp
 | k+1,c,h=>by
  rcases eq_zero_or_pos c.length with p0 | p0
  ·have e:c=[]:=eq_nil_of_length_eq_zero p0
   subst e
   rw [ym hz (by simp),xS,if_neg (by simp;omega),List.nil_append,take_of_length_le (by simp;omega),drop_of_length_le (by simp),xS];simp
  rw [ym hz (by simp),ym hz p0]
  rcases Nat.lt_trichotomy c.length z with p | p | p
  ·rw [take_of_length_le (by simp;omega),take_of_length_le (by omega),drop_of_length_le (by simp;omega),drop_of_length_le (by omega),xS,if_neg (by rw [mod_eq_of_lt (by omega)];omega)];simp
  ·rw [take_append_of_le_length (by omega),drop_of_length_le (by simp;omega),drop_of_length_le (by omega),xS,if_pos (by rw [mod_eq_of_lt (by omega)];exact p)];simp
  ·rw [take_append_of_le_length (by omega),List.drop_append_of_le_length (by omega),Ki hz k (c.drop (z+1)) (by rw [length_drop];omega),length_drop,<- Nat.mod_eq_sub_mod (by omega),append_assoc]
theorem ZR {z m:Nat} (hz:0 < z) : ∀ (k:Nat) (b:List Nat),b.length<=k->1<=b.length->(RJ z m b).length=b.length+(b.length - 1) / z
 | 0,b,h,h1=>by omega
 | k+1,b,h,h1=>by
  rcases lt_or_ge z b.length with q | q
  ·have ih:=ZR (m:=m) hz k (b.drop z) (by rw [length_drop];omega) (by rw [length_drop];omega)
   rw [length_drop] at ih
   rw [QI hz q,length_append,length_take,length_cons,ih]
   have e:(b.length - 1) / z=(b.length - z - 1) / z+1:=by
    rw [Nat.div_eq_sub_div hz (by omega),show b.length - 1 - z=b.length - z - 1 by omega]
   omega
  ·rw [xR q,Nat.div_eq_of_lt (by omega)];omega
theorem Qm {c:List Nat} (hz:0 < z) (h:0 < c.length):0 < (UJ z c).length:=by
 rw [ym hz h,length_append,length_take];omega
theorem zEC {z m:Nat} (hz:0 < z) : ∀ (k:Nat) (c:List Nat),c.length<=k->c.length % (z+1)≠0->(∀ j,j < c.length->j % (z+1)=z->c.getD j 0=m)->RJ z m (UJ z c)=c
 | 0,c,h,h0,_=>by rw [show c.length=0 by omega] at h0;simp at h0
 | k+1,c,h,h0,hm=>by
  have p0:0 < c.length:=by
   rcases eq_zero_or_pos c.length with p | p
   ·rw [p] at h0;simp at h0
   ·exact p
  rcases Nat.lt_trichotomy c.length (z+1) with q | q | q
  ·rw [ym hz p0,take_of_length_le (by omega),drop_of_length_le (by omega),xS,List.append_nil,xR (by omega)]
  ·rw [q,Nat.mod_self] at h0;exact absurd rfl h0
  ·have l1:(c.take z).length=z:=by rw [length_take];omega
   have l2:(c.drop (z+1)).length=c.length - (z+1):=length_drop ..
   have ih:=zEC (m:=m) hz k (c.drop (z+1)) (by omega) (by rw [l2,<- Nat.mod_eq_sub_mod (by omega)];exact h0) (fun j hj he=>by
    have z1:=hm (z+1+j) (by omega) (by rw [Nat.add_mod_left];exact he)
    rw [getD_eq_getElem?_getD] at z1 ⊢
    rw [List.getElem?_drop];exact z1)
   have up:=Qm (c:=c.drop (z+1)) hz (by omega)
   rw [ym hz p0,QI hz (by rw [length_append,l1];omega),take_append_of_le_length (by omega),take_of_length_le (by omega),List.drop_append_of_le_length (by omega),drop_of_length_le (by omega),List.nil_append,ih]
   have cz:=hm z (by omega) (mod_eq_of_lt (by omega))
   rw [getD_eq_getElem?_getD,getElem?_eq_getElem (by omega)] at cz
   have cz':c[z]=m:=cz
   rw [<- cz',<- List.drop_eq_getElem_cons,List.take_append_drop]
def GG (z m:Nat) (t:List Nat):Prop:=1<=(ug z t).length/\(ug z t).length<=40/\gr z m (ug z t)=t
theorem GG.len {t:List Nat} (h:GG z m t):(ug z t).length+(if 0 < z then ((ug z t).length - 1) / z else 0)=t.length:=by
 have e:=congrArg List.length h.2.2
 rcases eq_zero_or_pos z with p | p
 ·subst p;rw [k9] at e;simp;exact e
 ·unfold gr at e
  rw [length_reverse,ZR p _ _ (Nat.le_refl _) (by rw [length_reverse];exact h.1),length_reverse] at e
  rw [if_pos p];exact e
theorem Qx {l:List Nat} {j:Nat} (h:j < l.length):l.reverse.getD j 0=l.getD (l.length - 1 - j) 0:=by
 rw [getD_eq_getElem?_getD,getD_eq_getElem?_getD,List.getElem?_reverse h]
theorem zAF {a b:Nat} (h1:1<=a) (h2:1<=b) (h:a+(a - 1) / z=b+(b - 1) / z):a=b:=by
 rcases Nat.lt_trichotomy a b with p | p | p
 ·have:=Nat.div_le_div_right (c:=z) (show a - 1<=b - 1 by omega);omega
 ·exact p
 ·have:=Nat.div_le_div_right (c:=z) (show b - 1<=a - 1 by omega);omega
theorem GG.of {many:Nat} {t:List Nat} (h1:1<=many) (h2:many<=40) (hl:many+(if 0 < z then (many - 1) / z else 0)=t.length) (hm:0 < z -> ∀ k,k < t.length->(t.length - 1 - k) % (z+1)=z->t.getD k 0=m):GG z m t:=by
 rcases eq_zero_or_pos z with p | p
 ·subst p
  have e:ug 0 t=t:=rfl
  unfold GG;rw [e,k9];simp at hl;exact ⟨by omega,by omega,rfl⟩
 ·rw [if_pos p] at hl
  have hn:t.length % (z+1)≠0:=by
   have d:=Nat.div_add_mod (many - 1) z
   have r:=Nat.mod_lt (many - 1) p
   generalize (many - 1) / z=q at *
   generalize (many - 1) % z=r' at *
   have e:t.length=r'+1+(z+1)*q:=by rw [Nat.add_mul,Nat.one_mul];omega
   rw [e,Nat.add_mul_mod_self_left,mod_eq_of_lt (by omega)];omega
  have rj:=zEC (m:=m) p _ t.reverse (Nat.le_refl _) (by rw [length_reverse];exact hn) (fun j hj he=>by
   rw [length_reverse] at hj
   rw [Qx hj]
   exact hm p _ (by omega) (by rw [show t.length - 1 - (t.length - 1 - j)=j by omega];exact he))
  have e:ug z t=(UJ z t.reverse).reverse:=by unfold ug;rw [if_neg (by omega)]
  have tp:0 < t.length:=lt_of_lt_of_le (show 0 < many by omega) (by rw [<- hl];exact Nat.le_add_right _ _)
  have up:=Qm (c:=t.reverse) p (by rw [length_reverse];exact tp)
  have ln:=ZR (m:=m) p _ (UJ z t.reverse) (Nat.le_refl _) up
  rw [rj,length_reverse] at ln
  have em:=zAF (z:=z) (a:=(UJ z t.reverse).length) (b:=many) up h1 (by omega)
  refine ⟨by rw [e,length_reverse];omega,by rw [e,length_reverse];omega,?_⟩
  rw [e];unfold gr;rw [reverse_reverse,rj,reverse_reverse]
theorem zFH {t:List Nat}:(ug z t).length<=t.length:=by
 rcases eq_zero_or_pos z with p | p
 ·subst p;exact Nat.le_refl _
 ·rw [<- zEw p];exact (Yt p _ _ (Nat.le_refl _)).1
section
variable {σ : St} {H : Hp} {Q : VK} {D : kD} {K : W.Frag}
def zBm (g:TG) (tb:TS) (D:kD) (σ:St) (vs:List V) (H:Hp):Prop:=∃ i j:Int,vs=[.int i,.int j]/\(-(2 ^ 62)<=i/\i < 2 ^ 62 /\ -(2 ^ 62)<=j/\j < 2 ^ 62) /\ ∃ W:Nat->Nat->St->Hp->Prop,(∃ m,W 0 m σ H) /\ ∀ k m σ H,W k m σ H ->
 ((Itr i (j - i).toNat).stop k H/\D.nx σ H)\/((Itr i (j - i).toNat).go k H /\ ∃ N:St->Hp->Prop,(∀ σ' H',N σ' H' -> ∃ m',m' < m/\W (k+1) m' σ' H') /\ ∀ x H',(Itr i (j - i).toNat).yld k H x H'->g x σ H' fun σ2 H2=>tb { D with nx:=N,ct:=N,bk:=D.nx } σ2 H2)
theorem zDh {ta:TA} {g:TG} {tb:TS} (h:ta σ H (zBm g tb D σ)):zDp (zCM ta) g tb D σ H:=h
theorem Ys {g:TG} {tb:TS} (hb : -(2 ^ 62)<=i/\i < 2 ^ 62 /\ -(2 ^ 62)<=j/\j < 2 ^ 62) (Pv:Nat->St->Hp->Prop) (h0:Pv 0 σ H)
  (hs : ∀ k σ H,k < (j - i).toNat->Pv k σ H->g (.int (i+k)) σ H fun σ2 H2=>tb { D with nx:=Pv (k+1),ct:=Pv (k+1),bk:=D.nx } σ2 H2) (hd : ∀ σ H,Pv (j - i).toNat σ H->D.nx σ H):zBm g tb D σ [.int i,.int j] H:=⟨i,j,rfl,hb,Jk Pv h0 hs hd⟩
end
def KD (w:World) (K:W.Frag) (d:Addr) (z:Str) (v:Addr):Prop:=∃ (es:Array DictEntry) (n:Nat),K.lookup d=some { cls:=.type "dict", data:=.dict es n }/\(∀ e,e ∈ es -> ∃ k,Value.isStrOf k e.key=true/\e.hash=hashStr w k)/\findBy Value.isStrOf es z=some (.ref v)
def zHI (w:World) (K:W.Frag):R2:=fun x y H Q=>∃ d z v,x = .ref d/\y = .str z/\KD w K d z v/\Q (.ref v) H
section
variable {X : Cx} {H : Hp} {Q : VK} {K : W.Frag} {w : World}
theorem zEL:IxR X (zHI X.w X.K):=by
 intro value slice pins s σ H x y v u Q I rx ry h hs
 obtain ⟨d,z,p,rfl,rfl,⟨es,n,lk,ks,f⟩,q⟩:=h
 cases rx
 obtain ⟨t,rfl⟩:=ry
 have ho:=I.kIn d _ lk
 have fin : ∀ k,EP X pins σ Q (.ref p) { s with toks:=k }:=fun k=>⟨.ref p,H,I.tok _,rfl,q⟩
 exact subscriptTail_builtinR (x:=.ref p) ⟨_,ho,rfl⟩ slot_dict_getitem.lookup
  (wpAny_getItem_of (knd:=PySem.strKind X.prog X.w) (k:=z) (f:=fun k=>findBy Value.isStrOf es k) (Q:=fun r s'=>r = .ref p/\EP X pins σ Q r s') (by simp [PySem.strKind,Value.isStrOf]) ⟨_,es,n,ho,⟨rfl,rfl,rfl⟩,rfl,ks,fun k=>rfl⟩ f ⟨rfl,fin _⟩) hs
theorem zEv {d v:Addr} {z:Str} (h:KD w K d z v) (q:Q (.ref v) H):zHI w K (.ref d) (.str z) H Q:=⟨d,z,v,rfl,rfl,h,q⟩
theorem zDX {p:Addr} {v:V} (h:SqT K H p xs) (e:atI xs i=some v) (q:Q v H):zBK K (.ref p) (.int i) H Q:=⟨p,xs,i,v,rfl,rfl,h,e,q⟩
theorem SqT.same {p:Addr} (h:SqT K H p xs) (e:zY H H'):SqT K H' p xs:=by
 rcases h with h | h
 ·rcases h with h | ⟨o,h⟩
  ·exact .inl (.inl (e _ _ h))
  ·exact .inl (.inr ⟨o,e _ _ h⟩)
 ·exact .inr h
theorem SqT.mod {p:Addr} {its:List Value} (lk:K.lookup p=some { cls:=.type "tuple", data:=.seq its.toArray n }) (hz:its.length<=1000) (r:z9 xs its):SqT K H p xs:=.inr ⟨_,its.toArray,n,lk,rfl,rfl,qY (by simpa using hz),by simpa using r⟩
end
def stL (x:Str) (b:Bool):List Nat:=if x = "minus" then (if b then [45] else []) else if x = "plus" then (if b then [45] else [43]) else if x = "blank" then (if b then [45] else [32]) else if x = "brackets" then (if b then [40] else []) else []
def stT (x:Str) (b:Bool):List Nat:=if x = "minus" then [] else if x = "plus" then [] else if x = "blank" then [] else if x = "brackets" then (if b then [41] else []) else (if b then [45] else [])
def yd (x:Str):Prop:=x = "minus" \/ x = "plus" \/ x = "blank" \/ x = "brackets" \/ x = "behind"
theorem qi (b:Bool):stL "minus" b=(if b then [45] else [])/\stT "minus" b=[]:=by unfold stL stT;cases b <;> decide +kernel
theorem jY (b:Bool):stL "plus" b=(if b then [45] else [43])/\stT "plus" b=[]:=by unfold stL stT;cases b <;> decide +kernel
theorem qh (b:Bool):stL "blank" b=(if b then [45] else [32])/\stT "blank" b=[]:=by unfold stL stT;cases b <;> decide +kernel
theorem zy (b:Bool):stL "brackets" b=(if b then [40] else [])/\stT "brackets" b=(if b then [41] else []):=by unfold stL stT;cases b <;> decide +kernel
theorem qT (b:Bool):stL "behind" b=[]/\stT "behind" b=(if b then [45] else []):=by unfold stL stT;cases b <;> decide +kernel
theorem Qj (h:yd x) (b:Bool):(stL x b).length<=1/\(stT x b).length<=1:=by
 rcases h with rfl | rfl | rfl | rfl | rfl
 ·rw [(qi b).1,(qi b).2];cases b <;> decide
 ·rw [(jY b).1,(jY b).2];cases b <;> decide
 ·rw [(qh b).1,(qh b).2];cases b <;> decide
 ·rw [(zy b).1,(zy b).2];cases b <;> decide
 ·rw [(qT b).1,(qT b).2];cases b <;> decide
def Sty (w:World) (K:W.Frag) (d:Addr):Prop:=∀ (x:Str),yd x -> ∃ p a b:Addr,KD w K d x p /\ ∀ H:Hp,SqT K H p [.ref a,.ref b]/\SqT K H a [.str (T (stL x false)),.str (T (stT x false))]/\SqT K H b [.str (T (stL x true)),.str (T (stT x true))]
theorem sty_mk {d:Addr} {n0:Nat} {t0:Tok} {p0 a0 b0:Addr} {n01 n02 n03:Nat} {u01 u02 u03 u04:Tok} {t1:Tok} {p1 a1 b1:Addr} {n11 n12 n13:Nat} {u11 u12 u13 u14:Tok} {t2:Tok} {p2 a2 b2:Addr} {n21 n22 n23:Nat} {u21 u22 u23 u24:Tok} {t3:Tok} {p3 a3 b3:Addr} {n31 n32 n33:Nat} {u31 u32 u33 u34:Tok} {t4:Tok} {p4 a4 b4:Addr} {n41 n42 n43:Nat} {u41 u42 u43 u44:Tok}
  (hd:K.lookup d=some { cls:=.type "dict", data:=.dict #[⟨PyData.keyHash w.params "minus", .str "minus" t0,.ref p0⟩,⟨PyData.keyHash w.params "plus", .str "plus" t1,.ref p1⟩,⟨PyData.keyHash w.params "blank", .str "blank" t2,.ref p2⟩,⟨PyData.keyHash w.params "brackets", .str "brackets" t3,.ref p3⟩,⟨PyData.keyHash w.params "behind", .str "behind" t4,.ref p4⟩] n0 })
  (hp0:K.lookup p0=some { cls:=.type "tuple", data:=.seq #[.ref a0,.ref b0] n01 })
  (ha0:K.lookup a0=some { cls:=.type "tuple", data:=.seq #[.str "" u01,.str "" u02] n02 })
  (hb0:K.lookup b0=some { cls:=.type "tuple", data:=.seq #[.str "-" u03,.str "" u04] n03 })
  (hp1:K.lookup p1=some { cls:=.type "tuple", data:=.seq #[.ref a1,.ref b1] n11 })
  (ha1:K.lookup a1=some { cls:=.type "tuple", data:=.seq #[.str "+" u11,.str "" u12] n12 })
  (hb1:K.lookup b1=some { cls:=.type "tuple", data:=.seq #[.str "-" u13,.str "" u14] n13 })
  (hp2:K.lookup p2=some { cls:=.type "tuple", data:=.seq #[.ref a2,.ref b2] n21 })
  (ha2:K.lookup a2=some { cls:=.type "tuple", data:=.seq #[.str " " u21,.str "" u22] n22 })
  (hb2:K.lookup b2=some { cls:=.type "tuple", data:=.seq #[.str "-" u23,.str "" u24] n23 })
  (hp3:K.lookup p3=some { cls:=.type "tuple", data:=.seq #[.ref a3,.ref b3] n31 })
  (ha3:K.lookup a3=some { cls:=.type "tuple", data:=.seq #[.str "" u31,.str "" u32] n32 })
  (hb3:K.lookup b3=some { cls:=.type "tuple", data:=.seq #[.str "(" u33,.str ")" u34] n33 })
  (hp4:K.lookup p4=some { cls:=.type "tuple", data:=.seq #[.ref a4,.ref b4] n41 })
  (ha4:K.lookup a4=some { cls:=.type "tuple", data:=.seq #[.str "" u41,.str "" u42] n42 })
  (hb4:K.lookup b4=some { cls:=.type "tuple", data:=.seq #[.str "" u43,.str "-" u44] n43 }):Sty w K d:=by
 have ks : ∀ e,e ∈ (#[⟨PyData.keyHash w.params "minus", .str "minus" t0,.ref p0⟩,⟨PyData.keyHash w.params "plus", .str "plus" t1,.ref p1⟩,⟨PyData.keyHash w.params "blank", .str "blank" t2,.ref p2⟩,⟨PyData.keyHash w.params "brackets", .str "brackets" t3,.ref p3⟩,⟨PyData.keyHash w.params "behind", .str "behind" t4,.ref p4⟩]:Array DictEntry) -> ∃ k,Value.isStrOf k e.key=true/\e.hash=hashStr w k:=by
  intro e he
  simp only [List.mem_toArray,mem_cons,List.not_mem_nil,or_false] at he
  rcases he with rfl | rfl | rfl | rfl | rfl
  ·exact ⟨"minus", by simp [Value.isStrOf],rfl⟩
  ·exact ⟨"plus", by simp [Value.isStrOf],rfl⟩
  ·exact ⟨"blank", by simp [Value.isStrOf],rfl⟩
  ·exact ⟨"brackets", by simp [Value.isStrOf],rfl⟩
  ·exact ⟨"behind", by simp [Value.isStrOf],rfl⟩
 intro x hx
 rcases hx with rfl | rfl | rfl | rfl | rfl
 ·refine ⟨p0,a0,b0,⟨_,_,hd,ks,?_⟩,fun H=>⟨.mod hp0 (by simp) (.cons rfl (.cons rfl .nil)),.mod ha0 (by simp) (.cons ⟨u01,?_⟩ (.cons ⟨u02,?_⟩ .nil)),.mod hb0 (by simp) (.cons ⟨u03,?_⟩ (.cons ⟨u04,?_⟩ .nil))⟩⟩
  ·unfold findBy
   simp only [find?_toArray,find?_cons]
   rfl
  ·exact congrArg (fun z=>Value.str z _) (by rw [(qi _).1];decide +kernel)
  ·exact congrArg (fun z=>Value.str z _) (by rw [(qi _).2];decide +kernel)
  ·exact congrArg (fun z=>Value.str z _) (by rw [(qi _).1];decide +kernel)
  ·exact congrArg (fun z=>Value.str z _) (by rw [(qi _).2];decide +kernel)
 ·refine ⟨p1,a1,b1,⟨_,_,hd,ks,?_⟩,fun H=>⟨.mod hp1 (by simp) (.cons rfl (.cons rfl .nil)),.mod ha1 (by simp) (.cons ⟨u11,?_⟩ (.cons ⟨u12,?_⟩ .nil)),.mod hb1 (by simp) (.cons ⟨u13,?_⟩ (.cons ⟨u14,?_⟩ .nil))⟩⟩
  ·unfold findBy
   simp only [find?_toArray,find?_cons]
   rfl
  ·exact congrArg (fun z=>Value.str z _) (by rw [(jY _).1];decide +kernel)
  ·exact congrArg (fun z=>Value.str z _) (by rw [(jY _).2];decide +kernel)
  ·exact congrArg (fun z=>Value.str z _) (by rw [(jY _).1];decide +kernel)
  ·exact congrArg (fun z=>Value.str z _) (by rw [(jY _).2];decide +kernel)
 ·refine ⟨p2,a2,b2,⟨_,_,hd,ks,?_⟩,fun H=>⟨.mod hp2 (by simp) (.cons rfl (.cons rfl .nil)),.mod ha2 (by simp) (.cons ⟨u21,?_⟩ (.cons ⟨u22,?_⟩ .nil)),.mod hb2 (by simp) (.cons ⟨u23,?_⟩ (.cons ⟨u24,?_⟩ .nil))⟩⟩
  ·unfold findBy
   simp only [find?_toArray,find?_cons]
   rfl
  ·exact congrArg (fun z=>Value.str z _) (by rw [(qh _).1];decide +kernel)
  ·exact congrArg (fun z=>Value.str z _) (by rw [(qh _).2];decide +kernel)
  ·exact congrArg (fun z=>Value.str z _) (by rw [(qh _).1];decide +kernel)
  ·exact congrArg (fun z=>Value.str z _) (by rw [(qh _).2];decide +kernel)
 ·refine ⟨p3,a3,b3,⟨_,_,hd,ks,?_⟩,fun H=>⟨.mod hp3 (by simp) (.cons rfl (.cons rfl .nil)),.mod ha3 (by simp) (.cons ⟨u31,?_⟩ (.cons ⟨u32,?_⟩ .nil)),.mod hb3 (by simp) (.cons ⟨u33,?_⟩ (.cons ⟨u34,?_⟩ .nil))⟩⟩
  ·unfold findBy
   simp only [find?_toArray,find?_cons]
   rfl
  ·exact congrArg (fun z=>Value.str z _) (by rw [(zy _).1];decide +kernel)
  ·exact congrArg (fun z=>Value.str z _) (by rw [(zy _).2];decide +kernel)
  ·exact congrArg (fun z=>Value.str z _) (by rw [(zy _).1];decide +kernel)
  ·exact congrArg (fun z=>Value.str z _) (by rw [(zy _).2];decide +kernel)
 ·refine ⟨p4,a4,b4,⟨_,_,hd,ks,?_⟩,fun H=>⟨.mod hp4 (by simp) (.cons rfl (.cons rfl .nil)),.mod ha4 (by simp) (.cons ⟨u41,?_⟩ (.cons ⟨u42,?_⟩ .nil)),.mod hb4 (by simp) (.cons ⟨u43,?_⟩ (.cons ⟨u44,?_⟩ .nil))⟩⟩
  ·unfold findBy
   simp only [find?_toArray,find?_cons]
   rfl
  ·exact congrArg (fun z=>Value.str z _) (by rw [(qT _).1];decide +kernel)
  ·exact congrArg (fun z=>Value.str z _) (by rw [(qT _).2];decide +kernel)
  ·exact congrArg (fun z=>Value.str z _) (by rw [(qT _).1];decide +kernel)
  ·exact congrArg (fun z=>Value.str z _) (by rw [(qT _).2];decide +kernel)
section
variable {X : Cx} {σ : St} {H : Hp} {Q : VK} {D : kD} {K : W.Frag}
def zEQ (K:PySem.W.Frag) (g:TG) (tb:TS) (D:kD) (σ:St) (x:V) (H:Hp):Prop:=∃ a,x = .ref a/\(∃ xs,SqT K H a xs) /\ ∃ W:Nat->Nat->St->Hp->Prop,(∃ m,W 0 m σ H) /\ ∀ i m σ H,W i m σ H ->
 ((Itt K a).stop i H/\D.nx σ H)\/((Itt K a).go i H /\ ∃ N:St->Hp->Prop,(∀ σ' H',N σ' H' -> ∃ m',m' < m/\W (i+1) m' σ' H') /\ ∀ x H',(Itt K a).yld i H x H'->g x σ H' fun σ2 H2=>tb { D with nx:=N,ct:=N,bk:=D.nx } σ2 H2)
theorem zDz {tl:TE} {g:TG} {tb:TS} (h:tl σ H (zEQ K g tb D σ)):zDp (zHY K tl) g tb D σ H:=h
theorem zCa {g:TG} {tb:TS} (hx:SqT K H a xs) (Pv:Nat->St->Hp->Prop) (h0:Pv 0 σ H) (hl : ∀ i σ H,i<=xs.length->Pv i σ H->SqT K H a xs)
  (hs : ∀ i x σ H,xs[i]? = some x->Pv i σ H->g x σ H fun σ2 H2=>tb { D with nx:=Pv (i+1),ct:=Pv (i+1),bk:=D.nx } σ2 H2) (hd : ∀ σ H,Pv xs.length σ H->D.nx σ H):zEQ K g tb D σ (.ref a) H:=⟨a,rfl,⟨xs,hx⟩,zC5 Pv h0 hl hs hd⟩
theorem zFT : ∀ c ∈ List.range 127,(!(Builtin.Str.occurrences "0123456789abcdef" (T [c]) 0 (Str.ofString "0123456789abcdef").length 1).isEmpty)=decide (0<=fv c):=by decide +kernel
theorem zGg {c:Nat} (h:c < 127) (q:Q (.bl (decide (0<=fv c))) H):zGG (.str (T [c])) (.str "0123456789abcdef") H Q:=zFE (by rw [zFT c (List.mem_range.mpr h)];exact q)
theorem zCg {lo hi:Option Int} (q:Q (.str (T [])) H):zAp (.str (T [])) lo hi H Q:=by
 refine zAj (by decide) ?_
 rw [Qy,QG];simpa using q
end
def bod (x:Str) (b:Bool) (t:List Nat):List Nat:=(t.take (t.length - (stT x b).length)).drop (stL x b).length
def Fg (l:List Nat):Prop:=l≠[]/\0<=fv (l.getD 0 0)/\0<=fv (l.getD (l.length - 1) 0)
def Sgd (x:Str) (b:Bool) (t:List Nat):Prop:=Fg (bod x b t)/\stL x b++bod x b t++stT x b=t
theorem zCD {t:List Nat}:(bod x b t).length=t.length - (stT x b).length - (stL x b).length:=by
 unfold bod;rw [length_drop,length_take,Nat.min_eq_left (Nat.sub_le _ _)]
theorem zCQ {t:List Nat} (h:Asc t):Asc (bod x b t):=(h.take _).drop _
theorem Yx {t:List Nat} {i:Nat} (h:Asc t) (hi:i < t.length):t.getD i 0 < 127:=by
 rw [getD_eq_getElem?_getD,getElem?_eq_getElem hi];exact h _ (getElem_mem hi)
theorem ZO {c:Nat} (h:0<=fv c) (e:c=d) (hd:fv d = -1):False:=by rw [e,hd] at h;omega
theorem Z0 (hx:yd x) {t:List Nat} (h0:Sgd x false t) (h1:Sgd x true t):False:=by
 have b0:=List.length_pos_iff.mpr h0.1.1
 have b1:=List.length_pos_iff.mpr h1.1.1
 have e0:=h0.2
 have e1:=h1.2
 have f0:=h0.1.2
 generalize hB:bod x false t=B at *
 generalize hC:bod x true t=C at *
 have e:=e0.trans e1.symm
 rcases hx with rfl | rfl | rfl | rfl | rfl
 ·rw [(qi _).1,(qi _).2,(qi _).1,(qi _).2] at e
  have z1:=congrArg (fun l=>l.getD 0 0) e
  exact ZO f0.1 (by simpa using z1) (by decide)
 ·rw [(jY _).1,(jY _).2,(jY _).1,(jY _).2] at e
  have z1:=congrArg (fun l=>l.getD 0 0) e
  simp at z1
 ·rw [(qh _).1,(qh _).2,(qh _).1,(qh _).2] at e
  have z1:=congrArg (fun l=>l.getD 0 0) e
  simp at z1
 ·rw [(zy _).1,(zy _).2,(zy _).1,(zy _).2] at e
  have z1:=congrArg (fun l=>l.getD 0 0) e
  exact ZO f0.1 (by simpa using z1) (by decide)
 ·rw [(qT _).1,(qT _).2,(qT _).1,(qT _).2] at e
  have e':B=C++[45]:=by simpa using e
  have z1:B.getD (B.length - 1) 0=45:=by
   rw [e',length_append,length_singleton,Nat.add_sub_cancel,Xb (Nat.le_refl _),Nat.sub_self];rfl
  exact ZO f0.2 z1 (by decide)
theorem We (h:yd x) (b:Bool):Asc (stL x b)/\Asc (stT x b):=by
 unfold Asc
 rcases h with rfl | rfl | rfl | rfl | rfl
 ·rw [(qi b).1,(qi b).2];cases b <;> decide
 ·rw [(jY b).1,(jY b).2];cases b <;> decide
 ·rw [(qh b).1,(qh b).2];cases b <;> decide
 ·rw [(zy b).1,(zy b).2];cases b <;> decide
 ·rw [(qT b).1,(qT b).2];cases b <;> decide
def dgs (b p n:Nat):List Nat:=List.replicate (p+1 - (xh b n).length) 48++xh b n
theorem ZG {b p:Nat} (h2:2<=b) (h16:b<=16) (hp:p<=6) (h:n < b ^ (40+p)):jy b (dgs b p n)/\val b (dgs b p n)=n/\p+1<=(dgs b p n).length/\(dgs b p n).length<=40+p/\((dgs b p n).getD 0 0=48->(dgs b p n).length=p+1):=by
 have s:=WN h2 h16 n n (Nat.le_refl _)
 have ln:=JV h2 (39+p) n (by rw [show 39+p+1=40+p by omega];exact h)
 have ps:=List.length_pos_iff.mpr s.2.2.1
 have ld:(dgs b p n).length=p+1 - (xh b n).length+(xh b n).length:=by unfold dgs;rw [length_append,List.length_replicate]
 refine ⟨(jy.noughts (by omega) _).app s.1,?_,by omega,by omega,fun z=>?_⟩
 ·unfold dgs;rw [QB];exact s.2.1
 ·rcases lt_or_ge (p+1) (xh b n).length with q | q
  ·have e:dgs b p n=xh b n:=by unfold dgs;rw [show p+1 - (xh b n).length=0 by omega];rfl
   rw [e] at z
   have:=s.2.2.2 z
   subst this
   rw [jL (by omega)] at q
   simp at q
  ·omega
def whl (b p n:Nat):List Nat:=(dgs b p n).take ((dgs b p n).length - p)
def rst (b p n:Nat):List Nat:=(dgs b p n).drop ((dgs b p n).length - p)
def bdy (b p pt z m n:Nat):List Nat:=if p=0 then gr z m (whl b p n) else gr z m (whl b p n)++[pt]++rst b p n
theorem W2 (b p n:Nat):whl b p n++rst b p n=dgs b p n:=List.take_append_drop _ _
theorem zA9 {b p:Nat} (h2:2<=b) (h16:b<=16) (hp:p<=6) (h:n < b ^ (40+p)):1<=(whl b p n).length/\(whl b p n).length<=40/\(rst b p n).length=p/\((whl b p n).getD 0 0=48->(whl b p n).length=1):=by
 have s:=ZG h2 h16 hp h
 have lw:(whl b p n).length=(dgs b p n).length - p:=by unfold whl;rw [length_take];omega
 refine ⟨by omega,by omega,by unfold rst;rw [length_drop];omega,fun z=>?_⟩
 have e:(whl b p n).getD 0 0=(dgs b p n).getD 0 0:=by
  rw [<- W2 b p n,xL (by omega)]
 rw [e] at z
 have:=s.2.2.2.2 z
 omega
theorem zAI {a:List Nat} (hk:k < a.length):gr z m (a.drop k)=a.getD k 0::((if 0 < z/\0 < a.length - (k+1)/\(a.length - (k+1)) % z=0 then [m] else [])++gr z m (a.drop (k+1))):=by
 have t:=Xr (z:=z) (m:=m) (a:=a) (k:=a.length - (k+1)) (by omega)
 rw [show a.length - (a.length - (k+1)+1)=k by omega,show a.length - 1 - (a.length - (k+1))=k by omega,show a.length - (a.length - (k+1))=k+1 by omega] at t
 exact t
section
variable {X : Cx} {H : Hp} {Q : VK} {K : W.Frag} {σ : St}
theorem zEu {a:Bool} (q:Q (.bl (!decide (a=b))) H):rNe (.bl a) (.bl b) H Q:=⟨rfl,by
 have e:decide (V.bl a=V.bl b)=decide (a=b):=by
  by_cases h:a=b
  ·rw [decide_eq_true h,decide_eq_true (congrArg V.bl h)]
  ·rw [decide_eq_false h,decide_eq_false (fun z=>h (V.bl.inj z))]
 rw [e];exact q⟩
end
theorem zBP {z m:Nat} : ∀ (k:Nat) (b:List Nat),b.length<=k -> ∀ c ∈ RJ z m b,c ∈ b\/c=m
 | 0,b,h,c,hc=>by rw [xR (by omega)] at hc;exact .inl hc
 | k+1,b,h,c,hc=>by
  rcases eq_zero_or_pos z with p | p
  ·subst p;rw [Zx] at hc;exact .inl hc
  ·rcases lt_or_ge z b.length with q | q
   ·rw [QI p q] at hc
    rcases List.mem_append.mp hc with hc | hc
    ·exact .inl (List.mem_of_mem_take hc)
    ·rcases List.mem_cons.mp hc with hc | hc
     ·exact .inr hc
     ·rcases zBP k (b.drop z) (by rw [length_drop];omega) c hc with hc | hc
      ·exact .inl (List.mem_of_mem_drop hc)
      ·exact .inr hc
   ·rw [xR q] at hc;exact .inl hc
theorem zFd {a:List Nat} (h:Asc a) (hm:m < 127):Asc (gr z m a):=fun c hc=>by
 unfold gr at hc
 rcases zBP _ a.reverse (Nat.le_refl _) c (List.mem_reverse.mp hc) with z | z
 ·exact h c (List.mem_reverse.mp z)
 ·rw [z];exact hm
theorem zCL {b:List Nat} (h:0 < b.length):(RJ z m b).getD 0 0=b.getD 0 0:=by
 rcases eq_zero_or_pos z with p | p
 ·subst p;rw [Zx]
 ·rcases lt_or_ge z b.length with q | q
  ·rw [QI p q,xL (by rw [length_take];omega),getD_eq_getElem?_getD,List.getElem?_take,if_pos p,<- getD_eq_getElem?_getD]
  ·rw [xR q]
theorem zCz {a:List Nat} (h:0 < a.length):(gr z m a).getD ((gr z m a).length - 1) 0=a.getD (a.length - 1) 0:=by
 have l:=Y2 (z:=z) (m:=m) (a:=a)
 have e1:(RJ z m a.reverse).getD 0 0=a.reverse.getD 0 0:=zCL (by rw [length_reverse];exact h)
 rw [Qx h] at e1
 have e2:(gr z m a).reverse=RJ z m a.reverse:=by unfold gr;rw [reverse_reverse]
 rw [<- e2,Qx (by omega)] at e1
 rw [show (gr z m a).length - 1=(gr z m a).length - 1 - 0 by omega,e1];rfl
theorem W0 {a:List Nat} (h:0 < a.length):(gr z m a).getD 0 0=a.getD 0 0:=by
 have f:=zAI (z:=z) (m:=m) (a:=a) (k:=0) h
 rw [drop_zero] at f
 rw [f];rfl
theorem jy.get {b:Int} {l:List Nat} (h:jy b l) {i:Nat} (hi:i < l.length):0<=fv (l.getD i 0):=by
 rw [getD_eq_getElem?_getD,getElem?_eq_getElem hi];exact (h _ (getElem_mem hi)).2.1
theorem Yl {b p pt:Nat} (h2:2<=b) (h16:b<=16) (hp:p<=6) (h:n < b ^ (40+p)) (hpt:pt < 127) (hm:m < 127):Fg (bdy b p pt z m n)/\Asc (bdy b p pt z m n)/\(bdy b p pt z m n).length<=100:=by
 have ds:=ZG h2 h16 hp h
 have ws:=zA9 h2 h16 hp h
 have wr:=W2 b p n
 have fw:jy b (whl b p n):=fun c hc=>ds.1 c (by rw [<- wr];exact mem_append_left _ hc)
 have fr:jy b (rst b p n):=fun c hc=>ds.1 c (by rw [<- wr];exact mem_append_right _ hc)
 have gl:=Y2 (z:=z) (m:=m) (a:=whl b p n)
 have ag:=zFd (z:=z) (m:=m) fw.asc hm
 unfold bdy Fg
 rcases eq_zero_or_pos p with q | q
 ·rw [if_pos q]
  refine ⟨⟨List.length_pos_iff.mp (by omega),?_,?_⟩,ag,by omega⟩
  ·rw [W0 (by omega)];exact fw.get (by omega)
  ·rw [zCz (by omega)];exact fw.get (by omega)
 ·rw [if_neg (by omega)]
  refine ⟨⟨by simp,?_,?_⟩,(ag.app (Asc.one hpt)).app fr.asc,by simp only [length_append,length_singleton];omega⟩
  ·rw [append_assoc,xL (by omega),W0 (by omega)];exact fw.get (by omega)
  ·rw [Xb (by simp only [length_append,length_singleton];omega)]
   exact fr.get (by simp only [length_append,length_singleton];omega)
theorem WD {B:List Nat}:bod x b (stL x b++B++stT x b)=B:=by
 unfold bod
 rw [show (stL x b++B++stT x b).length - (stT x b).length=(stL x b++B).length by simp only [length_append];omega,take_append_of_le_length (Nat.le_refl _),take_length,List.drop_append,drop_of_length_le (Nat.le_refl _),Nat.sub_self];rfl
def zB7 (X:Cx) (E:XK):Prop:=∀ (pins:List (Addr × Obj)) (σ:St) (e:Value) (s':Shared),XP X pins σ E e s'->X.xe e s'
section
variable {P : Program} {w : World} {K : W.Frag} {mg : Str -> Option Value} {base : Heap} {N : List Str} {qual : Str} {scope : Scope} {f : Addr} {cd : Value} {A : Around} {outer : List Env} {s : Shared} {H : Hp} {E : XK}
theorem Jb:zB7 (kC (CXE P w) P w K mg base N qual scope f cd A outer s H E) E:=by
 intro pins σ e s' h
 obtain ⟨H1,s1,I1,fl⟩:=h
 obtain ⟨x,C,a0,H',B,rfl,hos,hbare,fly,clo,hx1,hx2,q⟩:=fl
 refine wpAny_leaves_onW I1.ok.frames rfl fly fun h2 fly2 sm=>?_
 refine ⟨x,C,a0,H',B,rfl,hos.trans I1.os,hbare,fly2,fun h3 st sm3=>?_,?_,hx2,q⟩
 ·have cl:=clo h3 st (sm.trans sm3)
  have I3:=I1.call' (s':={ s' with heap:=h3 }) hos cl.1 cl.2 hbare (fun b z=>nomatch z)
  exact ⟨I3.base,I3.hok⟩
 ·cases z:s.heap.get? x with
  | none=>rfl
  | some o =>
   obtain ⟨o',e1⟩:=I1.base.there x o z (fun h=>nomatch h)
   rw [hx1] at e1;cases e1
end
theorem zAG (F:zEr X.prog X.w X.K X.mg X.base x k ps sp) (pp:zB7 X E) (hr:xA n X.A) (hg:Gl X x) (ha:PA X (e::es) t)
  (hk:k<=n:=by decide)
  (hdb:(x == ("__debug__" : Str))=false:=by decide) (he:starEach (e::es) X.env=(false,eval e X.env)::starEach es X.env:=by rfl) (hpl:(backTo pos (starEach es X.env)).any (·.1)=false:=by rfl) :
  PE X (.Call (.Name x p) (e::es) [] pos) (Xn sp [] E t):=by
 intro pins s σ H Q I h
 obtain ⟨f,fd,G,hm,kp,hb⟩:=F
 refine wpAny_Call_Name_kw (jB I hg hm ?_ hdb)
 refine W.callWith_K (h₀:=X.base) I.ok.mod.kin kp (thn (ha pos pins s σ H _ I h) fun us s1 ⟨vs,H1,I1,r,q⟩=>⟨I1.kIn,?_⟩) he hpl
 have r2:z9 (vs++[]) (us++[]):=r.append .nil
 have hl:(us++[]).length=ps.length:=by rw [<- r2.length];exact G.len _ _ _ _ q
 refine wpAny_call (codeAny_mono (G.run X.A X.stack s1 H1 ⟨us,[]⟩ (us++[]) (vs++[]) Q E (hr.mono hk) I1.env0 (hb s1 us I1.kIn hl) r2 q) fun r s' hq=>?_)
 cases r with
 | error e=>exact pp pins σ e s' ⟨H1,s1,I1,hq⟩
 | ok fl =>
  cases fl with
  | ret u=>exact I1.after hq
  | next=>exact hq.elim
  | brk=>exact hq.elim
  | cont=>exact hq.elim
variable {N:List Str} {qual:Str}
theorem Wd {base:Heap} {scope:Scope} {f:Addr} {cd:Value} {A:Around} {outer:List Env} {s:Shared}:j5 (CXE P w) (kC (CXE P w) P w K mg base N qual scope f cd A outer s H E) E:=fun pins σ H1 s1 e s' I h=>Jb pins σ e s' ⟨H1,s1,I,h⟩
abbrev tsV (ts:List (List Nat)):List V:=ts.map fun l=>V.str (T l)
theorem zCu (ts:List (List Nat)):(tsV ts).all QL=true:=by
 rw [List.all_eq_true];intro x hx
 obtain ⟨l,_,rfl⟩:=List.mem_map.mp hx
 rfl
theorem zEG (a b:List Nat):eqV (.str (T a)) (.str (T b))=decide (a=b):=by
 show (T a == T b)=_
 rw [Bool.eq_iff_iff,beq_iff_eq,decide_eq_true_iff,zGS]
section
variable {X : Cx} {H : Hp} {Q : VK} {K : W.Frag}
theorem zEM (t:List Nat) (ts:List (List Nat)):inV (.str (T t)) (tsV ts)=decide (t ∈ ts):=by
 unfold inV
 rw [Bool.eq_iff_iff,List.any_eq_true,decide_eq_true_iff]
 constructor
 ·rintro ⟨y,hy,e⟩
  obtain ⟨l,hl,rfl⟩:=List.mem_map.mp hy
  rw [zEG,decide_eq_true_iff] at e
  exact e ▸ hl
 ·intro h
  exact ⟨_,List.mem_map.mpr ⟨t,h,rfl⟩,by rw [zEG,decide_eq_true_iff]⟩
theorem zFn {p:Addr} {t:List Nat} (h:SqL K H p (tsV ts)) (q:Q (.bl (decide (t ∈ ts))) H):rIn K false (.str (T t)) (.ref p) H Q:=⟨p,_,rfl,.inl h,rfl,zCu ts,by rw [zEM];exact q⟩
theorem zDa {p:Addr} (h:SqL K H p (tsV ts)) (h0:0 < ts.length) (q:Q (.str (T (ts.getD (ts.length - 1) []))) H):zBi K (.ref p) (.int (-1)) H Q:=by
 refine zAr h (v:=.str (T (ts.getD (ts.length - 1) []))) ?_ q
 unfold atI ixN
 rw [length_map,if_neg (show ¬ (0:Int) <= -1 by decide),if_pos (show -(ts.length:Int) <= -1 by omega)]
 show (tsV ts)[((-1:Int)+ts.length).toNat]? = _
 rw [show ((-1:Int)+ts.length).toNat=ts.length - 1 by omega,getElem?_map,getD_eq_getElem?_getD,getElem?_eq_getElem (by omega)]
 rfl
def KW (K:W.Frag):List V->Hp->VK->Prop:=fun xs H Q=>∃ p ys,xs=[.ref p]/\(SqL K H p ys\/SqT K H p ys) /\ ∀ l,H l=none->Q (.ref l) (upd H l (.lst ys))
theorem yy:jx X (.type "list") (KW X.K):=J4
theorem Yz {p:Addr} {ys:List V} (h:SqL K H p ys) (q : ∀ l H',zY H H'->H l=none->H' l=some (.lst ys)->Q (.ref l) H'):KW K [.ref p] H Q:=⟨p,ys,rfl,.inl h,fun l hl=>q l _ (qK (zY.refl _) hl) hl zQ⟩
theorem Zp (hz:xs.length<=sizeLine) (q : ∀ l H',zY H H'->H l=none->H' l=some (.lst xs)->Q (.ref l) H'):zFy Q xs H:=⟨hz,fun l hl=>q l _ (qK (zY.refl _) hl) hl zQ⟩
def KQ:V->List V->Hp->VK->Prop:=fun x xs H Q=>∃ a b:List Nat,x = .str (T a)/\xs=[.str (T b)]/\Q (.bl (decide (a.take b.length=b))) H
theorem zCS (a b:List Nat):Txt.startswith (T a) (T b)=decide (a.take b.length=b):=by
 have la:(T a).length=a.length:=rfl
 have lb:(T b).length=b.length:=rfl
 unfold Txt.startswith
 rw [StrLaws.subAt_eq,drop_zero,la,lb]
 show (decide (0+b.length<=a.length) && (a.take b.length == b))=_
 rw [Bool.eq_iff_iff,Bool.and_eq_true,decide_eq_true_iff,decide_eq_true_iff,beq_iff_eq]
 constructor
 ·exact fun h=>h.2
 ·intro h
  have:=congrArg List.length h
  rw [length_take] at this
  exact ⟨by omega,h⟩
theorem QH:MtR X "str.startswith" KQ:=by
 intro pins s σ H x xs v us Q I rx rv h
 obtain ⟨a,b,rfl,rfl,q⟩:=h
 obtain ⟨t,rfl⟩:=rx
 obtain ⟨u,rfl,ru⟩:=rv.one
 obtain ⟨t',rfl⟩:=ru
 exact SC.startswith ⟨.bl _,H,I,rfl,by rw [zCS];exact q⟩
theorem W7 {a b:List Nat} (q:Q (.bl (decide (a.take b.length=b))) H):KQ (.str (T a)) [.str (T b)] H Q:=⟨a,b,rfl,rfl,q⟩
end
def lk (n w:Int):Int:=if n < w then w - n else 0
def yg (x:Str):Prop:=x = "left" \/ x = "right" \/ x = "middle"
def pA (x:Str) (n w:Int):Int:=if x = "left" then 0 else if x = "right" then lk n w else lk n w / 2
def pB (x:Str) (n w:Int):Int:=lk n w - pA x n w
theorem wZ (n w:Int) (h0:0<=n) (hw:w<=40):0<=lk n w/\lk n w<=40/\(w<=n->lk n w=0)/\(n<=w->lk n w=w - n):=by unfold lk;split <;> omega
theorem pAl (n w:Int):pA "left" n w=0:=by unfold pA;rw [if_pos rfl]
theorem pAr (n w:Int):pA "right" n w=lk n w:=by unfold pA;rw [if_neg (by decide +kernel),if_pos rfl]
theorem pAm (n w:Int):pA "middle" n w=lk n w / 2:=by unfold pA;rw [if_neg (by decide +kernel),if_neg (by decide +kernel)]
def W6 (x:Str) (n w:Int):Prop:=0<=pA x n w/\0<=pB x n w/\pA x n w+pB x n w=lk n w/\(x = "left" -> pA x n w=0)/\(x = "right" -> pB x n w=0)/\(x = "middle" -> pB x n w=pA x n w\/pB x n w=pA x n w+1)
theorem xI {n w:Int} (hs:yg x) (h0:0<=n) (hw:w<=40):W6 x n w:=by
 have b:=wZ n w h0 hw
 unfold W6 pB
 rcases hs with rfl | rfl | rfl
 ·rw [pAl];exact ⟨by omega,by omega,by omega,fun _=>rfl,fun h=>absurd h (by decide +kernel),fun h=>absurd h (by decide +kernel)⟩
 ·rw [pAr];exact ⟨by omega,by omega,by omega,fun h=>absurd h (by decide +kernel),fun _=>by omega,fun h=>absurd h (by decide +kernel)⟩
 ·rw [pAm];exact ⟨by omega,by omega,by omega,fun h=>absurd h (by decide +kernel),fun h=>absurd h (by decide +kernel),fun _=>by omega⟩
def pad (t:List Nat) (w:Int) (f:Nat) (x:Str):List Nat:=List.replicate (pA x t.length w).toNat f++t++List.replicate (pB x t.length w).toNat f
theorem JM {t:List Nat} {w:Int} {f:Nat} (h:W6 x t.length w):((pad t w f x).length:Int)=t.length+lk t.length w:=by
 unfold pad;obtain ⟨h1,h2,h3,_⟩:=h
 simp only [length_append,List.length_replicate];omega
theorem Yi {t:List Nat} {w:Int} {f:Nat} (h:W6 x t.length w) (h1:w<=t.length) (h2:w<=40):pad t w f x=t:=by
 have b:=wZ t.length w (by omega) h2
 obtain ⟨a1,a2,a3,_⟩:=h
 unfold pad
 rw [show (pA x t.length w).toNat=0 by omega,show (pB x t.length w).toNat=0 by omega];simp
def sl (t:List Nat) (w:Int) (x:Str) (n:Nat):List Nat:=(t.take ((pA x n w)+n).toNat).drop (pA x n w).toNat
def gd (t:List Nat) (w:Int) (f:Nat) (x:Str) (n:Nat):Bool:=decide (pad (sl t w x n) w f x=t)
def qR (t:List Nat) (w:Int) (f:Nat) (x:Str):List (List Nat):=if w < t.length then [t] else ((List.range (w+1).toNat).filter (gd t w f x)).map (sl t w x)
theorem zBr {w:Int} (hs:yg x) (h:(n:Int)<=w) (hw:w<=40) : ∃ a b:Nat,pA x n w=a/\pB x n w=b/\(a+b+n:Int)=w/\(x = "left" -> a=0)/\(x = "right" -> b=0)/\(x = "middle" -> a=(w.toNat - n) / 2):=by
 have b:=xI (n:=n) hs (by omega) hw
 have l:=(wZ n w (by omega) hw).2.2.2 h
 obtain ⟨b1,b2,b3,b4,b5,b6⟩:=b
 rw [l] at b3
 obtain ⟨A,ha⟩:=Int.eq_ofNat_of_zero_le b1
 obtain ⟨B,hb⟩:=Int.eq_ofNat_of_zero_le b2
 rw [ha] at b3 b4 b6;rw [hb] at b3 b5 b6
 have q:w.toNat - n=A+B:=by omega
 rw [q]
 have q2:(A+B+n:Int)=w:=by omega
 clear b3 b1 b2 l h hw q
 exact ⟨A,B,ha,hb,q2,fun h=>Int.ofNat.inj (b4 h),fun h=>Int.ofNat.inj (b5 h),fun h=>by have:=b6 h;clear b4 b5 b6 q2 ha hb;omega⟩
theorem zBT {t:List Nat} {w:Int} {a:Nat} (e:pA x n w=a):sl t w x n=(t.take (a+n)).drop a:=by
 unfold sl;rw [e];congr 1
theorem zB4 {t:List Nat} {w:Int} (hs:yg x) (h:(n:Int)<=w) (hw:w<=40) (ht:(t.length:Int)=w):(sl t w x n).length=n:=by
 obtain ⟨a,b,e1,e2,e3,_⟩:=zBr hs h hw
 rw [zBT e1,length_drop,length_take];omega
theorem y0 {t:List Nat} {w:Int} {f:Nat} (h:w < t.length):qR t w f x=[t]:=by unfold qR;rw [if_pos h]
theorem XG {t:List Nat} {w:Int} {f:Nat} (hs:yg x) (hw:w<=40) (h:(t.length:Int) < w):qR t w f x=[]:=by
 unfold qR
 rw [if_neg (by omega),List.filter_eq_nil_iff.mpr,List.map_nil]
 intro n _ g
 unfold gd at g
 have g':=congrArg List.length (of_decide_eq_true g)
 have b:=xI (n:=(sl t w x n).length) hs (by omega) hw
 have l:=JM (f:=f) b
 have c:=wZ (sl t w x n).length w (by omega) hw
 omega
theorem zFG {t:List Nat} {w:Int} {f:Nat} (hs:yg x) (hw:w<=40) (h:(t.length:Int)<=w):sl (pad t w f x) w x t.length=t/\gd (pad t w f x) w f x t.length=true/\((pad t w f x).length:Int)=w:=by
 obtain ⟨a,b,e1,e2,e3,_⟩:=zBr (n:=t.length) hs h hw
 have hl:sl (pad t w f x) w x t.length=t:=by
  rw [zBT e1];unfold pad
  rw [e1,e2,Int.toNat_natCast,Int.toNat_natCast,List.take_left' (by rw [length_append,List.length_replicate]),List.drop_left' (by rw [List.length_replicate])]
 refine ⟨hl,?_,?_⟩
 ·unfold gd;rw [hl,decide_eq_true_iff]
 ·have l:=JM (f:=f) (xI (n:=t.length) hs (by omega) hw)
  have c:=wZ t.length w (by omega) hw
  omega
theorem wB {t:List Nat} {w:Int} {f:Nat} (sx:yg x) (hw:w<=40) {c:List Nat} (h:c ∈ qR t w f x):pad c w f x=t:=by
 unfold qR at h
 split at h
 ·rename_i hl
  rw [List.mem_singleton.mp h]
  exact Yi (xI sx (by omega) hw) (by omega) hw
 ·obtain ⟨n,hn,rfl⟩:=List.mem_map.mp h
  exact of_decide_eq_true (List.mem_filter.mp hn).2
theorem Vt {t:List Nat} {w:Int} {f:Nat} (sx:yg x) (hw:w<=40):t ∈ qR (pad t w f x) w f x:=by
 rcases Int.lt_or_le w t.length with q | q
 ·rw [Yi (xI sx (by omega) hw) (by omega) hw,y0 q];exact List.mem_singleton.mpr rfl
 ·obtain ⟨p1,p2,p3⟩:=zFG (f:=f) sx hw q
  unfold qR
  rw [if_neg (by omega)]
  exact List.mem_map.mpr ⟨t.length,List.mem_filter.mpr ⟨List.mem_range.mpr (by omega),p2⟩,p1⟩
theorem kj {t:List Nat} {w:Int} {f:Nat} (sx:yg x) (hw:w<=40) {c:List Nat}:c ∈ qR t w f x↔pad c w f x=t:=⟨wB sx hw,fun h=>h ▸ Vt sx hw⟩
theorem yU {t:List Nat} {w:Int} {f:Nat} (sx:yg x) (hw:w<=40):(qR t w f x).Nodup:=by
 rcases Int.lt_trichotomy (t.length:Int) w with h | h | h
 ·rw [XG sx hw h];exact List.nodup_nil
 ·unfold qR
  rw [if_neg (by omega)]
  refine List.pairwise_map.mpr ?_
  have pr:((List.range (w+1).toNat).filter (gd t w f x)).Pairwise (· ≠ ·):=List.Pairwise.filter _ (List.nodup_range)
  refine (List.Pairwise.and_mem.mp pr).imp ?_
  rintro a b ⟨ha,hb,hne⟩ e
  have la:=List.mem_range.mp (List.mem_filter.mp ha).1
  have lb:=List.mem_range.mp (List.mem_filter.mp hb).1
  have e2:=congrArg List.length e
  rw [zB4 sx (by omega) hw h,zB4 sx (by omega) hw h] at e2
  exact hne e2
 ·rw [y0 h];exact List.nodup_cons.mpr ⟨by simp,List.nodup_nil⟩
structure Y0 (K:W.Frag) (x qual:Str) (st:Stmt) (f:Addr) (fd:FuncData):Prop where
 ex : ∃ (oc:Value) (od:Option Addr) (dV kV doc pm:Value) (an:Option Addr) (cdv ct:Value) (osl:Array (Option Value)),
  fd=W.fnOf x qual (qC st) (zm st) (zE st) dV kV doc pm an cdv ct/\K.lookup f=some ⟨oc,od,.func fd,osl⟩/\W.codeIn K cdv qual=true
 kp:W.keepIn K (.ref f)=true
section
variable {P : Program} {w : World} {K : W.Frag} {mg : Str -> Option Value} {base : Heap}
variable {st:Stmt}
theorem Y0.ok {f:Addr} (F:Y0 K x qual st f fd) (S:zN N ps (zE st)) (len : ∀ vs H Q E,sp vs H Q E->vs.length=ps.length)
  (hbody : ∀ (cdv:Value) (A:Around) (outer:List Env) (s:Shared) (H:Hp) (vs:List V) (Q:VK) (E:XK),xA k (A.deeper (envOfC qual (zE st) s.heap.objs.size f cdv))->sp vs H Q E ->
   ∃ t,PSs (kC CX0 P w K mg base N qual (zE st) f cdv A outer s H E).nox (zm st) t/\t { nx:=fun _ H'=>Q .non H',rt:=Q } (start N vs) H):xG P w K mg base CX0 (k+1) f fd ps sp:=by
 obtain ⟨oc,od,dV,kV,doc,pm,an,cdv,ct,osl,rfl,lk,hcd⟩:=F.ex
 refine V1 lk hcd S len fun A outer s H vs Q E hr hsp=>?_
 obtain ⟨t,h,q⟩:=hbody cdv A outer s H vs Q E hr hsp
 exact ⟨t,h.nox,q⟩
theorem Y0.okX {f:Addr} (F:Y0 K x qual st f fd) (S:zN N ps (zE st)) (len : ∀ vs H Q E,sp vs H Q E->vs.length=ps.length)
  (hbody : ∀ (cdv:Value) (A:Around) (outer:List Env) (s:Shared) (H:Hp) (vs:List V) (Q:VK) (E:XK),xA k (A.deeper (envOfC qual (zE st) s.heap.objs.size f cdv))->sp vs H Q E ->
   KR (kC (CXE P w) P w K mg base N qual (zE st) f cdv A outer s H E) E->j5 (CXE P w) (kC (CXE P w) P w K mg base N qual (zE st) f cdv A outer s H E) E -> ∃ t,PSs (kC (CXE P w) P w K mg base N qual (zE st) f cdv A outer s H E) (zm st) t/\t { nx:=fun _ H'=>Q .non H',rt:=Q } (start N vs) H):xG P w K mg base (CXE P w) (k+1) f fd ps sp:=by
 obtain ⟨oc,od,dV,kV,doc,pm,an,cdv,ct,osl,rfl,lk,hcd⟩:=F.ex
 exact V1 lk hcd S len fun A outer s H vs Q E hr hsp=>hbody cdv A outer s H vs Q E hr hsp (fun pins σ H s h' x C args I hm q=>Z9 I hm q) Wd
theorem Y0.binds {f:Addr} (F:Y0 K x qual st f fd)
  (h : ∀ (dV kV doc pm:Value) (an:Option Addr) (cdv ct:Value) (us:List Value),us.length=ps.length->bindArgs (W.fnOf x qual (qC st) (zm st) (zE st) dV kV doc pm an cdv ct) ⟨us,[]⟩=pure (ps.zip us)):xJ K fd ps []:=by
 obtain ⟨oc,od,dV,kV,doc,pm,an,cdv,ct,osl,rfl,lk,hcd⟩:=F.ex
 exact .all (h dV kV doc pm an cdv ct)
theorem KM {f:Addr} {oc:Value} {od an:Option Addr} {osl:Array (Option Value)} {dV kV doc pm cdv ct:Value} (l:K.lookup f=some ⟨oc,od,.func (W.fnOf x qual (qC st) (zm st) (zE st) dV kV doc pm an cdv ct),osl⟩)
  (c:W.codeIn K cdv qual=true) (k:W.keepIn K (.ref f)=true):Y0 K x qual st f (W.fnOf x qual (qC st) (zm st) (zE st) dV kV doc pm an cdv ct):=⟨⟨oc,od,dV,kV,doc,pm,an,cdv,ct,osl,rfl,l,c⟩,k⟩
end
def zG1 (P:Program) (w:World) (K:W.Frag) (mg:Str->Option Value) (base:Heap) (CX:CXT) (C:Addr) (m:Str) (k:Nat) (ps:List Str) (sp:Sp):Prop:=
 ∃ (f:Addr) (fd:FuncData),xG P w K mg base CX k f fd ps sp/\zGX K C m f/\xJ K fd ps []
def zGv (P:Program) (w:World) (K:W.Frag) (mg:Str->Option Value) (base:Heap) (CX:CXT) (C:Addr) (k:Nat) (ps:List Str) (sp:Sp):Prop:=
 ∃ (f:Addr) (fd:FuncData),xG P w K mg base CX k f fd ps sp/\Mk K C f/\xJ K fd ps []
structure zGO (K:W.Frag) (C:Addr) (m:Str) (f:Addr):Prop where
 sp:W.specialIn K (.ref C) "__getattribute__" = some (some (.builtin "type.__getattribute__"))
 rd:W.readsIn K C (.type "type")=true
 fc:W.findCls K (.ref C) (.type "type") m=some (.val (.ref f))
 kp:W.keepIn K (.ref f)=true
def zGD (P:Program) (w:World) (K:W.Frag) (mg:Str->Option Value) (base:Heap) (CX:CXT) (C:Addr) (m:Str) (k:Nat) (ps:List Str) (sp:Sp):Prop:=
 ∃ (f:Addr) (fd:FuncData),xG P w K mg base CX k f fd ps sp/\zGO K C m f/\xJ K fd ps []
section
variable {X : Cx} {CX : CXT} {k n : Nat} {C : Addr} {ps : List Str} {sp : Sp} {E : XK} {x m : Str} {p np pos apos : Pos} {e o : Expr} {es : List Expr} {ta : TE} {t : TA}
theorem qN {pl:Sem Bool} (F:zG1 X.prog X.w X.K X.mg X.base CX C m k ps sp) (c:Cls X.K C) (hx:j5 CX X E) (hr:xA n X.A) (he:PE X o ta) (ha:PA X (e::es) t) (hk:k<=n:=by decide)
  (hst:starEach (e::es) X.env=(false,eval e X.env)::starEach es X.env:=by rfl) (hpl:(backTo pos (starEach es X.env)).any (·.1)=false:=by rfl)
  (ht:eval (.Call (.Attribute o m apos) (e::es) [] pos) X.env=(do
   let ov <- eval o X.env
   standAt apos.atName
   let (f,first) <- holding [ov] (getMethod ov m pl)
   callWith pos f first (backTo pos (starEach (e::es) X.env)) (backToKw pos (keywordEach [] X.env))):=by rfl) :
  PE X (.Call (.Attribute o m apos) (e::es) [] pos) (VZ C m sp [] E ta t):=by
 obtain ⟨f,fd,G,M,b⟩:=F
 exact zDH (pl:=pl) he c M (G.mono hk) hr b .nil hx ha hst hpl ht
theorem Q4 (F:zGv X.prog X.w X.K X.mg X.base CX C k ps sp) (hx:j5 CX X E) (hr:xA n X.A) (hg:Gl X x) (hm:X.mg x=some (.ref C)) (ha:PA X (e::es) t) (hk:k+1<=n:=by decide)
  (hdb:(x == ("__debug__" : Str))=false:=by decide) (he:starEach (e::es) X.env=(false,eval e X.env)::starEach es X.env:=by rfl) (hpl:(backTo pos (starEach es X.env)).any (·.1)=false:=by rfl) :
  PE X (.Call (.Name x p) (e::es) [] pos) (zCI C sp [] E t):=by
 obtain ⟨f,fd,G,M,b⟩:=F
 exact zDE M G (hr.mono hk) hg hm b .nil hx ha hdb he hpl
theorem Zc {pl:Sem Bool} (F:zGD X.prog X.w X.K X.mg X.base CX C m k ps sp) (hx:j5 CX X E) (hr:xA n X.A) (hg:Gl X x) (hm:X.mg x=some (.ref C)) (ha:PA X (e::es) t) (hk:k<=n:=by decide)
  (hdb:(x == ("__debug__" : Str))=false:=by decide) (hst:starEach (e::es) X.env=(false,eval e X.env)::starEach es X.env:=by rfl) (hpl:(backTo pos (starEach es X.env)).any (·.1)=false:=by rfl)
  (ht:eval (.Call (.Attribute (.Name x np) m apos) (e::es) [] pos) X.env=(do
   let ov <- eval (.Name x np) X.env
   standAt apos.atName
   let (f,first) <- holding [ov] (getMethod ov m pl)
   callWith pos f first (backTo pos (starEach (e::es) X.env)) (backToKw pos (keywordEach [] X.env))):=by rfl) :
  PE X (.Call (.Attribute (.Name x np) m apos) (e::es) [] pos) (Xn sp [] E t):=by
 intro pins s σ H Q I h
 obtain ⟨f,fd,G,M,b⟩:=F
 refine W.methodCall_KW (pl:=pl) (jB I hg hm ?_ hdb) ht
 refine W.method_cls I.kIn M.sp (W.cls_value I.kIn M.rd M.fc rfl ?_)
 have I1:=I.tok (s.toks+1)
 refine W.callWith_K (first:=[]) (h₀:=X.base) I.ok.mod.kin M.kp (thn (ha pos pins _ σ H _ I1 h) fun us s2 ⟨vs,H2,I2,r,q2⟩=>⟨I2.kIn,?_⟩) hst hpl
 exact YZ (us:=us) (vs:=vs) (G.mono hk) hr b .nil hx I2 r q2
end
section
variable {σ : St} {H : Hp} {Q : VK} {D : kD} {K : W.Frag} {C : Addr} {m f : Str} {sp : Sp} {E : XK} {ta tv : TE} {t : TA} {a : Addr}
def zBc (H:Hp) (a C:Addr) (m:Str):Prop:=∃ dx fs,H a=some (.ins C dx fs)/\fs.lookup m=none
def jv (K:W.Frag) (H:Hp) (a:Addr) (f:Str) (v:V):Prop:=∃ C dx fs,H a=some (.ins C dx fs)/\Cls K C/\xv K C f/\fs.lookup f=some v
theorem zBc.same (g:zY H H') (h:zBc H a C m):zBc H' a C m:=by obtain ⟨dx,fs,e,l⟩:=h;exact ⟨dx,fs,g _ _ e,l⟩
variable {v:V}
theorem jv.same (g:zY H H') (h:jv K H a f v):jv K H' a f v:=by obtain ⟨C,dx,fs,e,l⟩:=h;exact ⟨C,dx,fs,g _ _ e,l⟩
def zDw (C:Addr) (m:Str) (sp:Sp) (dvs:List V) (E:XK) (t:TA) (σ:St) (Q:VK):VK:=fun x H1=>∃ a dx fs,x = .ref a/\H1 a=some (.ins C dx fs)/\fs.lookup m=none/\t σ H1 fun vs H2=>sp (x::(vs++dvs)) H2 Q E
variable {dvs:List V}
theorem Yv (h:ta σ H (zDw C m sp dvs E t σ Q)):VZ C m sp dvs E ta t σ H Q:=h
theorem JO (hi:zBc H a C m) (h:t σ H fun vs H2=>sp (.ref a::(vs++dvs)) H2 Q E):zDw C m sp dvs E t σ Q (.ref a) H:=by
 obtain ⟨dx,fs,e,l⟩:=hi
 exact ⟨a,dx,fs,rfl,e,l,h⟩
def zHW (K:W.Frag) (f:Str) (Q:VK):VK:=fun x H1=>∃ a C dx fs v,x = .ref a/\H1 a=some (.ins C dx fs)/\Cls K C/\xv K C f/\fs.lookup f=some v/\Q v H1
theorem zGp (h:ta σ H (zHW K f Q)):zG2 K ta f σ H Q:=h
theorem zD9 (hi:jv K H a f v) (q:Q v H):zHW K f Q (.ref a) H:=by
 obtain ⟨C,dx,fs,e,c,n,l⟩:=hi
 exact ⟨a,C,dx,fs,v,rfl,e,c,n,l,q⟩
def zHD (K:W.Frag) (f:Str) (y:V) (D:kD) (σ:St):VK:=fun x H2=>∃ a C dx fs,x = .ref a/\H2 a=some (.ins C dx fs)/\Cls K C/\xv K C f/\fs.length < 1000/\D.nx σ (upd H2 a (.ins C dx (ZC f y fs)))
theorem zFb (h:tv σ H fun y H1=>ta σ H1 (zHD K f y D σ)):zHO K ta tv f D σ H:=h
theorem jc {dx:Addr} {fs:List (Str × V)} {y:V} (e:H a=some (.ins C dx fs)) (c:Cls K C) (n:xv K C f) (l:fs.length < 1000) (q:D.nx σ (upd H a (.ins C dx (ZC f y fs)))):zHD K f y D σ (.ref a) H:=⟨a,C,dx,fs,rfl,e,c,n,l,q⟩
def zGc (C:Addr) (sp:Sp) (dvs:List V) (E:XK) (Q:VK):List V->Hp->Prop:=fun vs H1=>∀ x dx,H1 x=none->H1 dx=none->dx≠x ->
 sp (.ref x::(vs++dvs)) (upd (upd H1 dx (.own x)) x (.ins C dx [])) (fun v H2=>v = .non/\Q (.ref x) H2) E
theorem zFI (h:t σ H (zGc C sp dvs E Q)):zCI C sp dvs E t σ H Q:=h
theorem qO (f:Str) (v:V):ZC f v []=[(f,v)]:=rfl
variable {r:List (Str × V)}
theorem za {f k:Str} {x:V} (h:k≠f):ZC f v ((k,x)::r)=(k,x)::ZC f v r:=by
 rw [show ZC f v ((k,x)::r)=(if k=f then (k,v)::r else (k,x)::ZC f v r) from rfl,if_neg h]
theorem yr {k:Str} {x:V}:((k,x)::r).lookup k=some x:=by simp [List.lookup]
theorem qF {f k:Str} {x:V} (h:f≠k):((k,x)::r).lookup f=r.lookup f:=by
 have:(f == k)=false:=by simpa using h
 simp [List.lookup,this]
end
def Wk (σc σ:St):Prop:=σc.length=σ.length /\ ∀ (i:Nat) v,σc[i]? = some (some v)->σ[i]? = some (some v)
theorem Wk.nil:Wk [] []:=⟨rfl,fun i v h=>h⟩
theorem Wk.one {a b:St} {x:Option V} (h:Wk a b):Wk (x::a) (x::b):=⟨by rw [length_cons,length_cons,h.1],fun i v e=>by
 cases i with
 | zero=>exact e
 | succ i=>exact h.2 i v e⟩
theorem Wk.any {a b:St} {x:Option V} (h:Wk a b):Wk (none::a) (x::b):=⟨by rw [length_cons,length_cons,h.1],fun i v e=>by
 cases i with
 | zero=>exact absurd (Option.some.inj e) (by simp)
 | succ i=>exact h.2 i v e⟩
def Cx.tr (X:Cx) (pins:List (Addr × Obj)) (σc:St) (E:XK):Cx:={ X with pn:=X.pn++pins,xe:=XP X pins σc E }
section
variable {X : Cx} {pins pins0 : List (Addr × Obj)} {σ σc : St} {H : Hp} {s : Shared} {E : XK}
theorem Cx.Ok.tr (ok:X.Ok):(X.tr pins σc E).Ok:=⟨ok.mod,ok.kind,ok.glob,ok.blt,ok.above,ok.inj,ok.has,ok.cab,ok.hd,ok.frames,ok.stk,ok.exf,ok.bs,ok.bsz,ok.noex,ok.exfs,ok.funs,ok.frf⟩
theorem Cx.Ok.untr (ok:(X.tr pins σc E).Ok):X.Ok:=⟨ok.mod,ok.kind,ok.glob,ok.blt,ok.above,ok.inj,ok.has,ok.cab,ok.hd,ok.frames,ok.stk,ok.exf,ok.bs,ok.bsz,ok.noex,ok.exfs,ok.funs,ok.frf⟩
theorem Inv.tr (I:Inv X pins σ H s):Inv (X.tr pins σc E) [] σ H s:=⟨I.ok.tr,I.os,I.bare,I.base,I.loc,I.cell,I.free,I.freeC,fun p hp=>I.pin p (by simpa [Cx.tr] using hp),I.hok,I.len⟩
theorem Inv.untr (I:Inv (X.tr pins0 σc E) pins σ H s):Inv X pins0 σ H s:=⟨I.ok.untr,I.os,I.bare,I.base,I.loc,I.cell,I.free,I.freeC,fun p hp=>I.pin p (mem_append_left _ hp),I.hok,I.len⟩
theorem SP.untr {D:kD} {f:Flow} {s':Shared} (h:SP (X.tr pins0 σc E) pins D f s'):SP X pins0 D f s':=by
 cases f with
 | next=>obtain ⟨σ',H',I,q⟩:=h;exact ⟨σ',H',I.untr,q⟩
 | brk=>obtain ⟨σ',H',I,q⟩:=h;exact ⟨σ',H',I.untr,q⟩
 | cont=>obtain ⟨σ',H',I,q⟩:=h;exact ⟨σ',H',I.untr,q⟩
 | ret u=>obtain ⟨v,σ',H',I,r,q⟩:=h;exact ⟨v,σ',H',I.untr,r,q⟩
theorem SP.outExc {y:Addr} {D:kD} {f:Flow} {s':Shared} (ok:X.Ok) (h:SP (X.inExc y) pins D f s'):SP X pins D f s':=by
 cases f with
 | next=>obtain ⟨σ',H',I,q⟩:=h;exact ⟨σ',H',I.outExc ok,q⟩
 | brk=>obtain ⟨σ',H',I,q⟩:=h;exact ⟨σ',H',I.outExc ok,q⟩
 | cont=>obtain ⟨σ',H',I,q⟩:=h;exact ⟨σ',H',I.outExc ok,q⟩
 | ret u=>obtain ⟨v,σ',H',I,r,q⟩:=h;exact ⟨v,σ',H',I.outExc ok,r,q⟩
end
def PHs (X:Cx) (hs:List ExceptHandler) (th:Addr->TS):Prop:=
 ∀ (pins:List (Addr × Obj)) (s:Shared) (σ:St) (H:Hp) (D:kD) (y C:Addr) (B:Heap) (a0:Value),Heap.FlyingW B (X.env::X.outer) y (.ref C) a0 s.heap->Inv X pins σ H s ->
  (∀ h',B.StaysIn h'->s.heap.UpToSlots h'->Inv X pins σ H { s with heap:=h' })->th C D σ H->wpAny (model X.prog X.w) X.A (handleBy (.ref y) X.env hs) (SP X pins D) X.xe s
section
variable {X : Cx} {cx : Str} {C' : Addr} {ts : TS} {th : Addr -> TS} {np hpos pos : Pos} {b₀ : Stmt} {suite body : List Stmt} {Qf hs : List ExceptHandler} {h₀ : ExceptHandler} {tb : St -> XK -> TS}
theorem isx {B:Heap} {l:List Env} {y:Addr} {a0:Value} (fl:Heap.FlyingW B l y (.ref C) a0 h):zDr y C h:=by
 obtain ⟨_,_,_,oe,vs,_,_,_,h1,⟨h2,_⟩,h3,_⟩:=fl
 exact ⟨oe,h1,h2,vs,h3⟩
def zEh (tb:St->XK->TS) (th:Addr->TS):TS:=fun D σ H=>∃ σc,tb σc (fun cls _ H2=>∃ C,cls = .ref C/\th C D σc H2) D σ H
theorem zCB (hst:X.stack=X.env::X.outer) (hfr:X.env.frame=some X.env.locals) (hb : ∀ pins σc E,PSs (X.tr pins σc E) body (tb σc E)) (hh:PHs X (h₀::hs) th):PS X (.Try body (h₀::hs) [] [] pos) (zEh tb th):=by
 intro pins s σ H D I h
 obtain ⟨σc,h⟩:=h
 refine wpAny_Try_except (wpAny_mono (hb pins σc _ [] s σ H D I.tr h) (fun f s1 q=>?_) fun er s' z=>?_)
 ·cases f with
  | next=>exact wpAny_execs_nil q.untr
  | ret u=>exact q.untr
  | brk=>exact q.untr
  | cont=>exact q.untr
 ·obtain ⟨H1,s1,I1,fl⟩:=z
  obtain ⟨y,C,a0,H2,B,rfl,hos,hbare,fly,clo,hy0,hy2,C0,z0,q⟩:=fl
  cases z0
  rw [hst] at fly
  refine wpAny_looks_onW (I.ok.frames.trans (congrArg some hst)) hfr fly fun h1 held sm1=>?_
  refine wpAny_landsW held fun h2 fly2 sm2=>?_
  have cl : ∀ h',B.StaysIn h'->h2.UpToSlots h'->Inv X pins σc H2 { s' with heap:=h' }:=fun h' st sm=>by
   have c:=clo h' st ((sm1.trans sm2).trans sm)
   exact I1.call' (s':={ s' with heap:=h' }) hos c.1 c.2 hbare (fun b z=>nomatch z)
  have c2:=clo h2 fly2.1 (sm1.trans sm2)
  have I2:Inv X pins σc H2 { s' with heap:=h2 }:=I1.call' (s':={ s' with heap:=h2 }) hos c2.1 c2.2 hbare (fun b z=>nomatch z)
  exact hh pins { s' with heap:=h2 } σc H2 D y C B a0 fly2 I2 cl q
theorem zEY {D:kD} (σc:St) (h:tb σc (fun cls _ H2=>∃ C,cls = .ref C/\th C D σc H2) D σ H):zEh tb th D σ H:=⟨σc,h⟩
end
section
variable {X : Cx} {pins0 : List (Addr × Obj)} {σc : St} {k n : Nat} {C : Addr} {ps : List Str} {sp : Sp} {E : XK} {x m : Str} {p np pos apos : Pos} {e o : Expr} {es : List Expr} {ta : TE} {t : TA}
def Wz (sp:Sp) (E:XK) (σc:St) (t:TA):TE:=fun σ H Q=>t σ H fun vs H1=>Wk σc σ/\sp (vs++[]) H1 Q E
theorem zCN {pins:List (Addr × Obj)} {s:Shared} {us:List Value} {vs:List V} {f:Addr} (F:xG X.prog X.w X.K X.mg X.base (CXE X.prog X.w) k f fd ps sp) (hr:xA k X.A) (hb:xJ X.K fd ps [])
  (I:Inv (X.tr pins0 σc E) pins σ H s) (r:z9 vs us) (wk:Wk σc σ) (h:sp (vs++[]) H Q E):wpAny (model X.prog X.w) X.A (call (.ref f) us) (EP (X.tr pins0 σc E) pins σ Q) (X.tr pins0 σc E).xe s:=by
 have r2:z9 (vs++[]) (us++[]):=r.append .nil
 have hl:(us++[]).length=ps.length:=by rw [<- r2.length];exact F.len _ _ _ _ h
 have e0:VV X.prog X.w X.K X.mg X.base X.A X.stack s H:=I.env0
 refine wpAny_call (codeAny_mono (F.run X.A X.stack s H ⟨us,[]⟩ (us++[]) (vs++[]) Q E hr e0 (hb s us I.kIn hl) r2 h) fun r s' hq=>?_)
 cases r with
 | error e=>exact ⟨H,s,I.untr.weak wk.1 wk.2,hq⟩
 | ok fl =>
  cases fl with
  | ret u=>exact I.after hq
  | next=>exact False.elim hq
  | brk=>exact False.elim hq
  | cont=>exact False.elim hq
theorem Yg (F:zEr X.prog X.w X.K X.mg X.base x k ps sp) (hr:xA n X.A) (hg:Gl X x) (ha:PA (X.tr pins0 σc E) (e::es) t) (hk:k<=n:=by decide)
  (hdb:(x == ("__debug__" : Str))=false:=by decide) (he:starEach (e::es) X.env=(false,eval e X.env)::starEach es X.env:=by rfl) (hpl:(backTo pos (starEach es X.env)).any (·.1)=false:=by rfl) :
  PE (X.tr pins0 σc E) (.Call (.Name x p) (e::es) [] pos) (Wz sp E σc t):=by
 intro pins s σ H Q I h
 obtain ⟨f,fd,G,hm,kp,b⟩:=F
 refine wpAny_Call_Name_kw (jB I hg hm ?_ hdb)
 refine W.callWith_K (h₀:=X.base) I.ok.mod.kin kp (thn (ha pos pins s σ H _ I h) fun us s1 ⟨vs,H1,I1,r,q⟩=>⟨I1.kIn,?_⟩) he hpl
 exact zCN (G.mono hk) hr b I1 r q.1 q.2
variable {σ : St} {H : Hp} {Q : VK}
theorem zC1 (h:t σ H fun vs H1=>Wk σc σ/\sp (vs++[]) H1 Q E):Wz sp E σc t σ H Q:=h
theorem zHo {R:Prop} (h:Wk σc σ) (q:R):Wk σc σ/\R:=⟨h,q⟩
end
section
variable {X : Cx} {tg : Expr}
def QK (z:Str) (lo hi:Option Int) (st:Int):List Nat:=(Builtin.Str.strSliceIndices lo hi st z.length).filterMap ((Lt z)[·]?)
def zH3:V->Option Int->Option Int->Int->Hp->VK->Prop:=fun x lo hi st H Q=>∃ z:Str,x = .str z/\st≠0/\z.length<=sizeLine/\(QK z lo hi st).length<=sizeLine /\ ∀ y,(y=T (QK z lo hi st)\/(st=1/\y=z))->Q (.str y) H
def zHC (r:V->Option Int->Option Int->Int->Hp->VK->Prop) (te:TE) (tl th:TO) (ts:TE):TE:=fun σ H Q=>te σ H fun x H1=>tl σ H1 fun l H2=>th σ H2 fun u H3=>ts σ H3 fun s H4=>∃ i,s = .int i/\r x l u i H4 Q
theorem Kq {v:Value} {o:Option Int} (p:IsPart v o) : ∃ l:Option (Int × Tok),v=partValue l/\l.map (·.1)=o:=by
 cases p with
 | none=>exact ⟨none,rfl,rfl⟩
 | int i t=>exact ⟨some (i,t),rfl,rfl⟩
variable {te:TE}
theorem Wm {st:Expr} {lo hi:Option Expr} {ts:TE} {tl th:TO} {p2:Pos} (he:PE X e te) (hl:PO X lo tl) (hu:PO X hi th) (hs:PE X st ts):PE X (.Subscript e (.Slice lo hi (some st) p2) pos) (zHC zH3 te tl th ts):=by
 intro pins s σ H Q I h
 refine Subscript_ (thn (he pins s σ H _ I h) fun v s1 zq=>?_)
 obtain ⟨x,H1,I1,r1,q1⟩:=zq
 refine wpAny_Slice (thn (hl pins s1 σ H1 _ I1 q1) fun vl s2 ⟨l,H2,I2,pl,q2⟩=>thn (hu pins s2 σ H2 _ I2 q2) fun vu s3 zq=>?_)
 obtain ⟨u,H3,I3,pu,q3⟩:=zq
 refine thn (hs pins s3 σ H3 _ I3 q3) fun vs s4 zq=>?_
 obtain ⟨y,H4,I4,r4,i,ey,z,ex,hst,hz,hzp,q4⟩:=zq
 subst ey ex
 obtain ⟨t,rfl⟩:=r1
 obtain ⟨t4,rfl⟩:=r4
 obtain ⟨l',rfl,hl'⟩:=Kq pl
 obtain ⟨u',rfl,hu'⟩:=Kq pu
 have I5:Inv X pins σ H4 { s4 with heap:=s4.heap.push { cls:=.type "slice", data:=.fields #[partValue l',partValue u',.int i t4] } }:=I4.kept (t':=s4.toks) fun b ob q=>Heap.get?_push_of_some _ q
 show wpAny (model X.prog X.w) X.A (subscriptTail e (.Slice lo hi (some st) p2) (.str z t) (.ref s4.heap.objs.size)) (EP X pins σ Q) X.xe { s4 with heap:=s4.heap.push { cls:=.type "slice", data:=.fields #[partValue l',partValue u',.int i t4] } }
 refine tail_any (ops:=[.ref s4.heap.objs.size,.str z t]) (typeIs_str _ _ _) PySem.F.slot_str_getitem.lookup ?_ (by with_unfolding_all rfl)
 refine wpAny_getItem_str_slice (l:=l') (u:=u') (st:=some (i,t4)) ⟨_,Heap.get?_push_size _ rfl,rfl,rfl⟩ (by simpa using hst) ?_
 have e:slicePicked z l' u' (some (i,t4))=Builtin.Str.strSliceIndices l u i z.length:=by unfold slicePicked;rw [hl',hu'];rfl
 unfold sliceMade
 rw [e]
 have ep:(⟨((Builtin.Str.strSliceIndices l u i z.length).filterMap (z.cps[·]?)).toArray⟩:Str)=T (QK z l u i):=by
  unfold QK T;congr 3;funext k;simp [Lt]
 rw [ep]
 refine post_val_or_str ⟨?_,fun t' k=>⟨.str _,H4,I5.tok _,⟨t',rfl⟩,q4 _ ?_⟩⟩
 ·split
  ·exact hz
  ·exact hzp
 ·split
  ·rename_i hc
   rw [Bool.and_eq_true] at hc
   exact .inr ⟨by simpa using hc.1,rfl⟩
  ·exact .inl rfl
theorem zGt {r:V->Option Int->Option Int->Int->Hp->VK->Prop} {ts:TE} {tl th:TO} (h:te σ H fun x H1=>tl σ H1 fun l H2=>th σ H2 fun u H3=>ts σ H3 fun s H4=>∃ i,s = .int i/\r x l u i H4 Q):zHC r te tl th ts σ H Q:=h
theorem WQ {is:List Nat} {tt:TT} (h1 : -(2 ^ 62)<=j) (h2:j < 2 ^ 62) (hz:j.toNat<=sizeLine) (Pv:Nat->List V->Hp->Prop) (h0:Pv 0 [] H) (hl : ∀ i ys H,i<=j.toNat->Pv i ys H->ys.length<=i)
  (hs : ∀ i ys H,i < j.toNat->Pv i ys H->tt (some (.int (0+i))::is.map fun j=>(σ[j]?).getD none) H fun ok H2=>if ok=true then te (some (.int (0+i))::is.map fun j=>(σ[j]?).getD none) H2 fun y H3=>NxC j.toNat Pv i (ys++[y]) H3 else NxC j.toNat Pv i ys H2)
  (hd : ∀ ys H,Pv j.toNat ys H -> ∀ p H',zY H H'->H p=none->H' p=some (.lst ys)->Q (.ref p) H'):zB3 is tt te σ Q [.int j] H:=by
 refine ⟨j,rfl,h1,h2,fun i m ys H=>m=j.toNat - i/\i<=j.toNat/\Pv i ys H,⟨j.toNat,by simp,Nat.zero_le _,h0⟩,?_⟩
 rintro i m ys H ⟨rfl,hi,p⟩
 have ly:=hl i ys H hi p
 refine ⟨by omega,?_⟩
 by_cases hlt:i < j.toNat
 ·refine .inr ⟨hlt,by omega,fun x H' y=>?_⟩
  obtain ⟨e,y⟩:=y
  subst e y
  exact hs i ys _ hlt p
 ·have e:i=j.toNat:=by omega
  subst e
  exact .inl ⟨Nat.le_refl _,fun p' hp=>hd ys H p p' _ (jM hp _) hp zQ⟩
end
def qZ (K:W.Frag) (C:Addr):List Str->Prop
 | []=>True
 | f::r=>xv K C f/\qZ K C r
theorem qZ.at {f:Str} : ∀ {l:List Str},qZ K C l->f ∈ l->xv K C f
 | [],_,h=>by cases h
 | g::r,n,h=>by
  rcases List.mem_cons.mp h with rfl | h
  ·exact n.1
  ·exact n.2.at h
def bfs (wd:Int) (f:Nat) (x:Str) (st:Bool) (more:List (Str × V)):List (Str × V):=("width", .int wd)::("fill", .str (T [f]))::("side", .str x)::("strict", .bl st)::more
def bns:List Str:=["width", "fill", "side", "strict"]
structure zX (K:W.Frag) (H:Hp) (a C:Addr) (wd:Int) (f:Nat) (x:Str) (st:Bool) (more:List (Str × V)):Prop where
 at_ : ∃ dx,H a=some (.ins C dx (bfs wd f x st more))
 cl:Cls K C
 na:qZ K C (bns++more.map (·.1))
section
variable {K : W.Frag} {H H' : Hp} {a C : Addr} {wd : Int} {f : Nat} {x : Str} {st : Bool} {more : List (Str × V)} {g m : Str} {v : V}
theorem zX.same (s:zY H H') (F:zX K H a C wd f x st more):zX K H' a C wd f x st more:=⟨F.at_.imp fun _ e=>s _ _ e,F.cl,F.na⟩
theorem KI:(bfs wd f x st more).lookup ("width" : Str)=some (.int wd):=yr
theorem zBG:(bfs wd f x st more).lookup ("fill" : Str)=some (.str (T [f])):=(qF (by decide +kernel)).trans yr
theorem W8:(bfs wd f x st more).lookup ("side" : Str)=some (.str x):=(qF (by decide +kernel)).trans ((qF (by decide +kernel)).trans yr)
theorem Y5:(bfs wd f x st more).lookup ("strict" : Str)=some (.bl st):=(qF (by decide +kernel)).trans ((qF (by decide +kernel)).trans ((qF (by decide +kernel)).trans yr))
theorem YV (h:g ∉ bns):(bfs wd f x st more).lookup g=more.lookup g:=by
 simp only [bns,mem_cons,List.not_mem_nil,or_false,not_or] at h
 exact (qF h.1).trans ((qF h.2.1).trans ((qF h.2.2.1).trans (qF h.2.2.2)))
theorem zX.fld (F:zX K H a C wd f x st more) (n:g ∈ bns++more.map (·.1)) (l:(bfs wd f x st more).lookup g=some v):jv K H a g v:=by
 obtain ⟨dx,e⟩:=F.at_
 exact ⟨C,dx,_,e,F.cl,F.na.at n,l⟩
theorem zX.width (F:zX K H a C wd f x st more):jv K H a "width" (.int wd):=F.fld (mem_append_left _ (by decide +kernel)) KI
theorem zX.fill (F:zX K H a C wd f x st more):jv K H a "fill" (.str (T [f])):=F.fld (mem_append_left _ (by decide +kernel)) zBG
theorem zX.side (F:zX K H a C wd f x st more):jv K H a "side" (.str x):=F.fld (mem_append_left _ (by decide +kernel)) W8
theorem zX.strict (F:zX K H a C wd f x st more):jv K H a "strict" (.bl st):=F.fld (mem_append_left _ (by decide +kernel)) Y5
theorem zX.own (F:zX K H a C wd f x st more) (h:g ∉ bns) (l:more.lookup g=some v) (n:g ∈ more.map (·.1)):jv K H a g v:=F.fld (mem_append_right _ n) ((YV h).trans l)
theorem zX.meth (F:zX K H a C wd f x st more) (h:m ∉ bns) (l:more.lookup m=none):zBc H a C m:=by
 obtain ⟨dx,e⟩:=F.at_
 exact ⟨dx,_,e,(YV h).trans l⟩
theorem jZ (h:g ∉ bns):ZC g v (bfs wd f x st more)=bfs wd f x st (ZC g v more):=by
 simp only [bns,mem_cons,List.not_mem_nil,or_false,not_or] at h
 unfold bfs
 rw [za (Ne.symm h.1),za (Ne.symm h.2.1),za (Ne.symm h.2.2.1),za (Ne.symm h.2.2.2)]
end
theorem xn {f:Str} {ta:TE} (hK:X.K=K) (he:PE X e ta) (hb:attributeBase e f X.env (eval e X.env)=eval e X.env):PE X (.Attribute e f pos) (zG2 K ta f):=hK ▸ jb he hb
section
variable {X : Cx} {K : W.Frag} {σ : St} {H : Hp} {Q : VK} {is : List Nat} {tt : TT} {te : TE}
theorem VA (bs:List Bool):((List.range bs.length).all fun i=>(bs[i]?).getD true)=bs.all id:=by
 rw [Bool.eq_iff_iff,List.all_eq_true,List.all_eq_true]
 constructor
 ·intro h b hb
  obtain ⟨i,hi,rfl⟩:=List.getElem_of_mem hb
  have:=h i (List.mem_range.mpr hi)
  simpa [getElem?_eq_getElem hi] using this
 ·intro h i hi
  have hi':=List.mem_range.mp hi
  have:=h _ (getElem_mem hi')
  simpa [getElem?_eq_getElem hi'] using this
def zHF (K:W.Frag):List V->Hp->VK->Prop:=fun xs H Q=>∃ (p:Addr) (bs:List Bool),xs=[.ref p]/\SqL K H p (bs.map V.bl)/\Q (.bl (bs.all id)) H
theorem WA (hc:X.calm=true):jx X (.builtin "all") (zHF X.K):=by
 intro pins s σ H xs us Q I r h
 obtain ⟨p,bs,rfl,hp,q⟩:=h
 obtain ⟨u,rfl,ru⟩:=r.one
 cases ru
 obtain ⟨its,ri,pl,hz⟩:=I.list hp
 have hl:=pl.isList
 have hlt:p < s.heap.objs.size:=by obtain ⟨_,e,_⟩:=hl;exact Heap.lt_size e
 have hlen:its.length=bs.length:=by have:=ri.length;rw [length_map] at this;exact this.symm
 refine call_all_walk (wpAny_pyIter_list hl ?_)
 refine ⟨s.heap.objs.size,[s.heap.objs.size,p],[s.heap.objs.size],its.toArray.size,_,_,fun i=>(bs[i]?).getD true,rfl,Walks.list (A:=X.A.in1) (I.ok.hd hc) _ p (ne_of_lt hlt) its.toArray,
  ⟨⟨_,Heap.get?_push_size _ rfl,rfl,rfl⟩,hl.push _⟩,fun i v s' Q' E' hP hQ=>?_,fun h' tk hk=>?_⟩
 ·have hP':its[i]? = some v:=by simpa using hP
  have hi:i < bs.length:=by
   rcases lt_or_ge i its.length with z | z
   ·omega
   ·rw [List.getElem?_eq_none z] at hP';cases hP'
  obtain ⟨u,hu,ru⟩:=ri.get (i:=i) (x:=.bl bs[i]) (by rw [getElem?_map,getElem?_eq_getElem hi];rfl)
  rw [hP'] at hu;cases hu
  cases ru
  simp only [getElem?_eq_getElem hi,Option.getD_some] at hQ
  exact wpAny_truthy_bool hQ
 ·have e:((List.range its.toArray.size).all fun i=>(bs[i]?).getD true)=bs.all id:=by
   rw [List.size_toArray,hlen];exact VA bs
  rw [e]
  exact ⟨.bl _,H,I.kept fun b x eb=>hk b x (fun hm=>by rw [List.mem_singleton.mp hm] at eb;exact lt_irrefl _ (Heap.lt_size eb)) (Heap.get?_push_of_some _ eb),rfl,q⟩
theorem zG3 {p:Addr} {bs:List Bool} (h:SqL K H p (bs.map V.bl)) (q:Q (.bl (bs.all id)) H):zHF K [.ref p] H Q:=⟨p,bs,rfl,h,q⟩
theorem zFF {c:Nat} {a:List Nat} (q:Q (.bl (decide (c ∈ a))) H):zGG (.str (T [c])) (.str (T a)) H Q:=zFE (by
 have e:=PySem.StrLaws.found_one (T a) c
 rw [show (T [c])=(⟨#[c]⟩:Str) from rfl,e];exact q)
theorem zD4:bootBuiltins "all" = some (.builtin "all"):=by decide +kernel
def zBj (is:List Nat) (tt:TT) (te:TE) (σ:St) (Q:VK) (x:V) (H:Hp):Prop:=∃ z:Str,x = .str z/\V6 is tt te σ Q (Its z) H
theorem zDJ {tl:TE} (h:tl σ H (zBj is tt te σ Q)):Vi is (zG0 tl) tt te σ H Q:=h
theorem JU {a:List Nat} (hz:a.length<=sizeLine) (Pv:Nat->List V->Hp->Prop) (h0:Pv 0 [] H) (hl : ∀ i ys H,i<=a.length->Pv i ys H->ys.length<=i)
  (hs : ∀ i c ys H,a[i]? = some c->i < a.length->Pv i ys H->tt (some (.str (T [c]))::is.map fun j=>(σ[j]?).getD none) H fun ok H2=>if ok=true then te (some (.str (T [c]))::is.map fun j=>(σ[j]?).getD none) H2 fun y H3=>NxC a.length Pv i (ys++[y]) H3 else NxC a.length Pv i ys H2)
  (hd : ∀ ys H,Pv a.length ys H -> ∀ p H',zY H H'->H' p=some (.lst ys)->Q (.ref p) H'):zBj is tt te σ Q (.str (T a)) H:=by
 refine ⟨T a,rfl,fun i m ys H=>m=a.length - i/\i<=a.length/\Pv i ys H,⟨a.length,by simp,Nat.zero_le _,h0⟩,?_⟩
 rintro i m ys H ⟨rfl,hi,p⟩
 have ly:=hl i ys H hi p
 refine ⟨by omega,?_⟩
 by_cases hlt:i < a.length
 ·refine .inr ⟨hlt,by omega,fun x H' y=>?_⟩
  obtain ⟨rfl,c,hc,rfl⟩:=y
  exact hs i c ys _ hc hlt p
 ·have e:i=a.length:=by omega
  subst e
  exact .inl ⟨rfl,fun p' hp=>hd ys H p p' _ (jM hp _) zQ⟩
end
mutual
inductive Dt (K:W.Frag) (H:Hp):V->PyData->Prop
 | non:Dt K H .non .none
 | bl (b:Bool):Dt K H (.bl b) (.bool b)
 | int (i:Int):Dt K H (.int i) (.int i)
 | str (z:Str):Dt K H (.str z) (.str z)
 | lst {p:Addr} {xs:List V} {ds:List PyData}:SqL K H p xs->Dts K H xs ds->Dt K H (.ref p) (.list ds)
 | tup {p:Addr} {xs:List V} {ds:List PyData}:SqT K H p xs->Dts K H xs ds->Dt K H (.ref p) (.tuple ds)
inductive Dts (K:W.Frag) (H:Hp):List V->List PyData->Prop
 | nil:Dts K H [] []
 | cons {x:V} {d:PyData} {xs:List V} {ds:List PyData}:Dt K H x d->Dts K H xs ds->Dts K H (x::xs) (d::ds)
end
section
variable {X : Cx} {pins : List (Addr × Obj)} {σ : St} {H H' : Hp} {s : Shared} {K : W.Frag} {Q : VK}
mutual
theorem Qz (I:Inv X pins σ H s) : ∀ {x:V} {d:PyData} {u:Value},Dt X.K H x d->jO x u -> ∃ as,Reads s.heap u d as
 | _,_,_,.non,r=>by cases r;exact ⟨_,.none⟩
 | _,_,_,.bl b,r=>by cases r;exact ⟨_,.bool b⟩
 | _,_,_,.int i,r=>by obtain ⟨t,rfl⟩:=r;exact ⟨_,.int i t⟩
 | _,_,_,.str z,r=>by obtain ⟨t,rfl⟩:=r;exact ⟨_,.str z t⟩
 | _,_,_,.lst h hs,r=>by
  cases r
  obtain ⟨its,ri,pl,_⟩:=I.list h
  obtain ⟨as,q⟩:=yq I hs ri
  obtain ⟨o,e,c,n,d⟩:=pl.isList
  exact ⟨_,.list e c d (by simpa using q)⟩
 | _,_,_,.tup h hs,r=>by
  cases r
  obtain ⟨its,ri,pl,_⟩:=I.tuple h
  obtain ⟨as,q⟩:=yq I hs ri
  obtain ⟨o,e,c,n,d⟩:=pl
  exact ⟨_,.tuple e c d (by simpa using q)⟩
theorem yq (I:Inv X pins σ H s) : ∀ {xs:List V} {ds:List PyData} {us:List Value},Dts X.K H xs ds->z9 xs us -> ∃ as,ReadsAll s.heap us ds as
 | _,_,_,.nil,.nil=>⟨_,.nil⟩
 | _,_,_,.cons h hs,.cons r rs=>by
  obtain ⟨as,q⟩:=Qz I h r
  obtain ⟨bs,qs⟩:=yq I hs rs
  exact ⟨_,.cons q qs⟩
end
mutual
theorem Dt.same (g:zY H H') : ∀ {x:V} {d:PyData},Dt K H x d->Dt K H' x d
 | _,_,.non=>.non
 | _,_,.bl b=>.bl b
 | _,_,.int i=>.int i
 | _,_,.str z=>.str z
 | _,_,.lst h hs=>.lst (g.seq h) (Dts.same g hs)
 | _,_,.tup h hs=>.tup (SqT.same h g) (Dts.same g hs)
theorem Dts.same (g:zY H H') : ∀ {xs:List V} {ds:List PyData},Dts K H xs ds->Dts K H' xs ds
 | _,_,.nil=>.nil
 | _,_,.cons h hs=>.cons (Dt.same g h) (Dts.same g hs)
end
def zHU (K:W.Frag):R2:=fun x y H Q=>∃ d,Dt K H x d/\Dt K H y d/\d.canLay0=true/\d.depth<=20/\Q (.bl false) H
theorem zF3 (hu:X.A.units+20 < cLine):OpR X (compareOp .NotEq) (zHU X.K):=by
 intro pins s σ H x y v u Q I rx ry h
 obtain ⟨d,h1,h2,c,dp,q⟩:=h
 obtain ⟨as,r1⟩:=Qz I h1 rx
 obtain ⟨bs,r2⟩:=Qz I h2 ry
 refine SeqAt.compareNe_reads r1 r2 c c (by rw [Nat.min_self];omega) ⟨.bl _,H,I,rfl,?_⟩
 rw [SeqAt.eqv_refl d c];exact q
theorem zHu {A:Around} (hr:xA k A):A.units+20 < cLine:=Nat.lt_of_le_of_lt (Nat.add_le_add_left (by decide:20<=64) _) hr.units
theorem zFv {x y:V} {d:PyData} (h1:Dt K H x d) (h2:Dt K H y d) (c:d.canLay0=true) (dp:d.depth<=20) (q:Q (.bl false) H):zHU K x y H Q:=⟨d,h1,h2,c,dp,q⟩
end
end L2
namespace L2
open PySem PySem.Spec PyProof.Rows
open List (append_assoc drop_drop extract_eq_drop_take getElem?_drop getElem?_eq_getElem getElem?_map length_append length_drop length_map length_singleton length_take map_cons map_id map_map mem_of_getElem? mem_of_mem_drop mem_of_mem_take take_append_drop)
open Nat (add_zero le_succ lt_or_ge ne_of_lt)
section
variable {X : Cx} {H : Hp} {Q : VK} {K : W.Frag}
def KF:V->List V->Hp->VK->Prop:=fun x vs H Q=>∃ (l:Addr) (zs:List Str) (z:Str) (j:Nat),x = .ref l/\vs=[.str z]/\H l=some (.lst (zs.map V.str))/\zs[j]? = some z/\(∀ m,m < j->zs[m]? ≠ some z)/\j < 1000/\Q (.int j) H
theorem W1:MtM X "list.index" KF:=by
 intro pins s σ H x vs v us Q I rx rv h
 obtain ⟨l,zs,z,j,rfl,rfl,hH,hj,hno,hj1,q⟩:=h
 cases rx
 obtain ⟨u,rfl,ru⟩:=rv.one
 obtain ⟨_,its,n,r,hl,e⟩:=I.lstM hH
 have fl:(zs.map V.str).all QL=true:=by
  rw [List.all_eq_true];intro x hx
  obtain ⟨l,_,rfl⟩:=List.mem_map.mp hx
  rfl
 have it : ∀ (m:Nat) (hm:m < its.toArray.size),∃ (y:Str) (t:Tok),zs[m]? = some y/\its.toArray[m] = .str y t:=fun m hm=>by
  have hm':m < its.length:=by simpa using hm
  have hz:m < zs.length:=by have:=r.length;rw [length_map] at this;omega
  obtain ⟨w,hw,rw'⟩:=r.get (i:=m) (x:=.str zs[m]) (by rw [getElem?_map,getElem?_eq_getElem hz];rfl)
  obtain ⟨t,rfl⟩:=rw'
  refine ⟨zs[m],t,getElem?_eq_getElem hz,?_⟩
  rw [getElem?_eq_getElem hm'] at hw
  simpa using Option.some.inj hw
 have hjz:j < its.toArray.size:=by
  have:=r.length;rw [length_map] at this
  rcases lt_or_ge j zs.length with z1 | z1
  ·simp;omega
  ·rw [List.getElem?_eq_none z1] at hj;cases hj
 refine call_meets F.slot_list_index ⟨_,e,rfl⟩ F.entry_list_index (F.args_list_index_2 _ _) (SeqAt.list_indexAt l its.toArray n none #[] u (eqU (.str z)) j hjz (by omega) ?_ fun m hm hmj=>?_) ⟨e,fun y hy=>ZJ ru rfl r fl y (by simpa using hy),⟨.int j,H,I.tok _,⟨_,rfl⟩,q⟩⟩
 ·obtain ⟨y,t,h1,h2⟩:=it j hjz
  rw [hj] at h1;cases h1
  rw [h2]
  show (z == z)=true
  simp
 ·obtain ⟨y,t,h1,h2⟩:=it m hm
  rw [h2]
  show (y == z)=false
  simpa using fun ee=>hno m hmj (by rw [h1,ee])
theorem zAV {l:Addr} {zs:List Str} {z:Str} (j:Nat) (h:H l=some (.lst (zs.map V.str))) (hj:zs[j]? = some z) (hno : ∀ m,m < j->zs[m]? ≠ some z) (hj1:j < 1000) (q:Q (.int j) H):KF (.ref l) [.str z] H Q:=⟨l,zs,z,j,rfl,rfl,h,hj,hno,hj1,q⟩
end
def RsA (H:Hp) (v:V) (d:PyData):Prop:=(∃ z:Str,v = .str z/\d = .str z) \/ ∃ (q:Addr) (z:Str),v = .ref q/\H q=some (.tup [.str z])/\d = .tuple [.str z]
section
variable {H H' : Hp} {v : V} {d : PyData} {K : W.Frag}
theorem RsA.same (g:zY H H') (h:RsA H v d):RsA H' v d:=by
 rcases h with ⟨z,a,b⟩ | ⟨q,z,a,e,b⟩
 ·exact .inl ⟨z,a,b⟩
 ·exact .inr ⟨q,z,a,g _ _ e,b⟩
end
variable {l:List Nat}
theorem zHh (h:Asc l):PyData.strOk (T l)=true:=by
 unfold PyData.strOk
 show (l.toArray.all fun c=>decide (c < 0x110000))=true
 rw [Array.all_eq_true_iff_forall_mem]
 intro c hc
 have:=h c (by simpa using hc)
 exact decide_eq_true (by omega)
variable {a:List Nat}
theorem VJ {s st:Int} (h0:0<=s) (h1:s < a.length) (h2:1<=st):QK (T a) (some s) none st≠[]/\(∀ c ∈ QK (T a) (some s) none st,c ∈ a)/\((QK (T a) (some s) none st).length:Int)<=a.length+st:=by
 have e:Builtin.Str.strSliceIndices (some s) none st (T a).length=(List.range (((a.length:Int) - s+st - 1) / st).toNat).map fun k:Nat=>(s+st*(k:Int)).toNat:=by
  have l:((T a).length:Int)=a.length:=rfl
  unfold Builtin.Str.strSliceIndices
  dsimp only
  rw [l,if_neg (show ¬ s < 0 by omega),if_pos (show st > 0 by omega),if_pos (show st > 0 by omega),Int.min_eq_left (by omega),Int.max_eq_right h0]
  unfold sliceRange
  rw [if_pos (show st > 0 by omega),if_pos h1]
 have hc:1<=((a.length:Int) - s+st - 1) / st:=Int.le_ediv_of_mul_le (by omega) (by omega)
 have hc2:((a.length:Int) - s+st - 1) / st<=(a.length:Int) - s+st - 1:=Int.ediv_le_self _ (by omega)
 unfold QK
 rw [e,QG]
 refine ⟨fun z=>?_,fun c hcm=>?_,?_⟩
 ·rw [List.filterMap_eq_nil_iff] at z
  have:=z (s+st*((0:Nat):Int)).toNat (List.mem_map.mpr ⟨0,List.mem_range.mpr (by omega),rfl⟩)
  rw [show (s+st*((0:Nat):Int)).toNat=s.toNat by simp,getElem?_eq_getElem (by omega)] at this
  cases this
 ·obtain ⟨i,_,hi⟩:=List.mem_filterMap.mp hcm
  exact mem_of_getElem? hi
 ·have:=List.length_filterMap_le (fun x=>a[x]?) ((List.range (((a.length:Int) - s+st - 1) / st).toNat).map fun k:Nat=>(s+st*(k:Int)).toNat)
  rw [length_map,List.length_range] at this
  omega
variable {X:Cx} {x:Str} {k n:Nat} {ps:List Str} {sp:Sp} {pos:Pos}
theorem ZT {p:Pos} (F:Has X.prog X.w X.K X.mg X.base x k ps sp) (hr:xA n X.A) (hg:Gl X x) (hk:k<=n:=by decide) (hdb:(x == ("__debug__" : Str))=false:=by decide) :
  PE X (.Call (.Name x p) [] [] pos) (Xn sp [] E0 zGF):=by
 obtain ⟨f,fd,G,hm,kp,hb⟩:=F
 exact zA4 G (hr.mono hk) hg hm kp hb .nil jg hdb
section
variable {X : Cx} {pos : Pos}
def zFO (i j k:Nat) (ta:TA):TS:=fun D σ H=>ta σ H fun vs H1=>∃ v1 v2 v3,vs=[v1,v2,v3]/\D.nx (((σ.set k (some v3)).set j (some v2)).set i (some v1)) H1
variable {i j:Nat}
theorem zDl {y z:Str} {a b c:Expr} {ta:TA} {px py pz pt:Pos} {kt k2 pt2} (hc:X.calm=true) (hN:X.N.Nodup) (hi:X.N[i]? = some x) (hj:X.N[j]? = some y) (hk:X.N[k]? = some z)
  (hx:X.env.scope.names.lookup x=some .local) (hy:X.env.scope.names.lookup y=some .local) (hz:X.env.scope.names.lookup z=some .local) (ha:PA X [a,b,c] ta)
  (hw:swappedStores [.Tuple [.Name x px,.Name y py,.Name z pz] kt pt] (.Tuple [a,b,c] k2 pt2) X.env=pure (some [x,y,z]))
  (hs:swapsWithSole [.Tuple [.Name x px,.Name y py,.Name z pz] kt pt] (.Tuple [a,b,c] k2 pt2) pos.line X.env=pure false:=by rfl) :
  PS X (.Assign [.Tuple [.Name x px,.Name y py,.Name z pz] kt pt] (.Tuple [a,b,c] k2 pt2) pos) (zFO i j k ta):=by
 intro pins s σ H D I h
 rw [exec_Assign_arm]
 refine wpAny_bind (wpAny_standAt ?_)
 rw [hs]
 refine wpAny_bind (wpAny_pure ?_)
 rw [if_neg (by decide)]
 refine wpAny_bind (Tuple_ (thn (ha _ pins s σ H _ I h) fun us s1 zq=>?_))
 obtain ⟨vs,H1,I1,r1,q1⟩:=zq
 obtain ⟨v1,v2,v3,e1,q1⟩:=q1
 subst e1
 obtain ⟨u1,u2,u3,rfl,rv1,rv2,rv3⟩ : ∃ u1 u2 u3,us=[u1,u2,u3]/\jO v1 u1/\jO v2 u2/\jO v3 u3:=by
  cases r1 with
  | cons p q =>
   cases q with
   | cons p' q' =>
    cases q' with
    | cons p'' q'' =>
     cases q''
     exact ⟨_,_,_,rfl,p,p',p''⟩
 refine wpAny_newObj_type ?_ (by show 3<=sizeLine;decide)
 have I2:Inv X pins σ H1 { s1 with heap:=s1.heap.push { cls:=.type "tuple", data:=.seq [u1,u2,u3].toArray } }:=I1.kept (t':=s1.toks) fun b o e=>Heap.get?_push_of_some _ e
 rw [hw]
 refine wpAny_bind (wpAny_pure ?_)
 show wpAny (model X.prog X.w) X.A (do rule "assign.swapped-stores"; let items <- unpackItems (.ref s1.heap.objs.size) 3 none;assignInOrder [fun v=>bindName X.env z v,fun v=>bindName X.env y v,fun v=>bindName X.env x v] items.reverse;pure Flow.next) _ _ _
 refine wpAny_bind (wpAny_rule (wpAny_bind (unpackItems_tuple (items:=#[u1,u2,u3]) (I.ok.hd hc) (IsTup.new s1.heap _) fun h' hx'=>?_)))
 have I3:=I2.kept (h':=h') (t':=s1.toks) fun b o e=>hx' b o (ne_of_lt (Heap.lt_size e)) e
 show wpAny _ _ (assignInOrder [fun v=>bindName X.env z v,fun v=>bindName X.env y v,fun v=>bindName X.env x v] [u3,u2,u1] >>= fun _=>pure Flow.next) _ _ _
 refine wpAny_bind (assignInOrder_cons (wpAny_bindName (xt I3 hN hk (.inl hz) rv3 (fun s2 I4=>?_) (.inr hz))))
 refine assignInOrder_cons (wpAny_bindName (xt I4 hN hj (.inl hy) rv2 (fun s3 I5=>?_) (.inr hy)))
 refine assignInOrder_cons (wpAny_bindName (xt I5 hN hi (.inl hx) rv1 (fun s4 I6=>assignInOrder_nil (wpAny_pure ?_)) (.inr hx)))
 exact ⟨_,H1,I6,q1⟩
def zFV (i j k:Nat) (D:kD) (σ:St) (vs:List V) (H1:Hp):Prop:=∃ v1 v2 v3,vs=[v1,v2,v3]/\D.nx (((σ.set k (some v3)).set j (some v2)).set i (some v1)) H1
theorem zFU {ta:TA} {D:kD} {σ:St} {H:Hp} (h:ta σ H (zFV i j k D σ)):zFO i j k ta D σ H:=h
theorem zB8 {D:kD} {σ:St} {H:Hp} {v1 v2 v3:V} (h:D.nx (((σ.set k (some v3)).set j (some v2)).set i (some v1)) H):zFV i j k D σ [v1,v2,v3] H:=⟨v1,v2,v3,rfl,h⟩
end
def low (b:Nat):Nat->Nat->List Nat
 | 0,_=>[]
 | p+1,n=>low b p (n / b)++[fc (n % b)]
theorem KY (b:Nat) : ∀ p n,(low b p n).length=p
 | 0,_=>rfl
 | p+1,n=>by unfold low;rw [length_append,KY b p];rfl
theorem fc0:fc 0=48:=by decide +kernel
variable {b:Nat}
theorem JA (h2:2<=b):1<=(xh b n).length:=by
 rcases lt_or_ge n b with h | h
 ·rw [jL h,length_singleton];exact Nat.le_refl _
 ·rw [y8 h2 h,length_append,length_singleton];omega
variable {p:Nat}
theorem zBE (h2:2<=b):dgs b (p+1) n=dgs b p (n / b)++[fc (n % b)]:=by
 unfold dgs
 rcases lt_or_ge n b with h | h
 ·rw [jL h,Nat.div_eq_of_lt h,jL (by omega),Nat.mod_eq_of_lt h,fc0]
  rw [length_singleton,length_singleton,show p+1+1 - 1=p+1 by omega,show p+1 - 1=p by omega,List.replicate_succ']
 ·rw [y8 h2 h,length_append,length_singleton,show p+1+1 - ((xh b (n / b)).length+1)=p+1 - (xh b (n / b)).length by omega,append_assoc]
theorem Wc {b:Nat} (h2:2<=b) : ∀ p n,dgs b p n=xh b (n / b ^ p)++low b p n
 | 0,n=>by
  have:=JA (b:=b) (n:=n) h2
  unfold dgs low
  rw [show 0+1 - (xh b n).length=0 by omega,Nat.pow_zero,Nat.div_one,List.append_nil];rfl
 | p+1,n=>by
  rw [zBE h2,Wc h2 p,Nat.div_div_eq_div_mul,Nat.pow_succ,Nat.mul_comm (b ^ p) b,append_assoc];rfl
theorem K2 (h2:2<=b):whl b p n=xh b (n / b ^ p)/\rst b p n=low b p n:=by
 have l:=KY b p n
 unfold whl rst
 rw [Wc h2,length_append,l,Nat.add_sub_cancel]
 exact ⟨List.take_left' rfl,List.drop_left' rfl⟩
def pz (b p r:Nat):List Nat:=List.replicate (p - (xh b r).length) 48++xh b r
theorem zDA {r:Nat} (h2:2<=b) (hp:0 < p):pz b (p+1) r=pz b p (r / b)++[fc (r % b)]:=by
 unfold pz
 rcases lt_or_ge r b with h | h
 ·rw [jL h,Nat.div_eq_of_lt h,jL (by omega),Nat.mod_eq_of_lt h,fc0]
  obtain ⟨q,rfl⟩ : ∃ q,p=q+1:=⟨p - 1,by omega⟩
  rw [length_singleton,length_singleton,show q+1+1 - 1=q+1 by omega,show q+1 - 1=q by omega,List.replicate_succ']
 ·rw [y8 h2 h,length_append,length_singleton,show p+1 - ((xh b (r / b)).length+1)=p - (xh b (r / b)).length by omega,append_assoc]
theorem KG {b:Nat} (h2:2<=b) : ∀ p n,low b p n=low b p (n % b ^ p)
 | 0,n=>rfl
 | p+1,n=>by
  unfold low
  rw [KG h2 p (n / b)]
  have e1:n % b ^ (p+1) / b=n / b % b ^ p:=by rw [Nat.pow_succ,Nat.mul_comm,Nat.mod_mul_right_div_self]
  have e2:n % b ^ (p+1) % b=n % b:=Nat.mod_mod_of_dvd n (by rw [Nat.pow_succ];exact Nat.dvd_mul_left b (b ^ p))
  rw [e1,e2]
theorem zBn {b:Nat} (h2:2<=b) : ∀ p r,0 < p->r < b ^ p->low b p r=pz b p r
 | 1,r,_,h=>by
  rw [Nat.pow_one] at h
  unfold low pz low
  rw [jL h,Nat.mod_eq_of_lt h];rfl
 | p+2,r,_,h=>by
  rw [zDA h2 (by omega),<- zBn h2 (p+1) (r / b) (by omega) (Nat.div_lt_of_lt_mul (by rw [Nat.pow_succ,Nat.mul_comm] at h;exact h))]
  rfl
variable {z m:Nat}
theorem zC4 {pt:Nat} (h2:2<=b):bdy b p pt z m n=if p=0 then gr z m (xh b (n / b ^ p)) else gr z m (xh b (n / b ^ p))++[pt]++pz b p (n % b ^ p):=by
 unfold bdy
 rw [(K2 h2).1,(K2 h2).2]
 split
 ·rfl
 ·rename_i hp
  rw [KG h2,zBn h2 p _ (by omega) (Nat.mod_lt _ (Nat.pow_pos (by omega)))]
variable {K:W.Frag} {fd:FuncData} {it:Array Value}
theorem Vy {t:Addr} {oc:Value} {od:Option Addr} {osl:Array (Option Value)} (hl:K.lookup t=some ⟨oc,od,.seq it n,osl⟩) (hd:fd.defaults = .ref t)
  (h : ∀ us:List Value,us.length=ps.length -> ∃ k,bindArgs fd ⟨us,[]⟩=seqItems? fd.defaults >>= k/\k (some it)=pure (ps.zip us)):xJ K fd ps []:=fun s us hK hlen=>by
 rw [List.append_nil] at hlen ⊢
 obtain ⟨k,h1,h2⟩:=h us hlen
 exact .of_defaults hd (hK _ _ hl) rfl h1 h2
set_option maxHeartbeats 1000000
def C2 (h:Heap) (e:Addr):Prop:=∃ o vs,h.get? e=some o/\o.data = .fields vs/\vs[2]? = some .none
variable {h:Heap} {e:Addr} {oe:Obj} {vs:Array Value}
theorem xr {b:Addr} {o:Obj} (a:h.get? e=some oe) (d:oe.data = .fields vs) (q:h.get? b=some o) (n : ∀ us,o.data ≠ .fields us):b≠e:=by
 rintro rfl
 rw [a] at q
 cases q
 exact n vs d
variable {base:Heap} {a0:Value}
theorem VO {g:Heap} {l:List Env} {ob:Obj} {ts:Array Value} {fl:Value} (FF:h.FunFrames base l) (sg:Heap.SlotsOnly (l.filterMap (·.frame)) h g) (a1:h.get? e=some oe)
  (a2:base.StaysIn h) (a3:base.get? e=none) (a4:oe.data = .fields vs) (a5:1 < vs.size) (a6:vs[0]? = some a0) (a7:vs[2]? = some .none) (b1:ob.data = .fields ts) (b2:ts[3]? = some fl) :
  Heap.NotedW base l e oe.cls a0 fl h ((g.push ob).update e (Obj.mapFields (·.setIfInBounds 1 (Value.ref g.objs.size))))/\C2 ((g.push ob).update e (Obj.mapFields (·.setIfInBounds 1 (Value.ref g.objs.size)))) e:=by
 have nf:e ∉ l.filterMap (·.frame):=fun m=>by
  obtain ⟨_,o,q,n⟩:=FF.mem m
  exact xr a1 a4 q n rfl
 have g1:g.get? e=some oe:=(sg.2.1 e nf).trans a1
 have ne:g.objs.size≠e:=fun z=>Nat.lt_irrefl _ (z ▸ Heap.lt_size g1)
 have d1:(Obj.mapFields (·.setIfInBounds 1 (Value.ref g.objs.size)) oe).data=_:=Obj.data_mapFields a4 _
 have self:((g.push ob).update e (Obj.mapFields (·.setIfInBounds 1 (Value.ref g.objs.size)))).get? e=some (Obj.mapFields (·.setIfInBounds 1 (Value.ref g.objs.size)) oe):=
  Heap.get?_update_self _ (Heap.get?_push_of_some _ g1) (Obj.isFreed_of_fields d1)
 have kp : ∀ {b:Addr} {o:Obj},b≠e->g.get? b=some o->((g.push ob).update e (Obj.mapFields (·.setIfInBounds 1 (Value.ref g.objs.size)))).get? b=some o:=fun {b o} n q=>by
  rw [Heap.get?_update_other _ _ (Ne.symm n)];exact Heap.get?_push_of_some _ q
 have new:((g.push ob).update e (Obj.mapFields (·.setIfInBounds 1 (Value.ref g.objs.size)))).get? g.objs.size=some ob:=by
  rw [Heap.get?_update_other _ _ (Ne.symm ne)];exact Heap.get?_push_size g (Obj.isFreed_of_fields b1)
 have bg:base.StaysIn g:=fun b o q=>(sg.2.1 b fun m=>by rw [(FF.mem m).1] at q;cases q).trans (a2 b o q)
 have oth : ∀ b o,h.get? b=some o->(∀ us,o.data ≠ .fields us) -> ∃ sl,((g.push ob).update e (Obj.mapFields (·.setIfInBounds 1 (Value.ref g.objs.size)))).get? b=some { o with slots:=sl }:=fun b o q n=>by
  obtain ⟨sl,q1⟩:=sg.2.2 b o q
  exact ⟨sl,kp (xr a1 a4 q n) q1⟩
 refine ⟨⟨fun b o q=>kp (fun z=>by rw [z,a3] at q;cases q) (bg b o q),FF.of_keeps fun b o q n=>?_,⟨_,_,g.objs.size,ob,ts,self,⟨Obj.cls_mapFields _ _,?_⟩,d1,?_,?_,ne,new,b1,b2⟩,oth⟩,⟨_,_,self,d1,?_⟩⟩
 ·obtain ⟨sl,q1⟩:=oth b o q n
  exact ⟨_,q1,rfl⟩
 ·rw [Array.getElem?_setIfInBounds_ne (by decide)];exact a6
 ·rw [Array.getElem?_setIfInBounds_self_of_lt a5]
 ·cases z:base.get? g.objs.size with
  | none=>rfl
  | some o=>exact absurd (Heap.lt_size (bg _ o z)) (Nat.lt_irrefl _)
 ·rw [Array.getElem?_setIfInBounds_ne (by decide)];exact a7
section
variable {M : Model} {A : Around} {E : Value -> Shared -> Prop} {s : Shared} {base : Heap} {env : Env} {outer : List Env} {L e : Addr} {Q : Unit -> Shared -> Prop}
theorem zBd {head:Value} {hadNext:Bool} (fr:A.frames=some (env::outer)) (FF:s.heap.FunFrames base (env::outer)) (ef:env.frame=some L) (a1:s.heap.get? e=some oe)
  (a2:base.StaysIn s.heap) (a3:base.get? e=none) (a4:oe.data = .fields vs) (a5:1 < vs.size) (a6:vs[0]? = some a0) (a7:vs[2]? = some .none)
  (k : ∀ h',Heap.NotedW base (env::outer) e oe.cls a0 (rawInt L) s.heap h'->C2 h' e->Q () { s with heap:=h' }) :
  wpAny M A (do let a <- frameOf env;let pl <- entryPlaceOf L hadNext;let b <- EntryCells.newEntry head a .none (rawInt L) .none pl;setField (.ref e) 1 b) Q E s:=by
 have nf:e ∉ (env::outer).filterMap (·.frame):=fun m=>by
  obtain ⟨_,o,q,n⟩:=FF.mem m
  exact xr a1 a4 q n rfl
 refine wpAny_bind (wpAny_frameOf_fun fr FF ef fun g sg=>wpAny_bind (wpAny_entryPlaceOf fun pl ip=>?_))
 unfold EntryCells.newEntry newFields
 refine wpAny_bind (wpAny_newObj_type (wpAny_setField (Heap.get?_push_of_some _ ((sg.2.1 e nf).trans a1)) a4 a5 ?_) (ip.sizeOk5 _ _ _ _ _))
 have nh:=VO (ob:={ cls:=.type "traceback", dict:=none,data:=.fields ([head,.ref L,.none,rawInt L,.none]++(if pl.isEmpty then List.replicate 6 Value.none else pl)).toArray }) FF sg a1 a2 a3 a4 a5 a6 a7 rfl (fl:=rawInt L) (by simp)
 exact k _ nh.1 nh.2
variable {cls:Value}
theorem YG {l:List Env} {fl:Value} (a2:base.StaysIn s.heap) (FF:s.heap.FunFrames base l) (tr:s.heap.TracedAtW base e cls a0 fl) (c2:C2 s.heap e)
  (k : ∀ h',base.StaysIn h'->h'.FunFrames base l->h'.TracedW base e cls a0->C2 h' e->s.heap.UpToSlots h'->Q () { s with heap:=h' }):wpAny M A (setFlight (.ref e) none) Q E s:=by
 obtain ⟨oe,vs,t,ot,ts,q1,q2,q3,q4,q5,q6,q7,q8,q9⟩:=tr
 obtain ⟨o',us,c1,c3,c4⟩:=c2
 rw [q1] at c1
 cases c1
 rw [q3] at c3
 cases c3
 unfold setFlight
 refine wpAny_bind (wpAny_field q1 q3 q4 ?_)
 have nn:(Value.ref t != Value.none)=true:=by simp
 rw [if_pos nn]
 have lt3:=(Array.getElem?_eq_some_iff.mp q9).1
 have ot' : ∀ {b:Addr},b≠t->(s.heap.update t (Obj.mapFields (·.setIfInBounds 3 ((none:Option Addr).elim Value.none fun f=>rawInt f)))).get? b=s.heap.get? b:=fun {b} n=>Heap.get?_update_other _ _ (Ne.symm n)
 have df:=Obj.data_mapFields q8 (·.setIfInBounds 3 ((none:Option Addr).elim Value.none fun f=>rawInt f))
 refine wpAny_setField q7 q8 lt3 (k _ (fun b o q=>(ot' fun z=>by rw [z,q5] at q;cases q).trans (a2 b o q)) (FF.of_keeps fun b o q n=>⟨o,(ot' (xr q7 q8 q n)).trans q,rfl⟩)
  ⟨oe,vs,t,_,_,(ot' (Ne.symm q6)).trans q1,q2,q3,q4,q5,q6,Heap.get?_update_self _ q7 (Obj.isFreed_of_fields df),df,?_⟩ ⟨oe,vs,(ot' (Ne.symm q6)).trans q1,q3,c4⟩ fun b o q n=>⟨o.slots,(ot' (xr q7 q8 q n)).trans q⟩)
 rw [Array.getElem?_setIfInBounds_self_of_lt lt3];rfl
theorem Ji {args:List Value} (fr:A.frames=some (env::outer)) (ef:env.frame=some L) (a2:base.StaysIn h) (FF:h.FunFrames base (env::outer)) (mk:Heap.MadeExcOf h s.heap e cls args)
  (k : ∀ h' a0,Heap.FlyingW base outer e cls a0 h'->C2 h' e->s.heap.UpToSlots h'->Q () { s with heap:=h' }):wpAny M A (leaving env (.ref e)) Q E s:=by
 obtain ⟨t,m1,m2,m3⟩:=mk.there
 have out:base.get? e=none:=by
  cases z:base.get? e with
  | none=>rfl
  | some o=>have:=a2 e o z;rw [mk.new] at this;cases this
 have FF1:s.heap.FunFrames base (env::outer):=FF.of_keeps fun b o q _=>⟨o,mk.keeps b o q,rfl⟩
 unfold leaving noteFrame
 simp only [ef]
 refine wpAny_bind (wpAny_bind (wpAny_field m1 rfl (x:=.none) rfl ?_))
 have nn : ¬ ((Value.none != Value.none)=true):=by decide
 rw [if_neg nn]
 refine zBd fr FF1 ef m1 (fun b o q=>mk.keeps b o (a2 b o q)) out rfl (by show 1 < 6;decide) (a0:=.ref t) rfl rfl fun h1 nd c1=>?_
 obtain ⟨n1,n2,n3,n4⟩:=nd
 exact YG (s:={ s with heap:=h1 }) n1 n2 n3 c1 fun h2 w1 w2 w3 w4 w5=>k h2 _ ⟨w1,out,w2.2.2,w3⟩ w4 (Heap.UpToSlots.trans (h₂:=h1) n4 w5)
theorem zBR (fr:A.frames=some (env::outer)) (ef:env.frame=some L) (fly:Heap.FlyingW base (env::outer) e cls a0 s.heap) (c2:C2 s.heap e)
  (k : ∀ h',Heap.HeldW base (env::outer) e cls a0 L h'->C2 h' e->s.heap.UpToSlots h'->Q () { s with heap:=h' }):wpAny M A (noteFrame (.ref e) env) Q E s:=by
 obtain ⟨f1,f2,f3,oe,vs,t,ot,ts,q1,⟨q2,q2'⟩,q3,q4,q5,q6,q7,q8,q9⟩:=fly
 obtain ⟨o',us,c1,c3,c4⟩:=c2
 rw [q1] at c1
 cases c1
 rw [q3] at c3
 cases c3
 subst q2
 unfold noteFrame
 simp only [ef]
 refine wpAny_bind (wpAny_field q1 q3 q4 ?_)
 have nn:(Value.ref t != Value.none)=true:=by simp
 have n3 : ¬ ((Value.none == rawInt L)=true):=by simp [rawInt]
 rw [if_pos nn]
 refine wpAny_bind (wpAny_field q7 q8 q9 ?_)
 rw [if_neg n3]
 have ot' : ∀ {b:Addr},b≠t->(s.heap.update t (Obj.mapFields (·.setIfInBounds 3 Value.none))).get? b=s.heap.get? b:=fun {b} n=>Heap.get?_update_other _ _ (Ne.symm n)
 refine wpAny_bind (wpAny_setField q7 q8 (Array.getElem?_eq_some_iff.mp q9).1 ?_)
 refine zBd fr (f3.of_keeps fun b o q n=>⟨o,(ot' (xr q7 q8 q n)).trans q,rfl⟩) ef ((ot' (Ne.symm q6)).trans q1) (fun b o q=>(ot' fun z=>by rw [z,q5] at q;cases q).trans (f1 b o q)) f2 q3 (Array.getElem?_eq_some_iff.mp q4).1 q2' c4 fun h1 nd cc=>?_
 exact k h1 ⟨nd.1,f2,nd.2.1,nd.2.2.1⟩ cc fun b o q n=>nd.2.2.2 b o ((ot' (xr q7 q8 q n)).trans q) n
theorem zBk {l:List Env} (hd:Heap.HeldW base l e cls a0 L s.heap) (c2:C2 s.heap e)
  (k : ∀ h',Heap.FlyingW base l e cls a0 h'->C2 h' e->s.heap.UpToSlots h'->Q () { s with heap:=h' }):wpAny M A (setFlight (.ref e) none) Q E s:=
 YG hd.1 hd.2.2.1 hd.2.2.2 c2 fun h' w1 w2 w3 w4 w5=>k h' ⟨w1,hd.2.1,w2,w3⟩ w4 w5
theorem zDZ {l:List Env} (fl:Heap.FlyingW base l e cls a0 s.heap) (c2:C2 s.heap e)
  (k : ∀ h',Heap.FlyingW base l e cls a0 h'->C2 h' e->s.heap.UpToSlots h'->Q () { s with heap:=h' }):wpAny M A (setFlight (.ref e) none) Q E s:=
 YG fl.1 fl.2.2.1 fl.2.2.2.at c2 fun h' w1 w2 w3 w4 w5=>k h' ⟨w1,fl.2.1,w2,w3⟩ w4 w5
theorem Vp (fr:A.frames=some (env::outer)) (ef:env.frame=some L) (a1:s.heap.get? e=some oe) (a2:base.StaysIn s.heap) (FF:s.heap.FunFrames base (env::outer)) (a3:base.get? e=none)
  (a4:oe.data = .fields vs) (a5:vs[1]? = some .none) (a6:vs[0]? = some a0) (k : ∀ h',Heap.FlyingW base outer e oe.cls a0 h'->s.heap.UpToSlots h'->Q () { s with heap:=h' }):wpAny M A (leaving env (.ref e)) Q E s:=
 wpAny_leaving_firstW fr FF ef a1 a2 a3 a4 a5 a6 fun h' lf=>k h' ⟨lf.1,a3,lf.2.1.2.2,lf.2.2.1⟩ lf.2.2.2
end
theorem JQ:entryFor table "proto.unchain" = some Builtin.«proto.unchain» := entryFor_of_tree (by kernel_rfl)
section
variable {prog : Program} {w : World} {A : Around} {E : Value -> Shared -> Prop} {s : Shared}
theorem Vn {y:Addr} {Q:Value->Shared->Prop} (c2:C2 s.heap y) (k:Q .none s):wpAny (model prog w) A (runValue (.builtin "proto.unchain" ⟨[.ref e,.ref y,.ref y,.bool false],[]⟩)) Q E s:=by
 obtain ⟨o,vs,q1,q2,q3⟩:=c2
 refine wpAny_runValue (codeAny_builtin JQ ?_)
 show wpAny _ _ (do let context <- field (.ref y) 2;_) _ _ _
 refine wpAny_bind (wpAny_field q1 q2 q3 ?_)
 have nn:((Value.none == Value.none)=true):=by decide
 rw [if_pos nn]
 exact wpAny_pure k
theorem ZB {α:Type} {y:Addr} {Q:α->Shared->Prop} (hh:A.handled=some (.ref y)) (ne:y≠e) (c2:C2 s.heap y) (a1:s.heap.get? e=some oe) (a2:oe.data = .fields vs) (a3:2 < vs.size)
  (k:E (.ref e) { s with heap:=s.heap.update e (Obj.mapFields (·.setIfInBounds 2 (.ref y))) }):wpAny (model prog w) A (raiseNew (.ref e):Sem α) Q E s:=by
 unfold raiseNew
 refine wpAny_bind (wpAny_handled ?_)
 rw [hh]
 have nn:((Value.ref y != Value.ref e)=true):=by simp [ne]
 dsimp only
 rw [if_pos nn]
 refine wpAny_bind (wpAny_holding (Vn c2 ?_))
 have up:wpAny (model prog w) A (setField (.ref e) 2 (.ref y)) (fun _ s'=>wpAny (model prog w) A (throw (.ref e):Sem α) Q E s') E s:=wpAny_setField a1 a2 a3 (wpAny_throw k)
 exact wpAny_bind up
end
section
variable {prog : Program} {w : World} {A : Around} {E : Value -> Shared -> Prop} {env : Env}
variable {nm q : Str} {C N : Addr} {bs bm : List Value} {hdct : Bool} {sn : List Str} {sub : List Value} {ab : Bool} {col : Option Bool} {dd : Option Addr} {k0 k1 k2 k3 k5 : Option Value} {newId : String}
theorem JE {s:Shared} {y:Addr} {x c:Sem Value} {Q:Flow->Shared->Prop} (hbase:bm.contains (.type "BaseException")=true) (hh:A.handled=some (.ref y))
  (h:wpAny (model prog w) A x (fun v s₁=>∃ e t,v = .ref e/\s₁.heap.get? C=some (excClassObj nm q C N bs bm hdct sn sub ab col dd k0 k1 k2 k3 k5 newId) /\
   s₁.heap.get? e=some { cls:=.ref C,data:=.fields #[.ref t,.none,.none,.none,.bool false,.none] }/\y≠e/\C2 s₁.heap y/\(∀ R:Value->Shared->Prop,R .none s₁->wpAny (model prog w) A c R E s₁) /\
   ∀ h',(∀ b,b≠e->h'.get? b=s₁.heap.get? b)->h'.get? e=some { cls:=.ref C,data:=.fields #[.ref t,.none,.ref y,.none,.bool true,.none] }->E (.ref e) { s₁ with heap:=h' }) E s) :
  wpAny (model prog w) A (raiseStmt env (some x) (some c)) Q E s:=by
 have cb:(Value.ref C::bm).contains (.type "BaseException")=true:=by rw [List.contains_cons,hbase,Bool.or_true]
 unfold raiseStmt
 refine wpAny_bind (wpAny_mono h (fun v s₁ h₁=>?_) fun _ _ z=>z)
 obtain ⟨e,t,rfl,hC,he,ne,c2,hc,k⟩:=h₁
 refine wpAny_bind (wpAny_holding (hc _ (wpAny_bind (wpAny_pure ?_))))
 obtain ⟨hp,g,d,tk,os⟩:=s₁
 repeat (first
  | with_reducible refine wpAny_loadPart_at he ?_
  | with_reducible refine wpAny_loadPart_at hC ?_
  | (with_reducible refine wpAny_isSubtype_exc hC ?_;rw [cb])
  | wp_step)
 have nC:C≠e:=by
  rintro rfl
  have z:=hC.symm.trans he
  simp [excClassObj] at z
 have u1:=Heap.get?_update_self (Obj.mapFields (·.setIfInBounds 3 Value.none)) he rfl
 have u2:=Heap.get?_update_self (Obj.mapFields (·.setIfInBounds 4 (Value.bool true))) u1 rfl
 have ot : ∀ b,b≠e->((hp.update e (Obj.mapFields (·.setIfInBounds 3 Value.none))).update e (Obj.mapFields (·.setIfInBounds 4 (Value.bool true)))).get? b=hp.get? b:=fun b n=>by
  rw [Heap.get?_update_other _ _ (Ne.symm n),Heap.get?_update_other _ _ (Ne.symm n)]
 have u3:=(ot C nC).trans hC
 have cy:C2 ((hp.update e (Obj.mapFields (·.setIfInBounds 3 Value.none))).update e (Obj.mapFields (·.setIfInBounds 4 (Value.bool true)))) y:=by
  obtain ⟨o,vs,z1,z2,z3⟩:=c2
  exact ⟨o,vs,(ot y ne).trans z1,z2,z3⟩
 generalize (hp.update e (Obj.mapFields (·.setIfInBounds 3 Value.none))).update e (Obj.mapFields (·.setIfInBounds 4 (Value.bool true)))=h2 at u2 ot u3 cy ⊢
 refine wpAny_loadPart_at u3 (wpAny_pure ?_)
 have ty:((excClassObj nm q C N bs bm hdct sn sub ab col dd k0 k1 k2 k3 k5 newId).cls == Value.type "type")=true:=by rfl
 rw [if_pos ty]
 refine wpAny_pure ?_
 unfold setFlight
 refine wpAny_bind (wpAny_bind (wpAny_field u2 rfl (x:=.none) rfl ?_))
 have nn : ¬ ((Value.none != Value.none)=true):=by decide
 rw [if_neg nn]
 refine wpAny_pure (ZB hh ne cy u2 rfl (by show 2 < 6;decide) (k _ (fun b n=>?_) ?_))
 ·rw [Heap.get?_update_other _ _ (Ne.symm n)];exact ot b n
 ·exact Heap.get?_update_self (Obj.mapFields (·.setIfInBounds 2 (.ref y))) u2 rfl
end
structure zCl (h h':Heap) (e C:Addr):Prop where
 keeps : ∀ b o,h.get? b=some o->h'.get? b=some o
 new:h.get? e=none
 there : ∃ oe vs a0,h'.get? e=some oe/\oe.cls = .ref C/\oe.data = .fields vs/\vs[1]? = some .none/\vs[0]? = some a0
section
variable {prog : Program} {w : World} {A : Around} {E : Value -> Shared -> Prop} {env : Env}
variable {nm q : Str} {C N : Addr} {bs bm bmB : List Value} {hdct : Bool} {sn : List Str} {sub : List Value} {ab : Bool} {col : Option Bool} {dd : Option Addr} {k0 k1 k2 k3 k5 : Option Value} {B newId initId : String}
theorem zCT (F:ExcBaseFacts B newId initId bmB) {mN:Str->Option Value} {s:Shared} {m:Str} {np mp cpos cp:Pos} {j j':Nat} {y:Addr} {Q:Flow->Shared->Prop} (hb:bm.contains (.type "BaseException")=true) (hh:A.handled=some (.ref y)) (c2:C2 s.heap y)
  (hx : ∀ R:Value->Shared->Prop,R (.ref C) s->wpAny (model prog w) A (eval (.Name x np) env) R E s) (hC:s.heap.get? C=some (excClassObj nm q C N bs bm hdct sn sub ab col dd k0 k1 k2 k3 k5 newId)) (hN:s.heap.Ns N mN) (hni:mN "__init__" = none) (T:OwnTail s.heap bmB bm)
  (k : ∀ h' e tk,zCl s.heap h' e C->E (.ref e) { s with heap:=h',toks:=tk }) :
  wpAny (model prog w) A (exec (.Raise (some (.Call (.Name x np) [.Constant (.str m) j mp] [] cpos)) (some (.Constant .none j' cp)) pos) env) Q E s:=by
 rw [arm_exec_Raise]
 refine wpAny_bind (wpAny_standAt ?_)
 refine JE (y:=y) (C:=C) (nm:=nm) (q:=q) (N:=N) (bs:=bs) (bm:=bm) (hdct:=hdct) (sn:=sn) (sub:=sub) (ab:=ab) (col:=col) (dd:=dd) (k0:=k0) (k1:=k1) (k2:=k2) (k3:=k3) (k5:=k5) (newId:=newId) hb hh ?_
 refine wpAny_bind (wpAny_Call_ofName (hx _ ?_))
 unfold callWith
 refine wpAny_bind (wpAny_holding (Calls.evalArgs_plain (Calls.spliced_cons (Calls.Constant_str (k:=j) (pos:=mp) (Calls.spliced_nil ?_)))))
 refine wpAny_bind (wpAny_standAt ?_)
 have st:(((backTo cpos (starEach [Expr.Constant (Const.str m) j mp] env)).any fun x=>x.fst) || (backToKw cpos (keywordEach [] env)).any fun x=>x.fst.isNone)=false:=rfl
 simp only [st]
 obtain ⟨hp,g,d,tk,os⟩:=s
 refine wpAny_bind (wpAny_keeperOf_exc hC ?_)
 dsimp only
 have one:([]++[Value.str m tk]).length<=sizeLine:=by show 1<=sizeLine;decide
 refine wpAny_bind (wpAny_call_exc_subT (hrest:=one) F T hC hN hni fun h' e hm=>wpAny_bind (wpAny_holding (wpAny_point (wpAny_pure ?_))))
 refine wpAny_bind (wpAny_standAt (wpAny_pure ?_))
 obtain ⟨t,h1,h2,h3⟩:=hm.there
 have ny:y≠e:=by
  rintro rfl
  obtain ⟨o,vs,z1,_⟩:=c2
  have:=hm.new
  rw [z1] at this;cases this
 refine ⟨e,t,rfl,hm.keeps _ _ hC,h1,ny,?_,fun R hR=>wpAny_bind (wpAny_Constant_none (wpAny_bind (wpAny_standAt (wpAny_pure hR)))),fun h'' o1 o2=>?_⟩
 ·obtain ⟨o,vs,z1,z2,z3⟩:=c2
  exact ⟨o,vs,hm.keeps _ _ z1,z2,z3⟩
 ·refine k h'' e (tk+1) ⟨fun b o z=>?_,hm.new,⟨_,_,_,o2,rfl,rfl,rfl,rfl⟩⟩
  rw [o1 b (fun z1=>by have:=hm.new;rw [<- z1,z] at this;cases this)]
  exact hm.keeps b o z
end
def YA (P:Program) (w:World):CXT:=fun outer H s E e s'=>∃ (x C:Addr) (a0:Value) (H':Hp) (B:Heap),e = .ref x/\s'.os=s.os/\AllBare s'.gens/\Heap.FlyingW B outer x (.ref C) a0 s'.heap/\C2 s'.heap x /\
 (∀ h',B.StaysIn h'->s'.heap.UpToSlots h'->Un (frs outer) [] H H' s.heap h'/\HOk P w H' h')/\s.heap.get? x=none/\H' x=none/\E (.ref C) none H'
section
variable {P : Program} {w : World} {K : W.Frag} {mg : Str -> Option Value} {base : Heap} {N : List Str} {qual : Str} {scope : Scope} {f : Addr} {cd : Value} {A : Around} {outer : List Env} {s : Shared} {H : Hp} {E : XK} {CX : CXT}
variable {pins:List (Addr × Obj)} {σ:St} {H1:Hp} {s1:Shared} {h':Heap}
theorem Kk {h2:Heap} (I:Inv (kC CX P w K mg base N qual scope f cd A outer s H E) pins σ H1 s1) (kp : ∀ b o,s1.heap.get? b=some o->h'.get? b=some o) (f4:h'.UpToSlots h2) :
  ∀ h3,(W.hideAll s1.heap (frs (envOfC qual scope s.heap.objs.size f cd::outer))).StaysIn h3->h2.UpToSlots h3->Un (frs outer) [] H H1 s.heap h3/\HOk P w H1 h3:=by
 intro h3 st sm
 have hst : ∀ b ∈ frs (envOfC qual scope s.heap.objs.size f cd::outer),H1 b=none:=I.stkFree
 have FF:s1.heap.FunFrames base (envOfC qual scope s.heap.objs.size f cd::outer):=I.stack
 have old : ∀ b o,s.heap.get? b=some o->b≠s.heap.objs.size:=fun b o e=>ne_of_lt (Heap.lt_size e)
 have sub : ∀ b,b ∈ frs (envOfC qual scope s.heap.objs.size f cd::outer)->b=s.heap.objs.size\/b ∈ frs outer:=fun b hb=>List.mem_cons.mp (I.stkSub b hb)
 have here : ∀ b o,s1.heap.get? b=some o->b ∉ frs (envOfC qual scope s.heap.objs.size f cd::outer)->h3.get? b=some o:=fun b o e n=>st b o (W.hideAll_get _ e n)
 have fram : ∀ b o,s1.heap.get? b=some o->b ∈ frs (envOfC qual scope s.heap.objs.size f cd::outer) -> ∃ sl,h3.get? b=some { o with slots:=sl }:=fun b o e m=>by
  obtain ⟨_,o',e',nf⟩:=FF.mem m
  have z:o'=o:=Option.some.inj (e'.symm.trans e)
  subst z
  obtain ⟨sl,e2⟩:=f4 b o' (kp b o' e) nf
  obtain ⟨sl',e3⟩:=sm b _ e2 nf
  exact ⟨sl',e3⟩
 refine ⟨⟨fun b o e n hb hx=>?_,fun b o e n hb hx=>?_,fun b o e n hx=>I.base.free b o e n hx,fun b o e hx=>?_,I.base.tups,I.base.frzs,I.base.tbls⟩,fun a u e=>?_⟩
 ·exact here b o (I.base.keep b o e n hb hx) fun z=>(sub b z).elim (old b o e) hb
 ·obtain ⟨sl,e1⟩:=I.base.slot b o e n hb hx
  have mem:b ∈ frs (envOfC qual scope s.heap.objs.size f cd::outer):=by
   show b ∈ List.filterMap _ _
   rw [List.filterMap_cons]
   exact List.mem_cons_of_mem _ hb
  obtain ⟨sl',e2⟩:=fram b _ e1 mem
  exact ⟨sl',e2⟩
 ·obtain ⟨o',e1⟩:=I.base.there b o e hx
  by_cases mem:b ∈ frs (envOfC qual scope s.heap.objs.size f cd::outer)
  ·obtain ⟨sl,e2⟩:=fram b o' e1 mem
   exact ⟨_,e2⟩
  ·exact ⟨o',here b o' e1 mem⟩
 ·refine (I.hok a u e).stay (fun b ob hb eb=>here b ob eb fun z=>?_) (fun _ z=>z) (fun _ _ z=>z)
  have:=hst b z
  rcases hb with rfl | hb
  ·rw [e] at this;cases this
  ·rw [hb] at this;cases this
theorem zBx {x:Addr} (I:Inv (kC CX P w K mg base N qual scope f cd A outer s H E) pins σ H1 s1) (nw:s1.heap.get? x=none):s.heap.get? x=none/\H1 x=none:=by
 constructor
 ·cases z:s.heap.get? x with
  | none=>rfl
  | some o =>
   obtain ⟨o',e1⟩:=I.base.there x o z (fun h=>nomatch h)
   rw [nw] at e1;cases e1
 ·cases z:H1 x with
  | none=>rfl
  | some o =>
   obtain ⟨ob,e1⟩:=(I.hok x o z).is
   rw [nw] at e1;cases e1
theorem QD (I:Inv (kC CX P w K mg base N qual scope f cd A outer s H E) pins σ H1 s1):s1.heap.FunFrames (W.hideAll s1.heap (frs (envOfC qual scope s.heap.objs.size f cd::outer))) (envOfC qual scope s.heap.objs.size f cd::outer):=by
 have FF:s1.heap.FunFrames base (envOfC qual scope s.heap.objs.size f cd::outer):=I.stack
 exact W.funFrames_hide FF fun env he b hb=>List.mem_filterMap.mpr ⟨env,he,hb⟩
theorem wM {x C:Addr} {args:List Value}
  (I:Inv (kC (YA P w) P w K mg base N qual scope f cd A outer s H E) pins σ H1 s1) (hm:Heap.MadeExcOf s1.heap h' x (.ref C) args) (q:E (.ref C) none H1) :
  (kC (YA P w) P w K mg base N qual scope f cd A outer s H E).xe (.ref x) { s1 with heap:=h' }:=by
 have nw:=zBx I hm.new
 refine Ji (s:={ s1 with heap:=h' }) (base:=W.hideAll s1.heap (frs (envOfC qual scope s.heap.objs.size f cd::outer))) I.ok.frames rfl (fun b o e=>W.of_hideAll _ e) (QD I) hm fun h2 a0 f1 f2 f4=>?_
 exact ⟨x,C,a0,H1,_,rfl,I.os,I.bare,f1,f2,Kk I hm.keeps f4,nw.1,nw.2,q⟩
theorem zAP {x C:Addr} {tk:Nat}
  (I:Inv (kC (CXE P w) P w K mg base N qual scope f cd A outer s H E) pins σ H1 s1) (hm:zCl s1.heap h' x C) (q:E (.ref C) none H1) :
  (kC (CXE P w) P w K mg base N qual scope f cd A outer s H E).xe (.ref x) { s1 with heap:=h',toks:=tk }:=by
 have nw:=zBx I hm.new
 obtain ⟨oe,vs,a0,m1,m2,m3,m4,m5⟩:=hm.there
 have FF:=QD I
 have bs:(W.hideAll s1.heap (frs (envOfC qual scope s.heap.objs.size f cd::outer))).StaysIn s1.heap:=fun b o e=>W.of_hideAll _ e
 have bx:(W.hideAll s1.heap (frs (envOfC qual scope s.heap.objs.size f cd::outer))).get? x=none:=by
  cases z:(W.hideAll s1.heap (frs (envOfC qual scope s.heap.objs.size f cd::outer))).get? x with
  | none=>rfl
  | some o=>have:=bs x o z;rw [hm.new] at this;cases this
 refine Vp (s:={ s1 with heap:=h',toks:=tk }) (base:=W.hideAll s1.heap (frs (envOfC qual scope s.heap.objs.size f cd::outer))) I.ok.frames rfl m1 (fun b o e=>hm.keeps b o (bs b o e)) (FF.of_keeps fun b o e _=>⟨o,hm.keeps b o e,rfl⟩) bx m3 m4 m5 fun h2 f1 f4=>?_
 rw [m2] at f1
 exact ⟨x,C,a0,H1,_,rfl,I.os,I.bare,f1,Kk I hm.keeps f4,nw.1,nw.2,q⟩
end
def zBI (X:Cx) (E:XK):Prop:=∀ (pins:List (Addr × Obj)) (σ:St) (H:Hp) (s:Shared) (h':Heap) (x C:Addr) (tk:Nat),Inv X pins σ H s->zCl s.heap h' x C->E (.ref C) none H->X.xe (.ref x) { s with heap:=h',toks:=tk }
variable {P:Program} {w:World} {mg:Str->Option Value} {N:List Str} {qual:Str} {A:Around} {s:Shared} {H:Hp} {E:XK}
theorem zCk {scope:Scope} {f:Addr} {cd:Value} {outer:List Env}:zBI (kC (CXE P w) P w K mg base N qual scope f cd A outer s H E) E:=
 fun pins σ H s h' x C tk I hm q=>zAP I hm q
theorem Fun.okX2 {st:Stmt} {f:Addr} (F:Fun K x qual st f fd) (S:zN N ps (zE st)) (len : ∀ vs H Q E,sp vs H Q E->vs.length=ps.length)
  (hbody : ∀ (cdv:Value) (A:Around) (outer:List Env) (s:Shared) (H:Hp) (vs:List V) (Q:VK) (E:XK),xA k (A.deeper (envOfC qual (zE st) s.heap.objs.size f cdv))->sp vs H Q E ->
   KR (kC (YA P w) P w K mg base N qual (zE st) f cdv A outer s H E) E -> ∃ t,PSs (kC (YA P w) P w K mg base N qual (zE st) f cdv A outer s H E) (zm st) t/\t { nx:=fun _ H'=>Q .non H',rt:=Q } (start N vs) H):xG P w K mg base (YA P w) (k+1) f fd ps sp:=by
 obtain ⟨oc,od,kV,doc,pm,an,cdv,ct,osl,rfl,lk,hcd⟩:=F.ex
 exact V1 lk hcd S len fun A outer s H vs Q E hr hsp=>hbody cdv A outer s H vs Q E hr hsp fun pins σ H s h' x C args I hm q=>wM I hm q
def zCb (P:Program) (w:World) (K:W.Frag) (mg:Str->Option Value) (base:Heap) (x:Str) (k:Nat) (ps:List Str) (sp:Sp):Prop:=
 ∃ (f:Addr) (fd:FuncData),xG P w K mg base (YA P w) k f fd ps sp/\mg x=some (.ref f)/\W.keepIn K (.ref f)=true/\xJ K fd ps []
def XP2 (X:Cx) (pins:List (Addr × Obj)) (σ:St) (E:XK) (e:Value) (s':Shared):Prop:=∃ H1 s1,Inv X pins σ H1 s1/\YA X.prog X.w X.stack H1 s1 E e s'
def Cx.tr2 (X:Cx) (pins:List (Addr × Obj)) (σc:St) (E:XK):Cx:={ X with pn:=X.pn++pins,xe:=XP2 X pins σc E }
section
variable {X : Cx} {pins pins0 : List (Addr × Obj)} {σ σc : St} {H : Hp} {s : Shared} {E : XK}
theorem Cx.Ok.tr2 (ok:X.Ok):(X.tr2 pins σc E).Ok:=⟨ok.mod,ok.kind,ok.glob,ok.blt,ok.above,ok.inj,ok.has,ok.cab,ok.hd,ok.frames,ok.stk,ok.exf,ok.bs,ok.bsz,ok.noex,ok.exfs,ok.funs,ok.frf⟩
theorem Cx.Ok.untr2 (ok:(X.tr2 pins σc E).Ok):X.Ok:=⟨ok.mod,ok.kind,ok.glob,ok.blt,ok.above,ok.inj,ok.has,ok.cab,ok.hd,ok.frames,ok.stk,ok.exf,ok.bs,ok.bsz,ok.noex,ok.exfs,ok.funs,ok.frf⟩
theorem Inv.tr2 (I:Inv X pins σ H s):Inv (X.tr2 pins σc E) [] σ H s:=⟨I.ok.tr2,I.os,I.bare,I.base,I.loc,I.cell,I.free,I.freeC,fun p hp=>I.pin p (by simpa [Cx.tr2] using hp),I.hok,I.len⟩
theorem Inv.untr2 (I:Inv (X.tr2 pins0 σc E) pins σ H s):Inv X pins0 σ H s:=⟨I.ok.untr2,I.os,I.bare,I.base,I.loc,I.cell,I.free,I.freeC,fun p hp=>I.pin p (List.mem_append_left _ hp),I.hok,I.len⟩
theorem SP.untr2 {D:kD} {f:Flow} {s':Shared} (h:SP (X.tr2 pins0 σc E) pins D f s'):SP X pins0 D f s':=by
 cases f with
 | next=>obtain ⟨σ',H',I,q⟩:=h;exact ⟨σ',H',I.untr2,q⟩
 | brk=>obtain ⟨σ',H',I,q⟩:=h;exact ⟨σ',H',I.untr2,q⟩
 | cont=>obtain ⟨σ',H',I,q⟩:=h;exact ⟨σ',H',I.untr2,q⟩
 | ret u=>obtain ⟨v,σ',H',I,r,q⟩:=h;exact ⟨v,σ',H',I.untr2,r,q⟩
end
section
variable {X : Cx} {pins0 : List (Addr × Obj)} {σc : St} {k n : Nat} {C : Addr} {ps : List Str} {sp : Sp} {E : XK} {x m : Str} {p np pos apos : Pos} {e o : Expr} {es : List Expr} {ta : TE} {t : TA}
theorem zAv {pins:List (Addr × Obj)} {σ:St} {Q:VK} {us:List Value} {vs:List V} {f:Addr} (F:xG X.prog X.w X.K X.mg X.base (YA X.prog X.w) k f fd ps sp) (hr:xA k X.A) (hb:xJ X.K fd ps [])
  (I:Inv (X.tr2 pins0 σc E) pins σ H s) (r:z9 vs us) (wk:Wk σc σ) (h:sp (vs++[]) H Q E):wpAny (model X.prog X.w) X.A (call (.ref f) us) (EP (X.tr2 pins0 σc E) pins σ Q) (X.tr2 pins0 σc E).xe s:=by
 have r2:z9 (vs++[]) (us++[]):=r.append .nil
 have hl:(us++[]).length=ps.length:=by rw [<- r2.length];exact F.len _ _ _ _ h
 have e0:VV X.prog X.w X.K X.mg X.base X.A X.stack s H:=I.env0
 refine wpAny_call (codeAny_mono (F.run X.A X.stack s H ⟨us,[]⟩ (us++[]) (vs++[]) Q E hr e0 (hb s us I.kIn hl) r2 h) fun r s' hq=>?_)
 cases r with
 | error e=>exact ⟨H,s,I.untr2.weak wk.1 wk.2,hq⟩
 | ok fl =>
  cases fl with
  | ret u=>exact I.after hq
  | next=>exact False.elim hq
  | brk=>exact False.elim hq
  | cont=>exact False.elim hq
theorem J2 (F:zCb X.prog X.w X.K X.mg X.base x k ps sp) (hr:xA n X.A) (hg:Gl X x) (ha:PA (X.tr2 pins0 σc E) (e::es) t) (hk:k<=n:=by decide)
  (hdb:(x == ("__debug__" : Str))=false:=by decide) (he:starEach (e::es) X.env=(false,eval e X.env)::starEach es X.env:=by rfl) (hpl:(backTo pos (starEach es X.env)).any (·.1)=false:=by rfl) :
  PE (X.tr2 pins0 σc E) (.Call (.Name x p) (e::es) [] pos) (Wz sp E σc t):=by
 intro pins s σ H Q I h
 obtain ⟨f,fd,G,hm,kp,b⟩:=F
 refine wpAny_Call_Name_kw (jB I hg hm ?_ hdb)
 refine W.callWith_K (h₀:=X.base) I.ok.mod.kin kp (thn (ha pos pins s σ H _ I h) fun us s1 ⟨vs,H1,I1,r,q⟩=>⟨I1.kIn,?_⟩) he hpl
 exact zAv (G.mono hk) hr b I1 r q.1 q.2
end
def zFt (K:W.Frag) (C1 C2 CR:Addr) (E:XK) (tb:St->XK->TS):TS:=fun D σ H=>∃ σc,tb σc (fun cls _ H2=>∃ C,cls = .ref C/\W.exmAny K (.ref C) [.ref C1,.ref C2]=some true/\E (.ref CR) none H2) D σ H
variable {C1:Addr} {j:Nat}
theorem zDS {c1 c2 cx msg:Str} {C2' CR:Addr} {p1 p2 tpos np mp cpos cp rpos hpos:Pos} {kk j':Nat} {body:List Stmt} {tb:St->XK->TS}
  (hst:X.stack=X.env::X.outer) (hfr:X.env.frame=some X.env.locals) (hc:X.calm=true) (ce:Exc X.K CR) (tk:zBI X E) (po : ∀ hd,PassesOwnAt (model X.prog X.w) (X.A.mark hd) X.A X.env X.xe)
  (g1:Gl X c1) (m1:X.mg c1=some (.ref C1)) (g2:Gl X c2) (m2:X.mg c2=some (.ref C2')) (gr:Gl X cx) (mr:X.mg cx=some (.ref CR)) (hb : ∀ pins σc E,PSs (X.tr2 pins σc E) body (tb σc E))
  (d1:(c1 == ("__debug__" : Str))=false:=by decide) (d2:(c2 == ("__debug__" : Str))=false:=by decide) (dr:(cx == ("__debug__" : Str))=false:=by decide) :
  PS X (.Try body [.ExceptHandler (some (.Tuple [.Name c1 p1,.Name c2 p2] kk tpos)) none [.Raise (some (.Call (.Name cx np) [.Constant (.str msg) j mp] [] cpos)) (some (.Constant .none j' cp)) rpos] hpos] [] [] pos) (zFt X.K C1 C2' CR E tb):=by
 intro pins s σ H D I h
 obtain ⟨σc,h⟩:=h
 refine wpAny_Try_except (wpAny_mono (hb pins σc _ [] s σ H D I.tr2 h) (fun f s1 q=>?_) fun er s' z=>?_)
 ·cases f with
  | next=>exact wpAny_execs_nil q.untr2
  | ret u=>exact q.untr2
  | brk=>exact q.untr2
  | cont=>exact q.untr2
 ·obtain ⟨H1,s1,I1,fl⟩:=z
  obtain ⟨y,C,a0,H2,B,rfl,hos,hbare,fly,cc,clo,hy0,hy2,C0,z0,exm,q⟩:=fl
  cases z0
  rw [hst] at fly
  refine zBR (I.ok.frames.trans (congrArg some hst)) hfr fly cc fun h1 held cc1 sm1=>?_
  refine zBk held cc1 fun h2 fly2 cc2 sm2=>?_
  have cl : ∀ h',B.StaysIn h'->h2.UpToSlots h'->Inv X pins σc H2 { s' with heap:=h' }:=fun h' st sm=>by
   have c:=clo h' st ((sm1.trans sm2).trans sm)
   exact I1.call' (s':={ s' with heap:=h' }) hos c.1 c.2 hbare (fun b z=>nomatch z)
  have I2:Inv X pins σc H2 { s' with heap:=h2 }:=cl h2 fly2.1 (Heap.UpToSlots.refl _)
  have hhd:(X.A.mark (some (.ref y))).handled=some (.ref y):=rfl
  refine wpAny_handleBy_cons (codeAny_handlers_test ?_) (by intro q;cases q)
  refine wpAny_Tuple (wpAny_items_cons (jB (I2.inExc y) g1 m1 (wpAny_items_cons (jB (I2.inExc y) g2 m2 (wpAny_items_nil ⟨by size_fits,?_⟩) d2)) d1))
  have kp : ∀ b o,h2.get? b=some o->(h2.push { cls:=.type "tuple", data:=.seq [Value.ref C1,Value.ref C2'].toArray }).get? b=some o:=fun _ _ z=>Heap.get?_push_of_some _ z
  have ty2:W.Looks (model X.prog X.w) h2 (typeOf (.ref y)) (.ref C):=(isx fly2).ty
  refine (W.exm_tup2 (M:=model X.prog X.w) (I2.kIn.keeps kp) (ty2.keeps kp) (Heap.get?_push_size h2 rfl) exm).here ?_
  have up:h2.UpToSlots (h2.push { cls:=.type "tuple", data:=.seq [Value.ref C1,Value.ref C2'].toArray }):=Heap.UpToSlots.of_keeps kp
  have fly3:Heap.FlyingW B (X.env::X.outer) y (.ref C) a0 (h2.push { cls:=.type "tuple", data:=.seq [Value.ref C1,Value.ref C2'].toArray }):=by
   obtain ⟨f1,f2,f3,oe,vs,t,ot,ts,q1,q2,q3,q4,q5,q6,q7,q8,q9⟩:=fly2
   exact ⟨fun b o z=>kp b o (f1 b o z),f2,f3.of_keeps fun b o z _=>⟨o,kp b o z,rfl⟩,oe,vs,t,ot,ts,kp _ _ q1,q2,q3,q4,q5,q6,kp _ _ q7,q8,q9⟩
  have cc3:C2 (h2.push { cls:=.type "tuple", data:=.seq [Value.ref C1,Value.ref C2'].toArray }) y:=by
   obtain ⟨o,vs,z1,z2,z3⟩:=cc2
   exact ⟨o,vs,kp _ _ z1,z2,z3⟩
  refine codeAny_handlers_suite (zDZ fly3 cc3 fun h4 fly4 cc4 sm4=>?_)
  have I4:Inv X pins σc H2 { s' with heap:=h4 }:=cl h4 fly4.1 (up.trans sm4)
  obtain ⟨tl,Nn,nm,qq,bs,hdct,sn,sub,ab,col,dd,k0,k1,k2,k3,k5,mN,hC,hN,hni,T⟩:=K6 I4.kIn ce
  refine wpAny_passesOwnAt (po (some (.ref y))) (wpAny_execs_cons ?_)
  refine zCT (s:={ s' with heap:=h4 }) (C:=CR) (bm:=tl) (mN:=mN) (N:=Nn) (nm:=nm) (q:=qq) (bs:=bs) (hdct:=hdct) (sn:=sn) (sub:=sub) (ab:=ab) (col:=col) (dd:=dd) (k0:=k0) (k1:=k1) (k2:=k2) (k3:=k3) (k5:=k5) PySem.F.excBase_ValueError (T.hasType PySem.F.excBase_ValueError.hasBase) hhd cc4 (fun R hR=>jB (I4.inExc y) gr mr hR dr) hC hN hni T fun h5 e5 tk5 mr5=>?_
  exact tk pins σc H2 { s' with heap:=h4 } h5 e5 CR tk5 I4 mr5 q
theorem zEe {C2 CR:Addr} {tb:St->XK->TS} {D:kD} {σ:St} (σc:St) (h:tb σc (fun cls _ H2=>∃ C,cls = .ref C/\W.exmAny K (.ref C) [.ref C1,.ref C2]=some true/\E (.ref CR) none H2) D σ H):zFt K C1 C2 CR E tb D σ H:=⟨σc,h⟩
variable {c:Nat}
theorem zBv {d:Nat} (h:0<=fv c) (e:fv c=fv d):c=d:=by
 unfold fv at h e
 repeat' (split at h)
 all_goals repeat' (split at e)
 all_goals omega
theorem ZF {P:List Nat->Prop} (h0:P []) (hs : ∀ l c,P l->P (l++[c])) (l:List Nat):P l:=by
 have : ∀ n (l:List Nat),l.length=n->P l:=fun n=>by
  induction n with
  | zero=>intro l h;rw [List.length_eq_zero_iff.mp h];exact h0
  | succ n ih =>
   intro l h
   have ne:l≠[]:=fun z=>by rw [z] at h;cases h
   rw [<- List.dropLast_concat_getLast ne]
   exact hs _ _ (ih _ (by rw [List.length_dropLast];omega))
 exact this _ l rfl
theorem jy.left {b:Int} {m:List Nat} (h:jy b (l++m)):jy b l:=fun c hc=>h c (List.mem_append_left _ hc)
theorem jy.right {b:Int} {m:List Nat} (h:jy b (l++m)):jy b m:=fun c hc=>h c (List.mem_append_right _ hc)
theorem WZ {b:Int} (hb:2<=b) (l:List Nat):jy b l->0<=val b l/\val b l < b ^ l.length:=by
 refine ZF (P:=fun l=>jy b l->0<=val b l/\val b l < b ^ l.length) (fun _=>⟨Int.le_refl 0,by show (0:Int) < b ^ 0;rw [Int.pow_zero];decide⟩) (fun l c ih h=>?_) l
 obtain ⟨i1,i2⟩:=ih h.left
 obtain ⟨_,c1,c2⟩:=h.right c (List.mem_singleton.mpr rfl)
 rw [kr,length_append,length_singleton,Int.pow_succ]
 have m1:=Int.mul_le_mul_of_nonneg_right (show val b l<=b ^ l.length - 1 by omega) (show 0<=b by omega)
 rw [Int.sub_mul,Int.one_mul] at m1
 have m2:=Int.mul_nonneg i1 (show 0<=b by omega)
 omega
theorem zB9 {b:Int} (hb:2<=b) (l:List Nat) : ∀ k,jy b l->jy b k->l.length=k.length->val b l=val b k->l=k:=by
 refine ZF (P:=fun l=>∀ k,jy b l->jy b k->l.length=k.length->val b l=val b k->l=k) (fun k _ _ h _=>(List.length_eq_zero_iff.mp h.symm).symm) (fun l c ih k hl hk he hv=>?_) l
 have ne:k≠[]:=fun z=>by rw [z,length_append] at he;cases he
 obtain ⟨k',d,rfl⟩ : ∃ k' d,k=k'++[d]:=⟨_,_,(List.dropLast_concat_getLast ne).symm⟩
 obtain ⟨_,c1,c2⟩:=hl.right c (List.mem_singleton.mpr rfl)
 obtain ⟨_,d1,d2⟩:=hk.right d (List.mem_singleton.mpr rfl)
 rw [kr,kr] at hv
 have q1:(val b l*b+fv c) / b=val b l:=by rw [Int.add_comm,Int.add_mul_ediv_right _ _ (by omega),Int.ediv_eq_zero_of_lt c1 c2,Int.zero_add]
 have q2:(val b k'*b+fv d) / b=val b k':=by rw [Int.add_comm,Int.add_mul_ediv_right _ _ (by omega),Int.ediv_eq_zero_of_lt d1 d2,Int.zero_add]
 have e1:val b l=val b k':=by rw [<- q1,hv,q2]
 have e2:fv c=fv d:=by rw [e1] at hv;omega
 rw [length_append,length_append,length_singleton,length_singleton] at he
 rw [ih k' hl.left hk.left (by omega) e1,zBv c1 e2]
theorem zBz {b:Int} (hb:2<=b) (l:List Nat):jy b l->1<=l.length->l.getD 0 0≠48->b ^ (l.length - 1)<=val b l:=by
 refine ZF (P:=fun l=>jy b l->1<=l.length->l.getD 0 0≠48->b ^ (l.length - 1)<=val b l) (fun _ h=>absurd h (by decide)) (fun l c ih h _ hn=>?_) l
 obtain ⟨_,c1,c2⟩:=h.right c (List.mem_singleton.mpr rfl)
 rw [kr,length_append,length_singleton,Nat.add_sub_cancel]
 rcases Nat.eq_zero_or_pos l.length with z | z
 ·have z':=List.length_eq_zero_iff.mp z
  subst z'
  have nc:c≠48:=hn
  have:fv c≠fv 48:=fun e=>nc (zBv c1 e)
  have e48:fv 48=0:=by decide
  show b ^ 0<=(0:Int)*b+fv c
  rw [Int.pow_zero]
  omega
 ·have i:=ih h.left z (by rw [xL z] at hn;exact hn)
  have e:b ^ l.length=b ^ (l.length - 1)*b:=by rw [<- Int.pow_succ];congr 1;omega
  have m1:=Int.mul_le_mul_of_nonneg_right i (show 0<=b by omega)
  rw [e];omega
theorem zCA (h2:2<=b) (h16:b<=16) (hp:p<=6) (hf:jy b l) (h1:p+1<=l.length) (h40:l.length<=40+p) (hz:l.getD 0 0=48->l.length=p+1):(val b l).toNat < b ^ (40+p)/\dgs b p (val b l).toNat=l:=by
 have hb:(2:Int)<=(b:Int):=by omega
 obtain ⟨v0,v1⟩:=WZ hb l hf
 have cp : ∀ k:Nat,((b ^ k:Nat):Int)=(b:Int) ^ k:=fun k=>by simp
 have mono : ∀ {j k:Nat},j<=k->(b:Int) ^ j<=(b:Int) ^ k:=fun {j k} h=>by
  rw [<- cp,<- cp];exact Int.ofNat_le.mpr (Nat.pow_le_pow_right (by omega) h)
 have nb:(val b l).toNat < b ^ (40+p):=by
  have a:=mono h40
  have c:=cp (40+p)
  omega
 obtain ⟨d1,d2,d3,d4,d5⟩:=ZG h2 h16 hp nb
 refine ⟨nb,?_⟩
 have ev:val b (dgs b p (val b l).toNat)=val b l:=by rw [d2];omega
 obtain ⟨w0,w1⟩:=WZ hb _ d1
 refine zB9 hb _ _ d1 hf ?_ ev
 generalize dgs b p (val b l).toNat=D at *
 rcases Nat.lt_trichotomy D.length l.length with z | z | z
 ·have lo:=zBz hb l hf (by omega) (fun e=>by have:=hz e;omega)
  have m:=mono (show D.length<=l.length - 1 by omega)
  omega
 ·exact z
 ·have lo:=zBz hb D d1 (by omega) (fun e=>by have:=d5 e;omega)
  have m:=mono (show l.length<=D.length - 1 by omega)
  omega
def qx (p:Nat) (t:List Nat):List Nat:=if p=0 then t else t.take (t.length - p - 1)
def kE (p:Nat) (t:List Nat):List Nat:=if p=0 then [] else t.drop (t.length - p)
def WE (p pt:Nat) (t:List Nat):Prop:=p=0\/(p+1<=t.length/\t.getD (t.length - p - 1) 0=pt)
def NZ (u:List Nat):Prop:=¬ (1 < u.length/\u.getD 0 0=48)
def IsB (b:Int) (p pt z m:Nat) (t:List Nat):Prop:=WE p pt t/\GG z m (qx p t)/\jy b (ug z (qx p t)++kE p t)/\NZ (ug z (qx p t))
def VY (b:Int) (p z:Nat) (t:List Nat):Int:=val b (ug z (qx p t)++kE p t)
variable {t:List Nat}
theorem Ja {pt:Nat} (h:WE p pt t):(kE p t).length=p:=by
 unfold kE
 rcases h with h | h
 ·rw [if_pos h,h];rfl
 ·split
  ·rename_i z;rw [z];rfl
  ·rw [length_drop];omega
theorem K5 {pt:Nat} (h:WE p pt t):t=if p=0 then qx p t else qx p t++[pt]++kE p t:=by
 rcases Nat.eq_zero_or_pos p with z | z
 ·rw [if_pos z];unfold qx;rw [if_pos z]
 ·rw [if_neg (by omega)]
  rcases h with h | ⟨h1,h2⟩
  ·omega
  ·unfold qx kE
   rw [if_neg (by omega),if_neg (by omega)]
   have lt:t.length - p - 1 < t.length:=by omega
   have e1:t.drop (t.length - p - 1)=pt::t.drop (t.length - p):=by
    rw [List.drop_eq_getElem_cons lt,show t.length - p - 1+1=t.length - p by omega]
    rw [List.getD_eq_getElem?_getD,getElem?_eq_getElem lt] at h2
    rw [show t[t.length - p - 1]=pt from h2]
   rw [append_assoc,show [pt]++t.drop (t.length - p)=t.drop (t.length - p - 1) from e1.symm,take_append_drop]
theorem zAg {pt:Nat} (h2:2<=b) (h16:b<=16) (hp:p<=6) (h:IsB b p pt z m t):0<=VY b p z t/\(VY b p z t).toNat < b ^ (40+p)/\bdy b p pt z m (VY b p z t).toNat=t:=by
 obtain ⟨w,g,f,n⟩:=h
 have rl:=Ja w
 have jn:=K5 w
 unfold VY
 generalize hU:ug z (qx p t)=u at *
 generalize kE p t=r at *
 have g1:=g.1;have g2:=g.2.1;have g3:=g.2.2
 rw [hU] at g1 g2 g3
 obtain ⟨v1,v2⟩:=zCA h2 h16 hp f (by rw [length_append];omega) (by rw [length_append];omega) (fun e=>by
  rw [xL (by omega)] at e
  rw [length_append]
  have : ¬ 1 < u.length:=fun z=>n ⟨z,e⟩
  omega)
 refine ⟨(WZ (by omega) _ f).1,v1,?_⟩
 have ew:whl b p (val b (u++r)).toNat=u:=by
  unfold whl;rw [v2,length_append,show u.length+r.length - p=u.length by omega,List.take_left]
 have er:rst b p (val b (u++r)).toNat=r:=by
  unfold rst;rw [v2,length_append,show u.length+r.length - p=u.length by omega,List.drop_left]
 unfold bdy
 rw [ew,er,g3]
 exact jn.symm
theorem zEs (h:c ∈ ug z t):c ∈ t:=by
 unfold ug at h
 split at h
 ·exact h
 ·rename_i hz
  have key : ∀ l:List Nat,c ∈ UJ z l->c ∈ l:=fun l=>by
   refine ZF (P:=fun l=>c ∈ UJ z l->c ∈ l) (fun h=>by rw [xS] at h;exact h) (fun l x ih h=>?_) l
   rw [Ki (by omega) l.length l (Nat.le_refl _)] at h
   rcases List.mem_append.mp h with h | h
   ·exact List.mem_append_left _ (ih h)
   ·split at h
    ·cases h
    ·exact List.mem_append_right _ h
  have:=key _ (List.mem_reverse.mp h)
  exact List.mem_reverse.mp this
theorem Vg:t.take (qx p t).length=qx p t:=by
 unfold qx
 split
 ·exact List.take_length
 ·rw [length_take,Nat.min_def]
  split
  ·rfl
  ·rw [List.take_length,List.take_of_length_le (by omega)]
theorem Vu {pt:Nat} (h:WE p pt t):t.drop ((qx p t).length+1)=kE p t:=by
 unfold qx kE
 split
 ·exact List.drop_of_length_le (by omega)
 ·rename_i n
  rcases h with h | h
  ·exact absurd h n
  ·rw [length_take,Nat.min_eq_left (by omega),show t.length - p - 1+1=t.length - p by omega]
theorem Wf:(qx p t).length<=t.length:=by
 unfold qx;split
 ·exact Nat.le_refl _
 ·rw [length_take];omega
theorem zAC (h:Asc t):Asc (ug z (qx p t)++kE p t):=by
 intro c hc
 rcases List.mem_append.mp hc with hc | hc
 ·have:=zEs hc
  unfold qx at this
  split at this
  ·exact h c this
  ·exact h c (mem_of_mem_take this)
 ·unfold kE at hc
  split at hc
  ·cases hc
  ·exact h c (mem_of_mem_drop hc)
section
variable {X : Cx} {H : Hp} {Q : VK} {K : W.Frag}
theorem isStrOf_shape {k:Str} {v:Value} (h:Value.isStrOf k v=true) : ∃ t,v = .str k t:=by
 rcases qH (k:=Sum.inr k) h with ⟨i,t,z,_⟩ | ⟨x,t,z,e⟩
 ·cases z
 ·cases z;exact ⟨t,e⟩
end
def wfs (L:Addr) (n:Nat):List (Str × V):=[("words", .ref L),("at", .int n)]
def Wr (K:W.Frag) (C:Addr) (H:Hp) (a:Addr) (Qf:List (List Nat)):Prop:=∃ (dx L:Addr) (ws:List (List Nat)) (n:Nat),H a=some (.ins C dx (wfs L n))/\SqL K H L (tsV ws)/\n<=ws.length/\ws.drop n=Qf/\ws.length<=100
section
variable {K : W.Frag} {C : Addr} {H H' : Hp} {a L dx : Addr} {n : Nat} {Qf : List (List Nat)}
theorem Wr.same (g:zY H H') (h:Wr K C H a Qf):Wr K C H' a Qf:=let ⟨d,L,ws,n,e1,e2,e3,e4,e5⟩:=h;⟨d,L,ws,n,g.at e1,g.seq e2,e3,e4,e5⟩
theorem SB.tup {xs:List V} {p:Addr} (s:SB a H H') (w:Wr K C H a Qf) (h:H p=some (.tup xs)):H' p=some (.tup xs):=by
 obtain ⟨d,L,ws,n,e1,_⟩:=w
 exact s p _ (fun z=>by subst z;rw [e1] at h;cases h) h
theorem SB.lst {xs:List V} {p:Addr} (s:SB a H H') (w:Wr K C H a Qf) (h:H p=some (.lst xs)):H' p=some (.lst xs):=by
 obtain ⟨d,L,ws,n,e1,_⟩:=w
 exact s p _ (fun z=>by subst z;rw [e1] at h;cases h) h
theorem SB.trans {F:Hp} (s:SB a H H') (t:SB a H' F):SB a H F:=fun b o n e=>t b o n (s b o n e)
theorem SB.of (g:zY H H'):SB a H H':=fun b o _ e=>g _ _ e
end
def zFi:R2:=fun x y H Q=>y = .non/\Q (.bl (!decide (x = .non))) H
theorem zAi:OpR X (compareOp .IsNot) zFi:=zC3
theorem zDc {i:Int} {Q:VK} (q:Q (.bl true) H):zFi (.int i) .non H Q:=⟨rfl,by rw [decide_eq_false (fun z=>nomatch z)];exact q⟩
section
variable {X : Cx} {tg : Expr}
end
def zEa (t1 t2:TE):TE:=fun σ H Q=>t1 σ H Q\/t2 σ H Q
section
variable {X : Cx} {σ : St} {H : Hp} {Q : VK} {K : W.Frag} {w : World}
variable {t1 t2:TE}
theorem Y1 {e:Expr} (h1:PE X e t1) (h2:PE X e t2):PE X e (zEa t1 t2):=fun pins s σ H Q I h=>h.elim (h1 pins s σ H Q I) (h2 pins s σ H Q I)
theorem zAe (h:t1 σ H Q):zEa t1 t2 σ H Q:=.inl h
theorem VN (h:t2 σ H Q):zEa t1 t2 σ H Q:=.inr h
end
section
variable {X : Cx} {CX : CXT} {k : Nat} {f : Addr} {fd : FuncData} {ps : List Str} {sp : Sp} {dvs : List V} {ds : List Value} {E : XK} {x : Str} {p pos : Pos} {e a : Expr} {es : List Expr} {te ta : TE} {t : TA}
structure zC8 (P:Program) (w:World) (K:W.Frag) (mg:Str->Option Value) (base:Heap) (CX:CXT) (k:Nat) (f:Addr) (fd:FuncData) (ps:List Str) (sp:Sp):Prop where
 len : ∀ vs H Q E,sp vs H Q E->vs.length=ps.length
 run : ∀ (A:Around) (outer:List Env) (s:Shared) (H:Hp) (args:Args) (us:List Value) (vs:List V) (Q:VK) (E:XK),0 < s.toks->xA k A->VV P w K mg base A outer s H->BindsTo s fd args (ps.zip us)->z9 vs us->sp vs H Q E ->
  codeAny (model P w) A (.call (.ref f) args) (CR CX outer P w H s Q E) s
end
def zGs (X:Cx) (st:List Stmt) (t:TS):Prop:=
 ∀ (pins:List (Addr × Obj)) (s:Shared) (σ:St) (H:Hp) (D:kD),0 < s.toks->Inv X pins σ H s->t D σ H->wpAny (model X.prog X.w) X.A (execs st X.env) (SP X pins D) X.xe s
theorem zGs.nox {st:List Stmt} {t:TS} (h:zGs X.nox st t):zGs X st t:=fun pins s σ H D l I hw =>
 wpAny_mono (h pins s σ H D l (I.wish _) hw) (fun _ _ q=>q.unwish) fun _ _ z=>False.elim z
theorem zC8.mono {CX:CXT} {f:Addr} (F:zC8 P w K mg base CX j f fd ps sp) (h:j<=k) :
  zC8 P w K mg base CX k f fd ps sp:=⟨F.len,fun A outer s H args us vs Q E l hr=>F.run A outer s H args us vs Q E l (hr.mono h)⟩
def Df (K:W.Frag) (x:Str) (st:Stmt) (f:Addr):Prop:=∃ (oc:Value) (od:Option Addr) (kV dc pm:Value) (an:Option Addr) (cd ct:Value) (sl:Array (Option Value)),W.nsIn K mainGlobals x=some (some (.ref f)) /\
 K.lookup f=some ⟨oc,od,.func (W.fnOf x x (qC st) (zm st) (zE st) .none kV dc pm an cd ct),sl⟩/\W.codeIn K cd x=true/\W.keepIn K (.ref f)=true
def Dm (K:W.Frag) (q m:Str) (st:Stmt) (dV:Value) (C f:Addr):Prop:=∃ (oc:Value) (od:Option Addr) (kV dc pm:Value) (an:Option Addr) (cd ct:Value) (sl:Array (Option Value)),W.findIn K (.ref C) m=some (some (.ref f)) /\
 K.lookup f=some ⟨oc,od,.func (W.fnOf m q (qC st) (zm st) (zE st) dV kV dc pm an cd ct),sl⟩/\W.codeIn K cd q=true/\W.keepIn K (.ref f)=true/\W.isFn K (.ref f)=true
section
variable {K : W.Frag} {x q m : Str} {st : Stmt} {f C t : Addr} {oc dV : Value} {od : Option Addr} {kV dc pm : Value} {an : Option Addr} {cd ct : Value} {sl : Array (Option Value)}
theorem zGR (a:W.nsIn K mainGlobals x=some (some (.ref f))) (l:K.lookup f=some ⟨oc,od,.func (W.fnOf x x (qC st) (zm st) (zE st) .none kV dc pm an cd ct),sl⟩) (c:W.codeIn K cd x=true) (k:W.keepIn K (.ref f)=true):Df K x st f:=⟨oc,od,kV,dc,pm,an,cd,ct,sl,a,l,c,k⟩
theorem zCo (a:W.findIn K (.ref C) m=some (some (.ref f))) (l:K.lookup f=some ⟨oc,od,.func (W.fnOf m q (qC st) (zm st) (zE st) dV kV dc pm an cd ct),sl⟩) (c:W.codeIn K cd q=true) (k:W.keepIn K (.ref f)=true) (n:W.isFn K (.ref f)=true):Dm K q m st dV C f:=⟨oc,od,kV,dc,pm,an,cd,ct,sl,a,l,c,k,n⟩
variable {h : Heap} {mg : Str -> Option Value} {P : Program} {w : World} {base : Heap} {k : Nat} {ps : List Str} {sp : Sp} {CX : CXT}
def Gd (P:Program) (w:World) (K:W.Frag) (mg:Str->Option Value) (base:Heap) (CX:CXT) (f:Addr) (k:Nat) (ps:List Str) (sp:Sp):Prop:=∃ fd,xG P w K mg base CX k f fd ps sp/\W.keepIn K (.ref f)=true/\W.isFn K (.ref f)=true/\xJ K fd ps []
theorem zEO (d:Dm K q m st .none C f) (ok : ∀ fd,Y0 K m q st f fd->xG P w K mg base CX k f fd ps sp)
  (hb : ∀ (kV dc pm:Value) (an:Option Addr) (cd ct:Value) (us:List Value),us.length=ps.length->bindArgs (W.fnOf m q (qC st) (zm st) (zE st) .none kV dc pm an cd ct) ⟨us,[]⟩=pure (ps.zip us)):Gd P w K mg base CX f k ps sp:=by
 obtain ⟨_,_,_,_,_,_,_,_,_,a,l,c,k',n⟩:=d
 exact ⟨_,ok _ (KM l c k'),k',n,.all (hb _ _ _ _ _ _)⟩
theorem zEV {oc':Value} {od':Option Addr} {n':Nat} {osl:Array (Option Value)} (d:Dm K q m st (.ref t) C f) (hl:K.lookup t=some ⟨oc',od',.seq it n',osl⟩) (ok : ∀ fd,Y0 K m q st f fd->xG P w K mg base CX k f fd ps sp)
  (hb : ∀ (kV dc pm:Value) (an:Option Addr) (cd ct:Value) (us:List Value),us.length=ps.length -> ∃ k,bindArgs (W.fnOf m q (qC st) (zm st) (zE st) (.ref t) kV dc pm an cd ct) ⟨us,[]⟩=seqItems? (.ref t) >>= k/\k (some it)=pure (ps.zip us)):Gd P w K mg base CX f k ps sp:=by
 obtain ⟨_,_,_,_,_,_,_,_,_,a,l,c,k',n⟩:=d
 exact ⟨_,ok _ (KM l c k'),k',n,Vy hl rfl (hb _ _ _ _ _ _)⟩
theorem zHw (g:Gd P w K mg base CX f k ps sp) (a:W.findIn K (.ref C) m=some (some (.ref f))):zG1 P w K mg base CX C m k ps sp:=let ⟨fd,o,kp,fn,b⟩:=g;⟨f,fd,o,⟨a,fn,kp⟩,b⟩
theorem zH0 (g:Gd P w K mg base CX f k ps sp) (i1:W.makesIn K C=true) (i2:W.findIn K (.ref C) "__init__" = some (some (.ref f))) (i4:W.keepIn K (.ref C)=true):zGv P w K mg base CX C k ps sp:=let ⟨fd,o,kp,fn,b⟩:=g;⟨f,fd,o,⟨i1,i2,fn,i4⟩,b⟩
theorem zHm (g:Gd P w K mg base CX f k ps sp) (c1:W.specialIn K (.ref C) "__getattribute__" = some (some (.builtin "type.__getattribute__"))) (c2:W.readsIn K C (.type "type")=true) (c3:W.findCls K (.ref C) (.type "type") m=some (.val (.ref f))):zGD P w K mg base CX C m k ps sp:=let ⟨fd,o,kp,fn,b⟩:=g;⟨f,fd,o,⟨c1,c2,c3,kp⟩,b⟩
end
section
variable {K : W.Frag} {σ : St} {H : Hp} {Q : VK} {is : List Nat} {tt : TT} {te : TE}
theorem qP {a:Addr} {xs:List V} (hx:SqL K H a xs) (hz:xs.length<=sizeLine) (Pv:Nat->List V->Hp->Prop) (h0:Pv 0 [] H) (hl : ∀ i ys H,i<=xs.length->Pv i ys H->SqL K H a xs/\ys.length<=i)
  (hs : ∀ i x ys H,xs[i]? = some x->i < xs.length->Pv i ys H->tt (some x::is.map fun j=>(σ[j]?).getD none) H fun ok H2=>if ok=true then te (some x::is.map fun j=>(σ[j]?).getD none) H2 fun y H3=>NxC xs.length Pv i (ys++[y]) H3 else NxC xs.length Pv i ys H2)
  (hd : ∀ ys H,Pv xs.length ys H -> ∀ p H',zY H H'->H p=none->H' p=some (.lst ys)->Q (.ref p) H'):zBa K is tt te σ Q (.ref a) H:=by
 refine ⟨a,rfl,⟨xs,hx⟩,fun i m ys H=>m=xs.length - i/\i<=xs.length/\Pv i ys H,⟨xs.length,by simp,Nat.zero_le _,h0⟩,?_⟩
 rintro i m ys H ⟨rfl,hi,p⟩
 obtain ⟨q,ly⟩:=hl i ys H hi p
 refine ⟨by omega,?_⟩
 by_cases hlt:i < xs.length
 ·refine .inr ⟨⟨xs,xs[i],q,by simp [hlt]⟩,by omega,fun x H' y=>?_⟩
  obtain ⟨e,y⟩:=y
  subst e
  exact hs i x ys _ (y xs q) hlt p
 ·have e:i=xs.length:=by omega
  subst e
  exact .inl ⟨⟨xs,q,Nat.le_refl _⟩,fun p' hp=>hd ys H p p' _ (jM hp _) hp zQ⟩
end
section
variable {σ : St} {H : Hp} {Q : VK} {is : List Nat} {tt : TT} {te : TE}
def KA (is:List Nat) (tt:TT) (te:TE) (σ:St) (Q:VK) (vs:List V) (H:Hp):Prop:=∃ i j:Int,vs=[.int i,.int j]/\(-(2 ^ 62)<=i/\i < 2 ^ 62 /\ -(2 ^ 62)<=j/\j < 2 ^ 62)/\V6 is tt te σ Q (Itr i (j - i).toNat) H
theorem zA3 {ta:TA} (h:ta σ H (KA is tt te σ Q)):Vi is (zCM ta) tt te σ H Q:=h
theorem Wl {lo hi:Int} (hb : -(2 ^ 62)<=lo/\lo < 2 ^ 62 /\ -(2 ^ 62)<=hi/\hi < 2 ^ 62) (hz:(hi - lo).toNat<=sizeLine) (Pv:Nat->List V->Hp->Prop) (h0:Pv 0 [] H) (hl : ∀ i ys H,i<=(hi - lo).toNat->Pv i ys H->ys.length<=i)
  (hs : ∀ i ys H,i < (hi - lo).toNat->Pv i ys H->tt (some (.int (lo+i))::is.map fun j=>(σ[j]?).getD none) H fun ok H2=>if ok=true then te (some (.int (lo+i))::is.map fun j=>(σ[j]?).getD none) H2 fun y H3=>NxC (hi - lo).toNat Pv i (ys++[y]) H3 else NxC (hi - lo).toNat Pv i ys H2)
  (hd : ∀ ys H,Pv (hi - lo).toNat ys H -> ∀ p H',zY H H'->H p=none->H' p=some (.lst ys)->Q (.ref p) H'):KA is tt te σ Q [.int lo,.int hi] H:=by
 refine ⟨lo,hi,rfl,hb,fun i m ys H=>m=(hi - lo).toNat - i/\i<=(hi - lo).toNat/\Pv i ys H,⟨(hi - lo).toNat,by simp,Nat.zero_le _,h0⟩,?_⟩
 rintro i m ys H ⟨rfl,hi',p⟩
 have ly:=hl i ys H hi' p
 refine ⟨by omega,?_⟩
 by_cases hlt:i < (hi - lo).toNat
 ·refine .inr ⟨hlt,by omega,fun x H' y=>?_⟩
  obtain ⟨e,y⟩:=y
  subst e y
  exact hs i ys _ hlt p
 ·have e:i=(hi - lo).toNat:=by omega
  subst e
  exact .inl ⟨Nat.le_refl _,fun p' hp=>hd ys H p p' _ (jM hp _) hp zQ⟩
end
set_option maxHeartbeats 400000
def tHd (K:W.Frag) (C1 C2:Addr) (ts:TS):Addr->TS:=fun C D σ H=>W.exmAny K (.ref C) [.ref C1,.ref C2]=some true/\ts D σ H
section
variable {X : Cx} {c1 c2 : Str} {C1 C2' : Addr} {ts : TS} {th : Addr -> TS} {p1 p2 tpos hpos : Pos} {kk : Nat} {b₀ : Stmt} {suite : List Stmt} {Qf : List ExceptHandler}
theorem zBF (g1:Gl X c1) (m1:X.mg c1=some (.ref C1)) (g2:Gl X c2) (m2:X.mg c2=some (.ref C2')) (hs : ∀ y,PSs (X.inExc y) (b₀::suite) ts)
  (d1:(c1 == ("__debug__" : Str))=false:=by decide) (d2:(c2 == ("__debug__" : Str))=false:=by decide) :
  PHs X (.ExceptHandler (some (.Tuple [.Name c1 p1,.Name c2 p2] kk tpos)) none (b₀::suite) hpos::Qf) (tHd X.K C1 C2' ts):=by
 intro pins s σ H D y C B a0 fly I clo h
 obtain ⟨exm,q⟩:=h
 refine wpAny_handleBy_cons (codeAny_handlers_test ?_) (by intro q;cases q)
 refine wpAny_Tuple (wpAny_items_cons (jB (I.inExc y) g1 m1 (wpAny_items_cons (jB (I.inExc y) g2 m2 (wpAny_items_nil ⟨by size_fits,?_⟩) d2)) d1))
 have kp : ∀ b o,s.heap.get? b=some o->(s.heap.push { cls:=.type "tuple", data:=.seq [Value.ref C1,Value.ref C2'].toArray }).get? b=some o:=fun _ _ z=>Heap.get?_push_of_some _ z
 have ty2:W.Looks (model X.prog X.w) s.heap (typeOf (.ref y)) (.ref C):=(isx fly).ty
 refine (W.exm_tup2 (M:=model X.prog X.w) (I.kIn.keeps kp) (ty2.keeps kp) (Heap.get?_push_size s.heap rfl) exm).here ?_
 have up:s.heap.UpToSlots (s.heap.push { cls:=.type "tuple", data:=.seq [Value.ref C1,Value.ref C2'].toArray }):=Heap.UpToSlots.of_keeps kp
 have fly3:Heap.FlyingW B (X.env::X.outer) y (.ref C) a0 (s.heap.push { cls:=.type "tuple", data:=.seq [Value.ref C1,Value.ref C2'].toArray }):=by
  obtain ⟨f1,f2,f3,oe,vs,t,ot,ts,q1,q2,q3,q4,q5,q6,q7,q8,q9⟩:=fly
  exact ⟨fun b o z=>kp b o (f1 b o z),f2,f3.of_keeps fun b o z _=>⟨o,kp b o z,rfl⟩,oe,vs,t,ot,ts,kp _ _ q1,q2,q3,q4,q5,q6,kp _ _ q7,q8,q9⟩
 refine codeAny_handlers_suite (lands_againW fly3 fun h3 fly3' sm3=>?_)
 have I3:=clo h3 fly3'.1 (up.trans sm3)
 exact wpAny_mono (hs y pins _ σ H D (I3.inExc y) q) (fun f s6 sp6=>sp6.outExc I.ok) fun _ _ z=>z.elim
theorem zHT {C C2:Addr} {D:kD} {σ:St} (e:W.exmAny K (.ref C) [.ref C1,.ref C2]=some true) (h:ts D σ H):tHd K C1 C2 ts C D σ H:=⟨e,h⟩
end
def kA {α:Type} (a b:Nat) (pl:List (Nat ⊕ α)) (us ws:List α):List α:=bif us.length == a && ws.length == b then pl.filterMap (fun | .inl i=>(us++ws)[i]? | .inr d=>some d) else []
set_option maxHeartbeats 4000000
section
variable {X : Cx}
theorem yL : ∀ {us:List Value} {ss:List Str},StrsAre us ss->z9 (ss.map V.str) us
 | _,_,.nil=>.nil
 | _,_,.cons n t h=>.cons ⟨t,rfl⟩ (yL h)
theorem yc : ∀ {us:List Value} {ss:List Str},z9 (ss.map V.str) us->StrsAre us ss
 | _,[],.nil=>.nil
 | _,s::ss,.cons ⟨t,e⟩ h=>by subst e;exact .cons s t (yc h)
theorem zBJ {ms:List Str} {cs:List (List Nat)} (h:ms.Perm (cs.map T)) : ∃ ds:List (List Nat),ds.Perm cs/\ms=ds.map T:=by
 refine ⟨ms.map Lt,?_,?_⟩
 ·have:=h.map Lt
  rwa [map_map,show (Lt ∘ T)=id from funext fun l=>QG l,map_id] at this
 ·rw [map_map]
  have hm : ∀ s ∈ ms,(T ∘ Lt) s=s:=fun s hs=>by
   obtain ⟨c,_,rfl⟩:=List.mem_map.mp (h.mem_iff.mp hs)
   show T (Lt (T c))=T c
   rw [QG]
  conv=>lhs;rw [<- map_id ms]
  exact (List.map_congr_left hm).symm
end
set_option maxHeartbeats 1000000
section
variable {M : Model} {A : Around} {E : Value -> Shared -> Prop} {s : Shared} {base : Heap} {env : Env} {outer : List Env} {L e : Addr} {Q : Unit -> Shared -> Prop}
theorem VP {cls:Value} (fr:A.frames=some (env::outer)) (ef:env.frame=some L) (fly:Heap.FlyingW base (env::outer) e cls a0 s.heap) (c2:C2 s.heap e)
  (k : ∀ h',Heap.FlyingW base outer e cls a0 h'->C2 h' e->s.heap.UpToSlots h'->Q () { s with heap:=h' }):wpAny M A (leaving env (.ref e)) Q E s:=by
 unfold leaving
 refine wpAny_bind (zBR fr ef fly c2 fun h1 held c1 sm1=>?_)
 exact zBk (s:={ s with heap:=h1 }) held c1 fun h2 fl c3 sm2=>k h2 ⟨fl.1,fl.2.1,fl.2.2.1.2.2,fl.2.2.2⟩ c3 (sm1.trans sm2)
end
section
variable {P : Program} {w : World} {K : W.Frag} {mg : Str -> Option Value} {base : Heap} {N : List Str} {qual : Str} {scope : Scope} {f : Addr} {cd : Value} {A : Around} {outer : List Env} {s : Shared} {H : Hp} {E : XK}
theorem VI:j5 (YA P w) (kC (YA P w) P w K mg base N qual scope f cd A outer s H E) E:=by
 intro pins σ H1 s1 e s' I1 fl
 obtain ⟨x,C,a0,H',B,rfl,hos,hbare,fly,c2,clo,hx1,hx2,q⟩:=fl
 refine VP I1.ok.frames rfl fly c2 fun h2 fly2 c3 sm=>?_
 refine ⟨x,C,a0,H',B,rfl,hos.trans I1.os,hbare,fly2,c3,fun h3 st sm3=>?_,?_,hx2,q⟩
 ·have cl:=clo h3 st (sm.trans sm3)
  have I3:=I1.call' (s':={ s' with heap:=h3 }) hos cl.1 cl.2 hbare (fun b z=>nomatch z)
  exact ⟨I3.base,I3.hok⟩
 ·cases z:s.heap.get? x with
  | none=>rfl
  | some o =>
   obtain ⟨o',e1⟩:=I1.base.there x o z (fun h=>nomatch h)
   rw [hx1] at e1;cases e1
end
theorem C2.keep {h':Heap} {x:Addr} (c:C2 h x) (k : ∀ o,h.get? x=some o->h'.get? x=some o):C2 h' x:=let ⟨o,vs,a,r⟩:=c;⟨o,vs,k o a,r⟩
structure XF (k:Nat) (y:Addr) (A:Around):Prop where
 hd:A.handled=some (.ref y)
 dp:A.depth+3*k+5 < recursionLimit
 un:A.units+16*k+200 < cLine
variable {y:Addr}
theorem XF.mono (r:XF k y A) (h:j<=k):XF j y A:=⟨r.hd,by have:=r.dp;omega,by have:=r.un;omega⟩
theorem XF.deeper (r:XF (k+1) y A) (env:Env):XF k y (A.deeper env):=
 ⟨r.hd,by have:=r.dp;show A.depth+1+3*k+5 < _;omega,by have:=r.un;show A.units+3+16*k+200 < _;omega⟩
theorem XF.depth (r:XF k y A):A.depth < recursionLimit:=by have:=r.dp;omega
set_option maxHeartbeats 4000000
set_option maxHeartbeats 1000000
theorem Y0.okX2 {st:Stmt} {f:Addr} (F:Y0 K x qual st f fd) (S:zN N ps (zE st)) (len : ∀ vs H Q E,sp vs H Q E->vs.length=ps.length)
  (hbody : ∀ (cdv:Value) (A:Around) (outer:List Env) (s:Shared) (H:Hp) (vs:List V) (Q:VK) (E:XK),xA k (A.deeper (envOfC qual (zE st) s.heap.objs.size f cdv))->sp vs H Q E ->
   KR (kC (YA P w) P w K mg base N qual (zE st) f cdv A outer s H E) E->j5 (YA P w) (kC (YA P w) P w K mg base N qual (zE st) f cdv A outer s H E) E -> ∃ t,PSs (kC (YA P w) P w K mg base N qual (zE st) f cdv A outer s H E) (zm st) t/\t { nx:=fun _ H'=>Q .non H',rt:=Q } (start N vs) H):xG P w K mg base (YA P w) (k+1) f fd ps sp:=by
 obtain ⟨oc,od,dV,kV,doc,pm,an,cdv,ct,osl,rfl,lk,hcd⟩:=F.ex
 exact V1 lk hcd S len fun A outer s H vs Q E hr hsp=>hbody cdv A outer s H vs Q E hr hsp (fun pins σ H s h' x C args I hm q=>wM I hm q) VI
theorem n0N {α:Type} {P:List α->Prop} (h:P []) : ∀ us:List α,us.length=0->P us
 | [],_=>h
theorem nSN {α:Type} {P:List α->Prop} (h : ∀ (a:α) (us:List α),us.length=n->P (a::us)) : ∀ us:List α,us.length=n+1->P us
 | a::us,e=>h a us (Nat.succ.inj e)
section
variable {α : Type} {P : List α -> Prop}
theorem l0N (h:P []) : ∀ us:List α,us.length=0->P us:=n0N h
theorem l1N (h : ∀ a,P [a]) : ∀ us:List α,us.length=1->P us:=nSN fun a=>n0N (h a)
theorem l2N (h : ∀ a b,P [a,b]) : ∀ us:List α,us.length=2->P us:=nSN fun a=>nSN fun b=>n0N (h a b)
theorem l3N (h : ∀ a b c,P [a,b,c]) : ∀ us:List α,us.length=3->P us:=nSN fun a=>nSN fun b=>nSN fun c=>n0N (h a b c)
theorem l4N (h : ∀ a b c d,P [a,b,c,d]) : ∀ us:List α,us.length=4->P us:=nSN fun a=>nSN fun b=>nSN fun c=>nSN fun d=>n0N (h a b c d)
theorem l5N (h : ∀ a b c d e,P [a,b,c,d,e]) : ∀ us:List α,us.length=5->P us:=nSN fun a=>l4N fun b c d e=>h a b c d e
theorem l6N (h : ∀ a b c d e f,P [a,b,c,d,e,f]) : ∀ us:List α,us.length=6->P us:=nSN fun a=>l5N fun b c d e f=>h a b c d e f
theorem l8N (h : ∀ a b c d e f g i,P [a,b,c,d,e,f,g,i]) : ∀ us:List α,us.length=8->P us:=nSN fun a=>nSN fun b=>l6N fun c d e f g i=>h a b c d e f g i
theorem zHV (h : ∀ a b c d e f g i j k,P [a,b,c,d,e,f,g,i,j,k]) : ∀ us:List α,us.length=10->P us:=nSN fun a=>nSN fun b=>l8N fun c d e f g i j k=>h a b c d e f g i j k
theorem zHl (h : ∀ a b c d e f g i j k l m n,P [a,b,c,d,e,f,g,i,j,k,l,m,n]) : ∀ us:List α,us.length=13->P us:=nSN fun a=>nSN fun b=>nSN fun c=>zHV fun d e f g i j k l m n=>h a b c d e f g i j k l m n
end
def Kn (K:W.Frag) (mg:Str->Option Value):Prop:=∃ h:Heap,K.In h/\h.Ns mainGlobals mg
def Dfx (K:W.Frag) (x:Str) (st:Stmt):Prop:=∃ f,Df K x st f
def zAU (K:W.Frag) (m:Str) (f:Addr):List Addr->Prop
 | []=>True
 | C::r=>W.findIn K (.ref C) m=some (some (.ref f))/\zAU K m f r
theorem zAU.at {K:W.Frag} {m:Str} {f C:Addr} : ∀ {l:List Addr},zAU K m f l->C ∈ l->W.findIn K (.ref C) m=some (some (.ref f))
 | _::_,h,.head _=>h.1
 | _::_,h,.tail _ k=>zAU.at h.2 k
theorem in0 {α:Type} {a:α} {l:List α}:a ∈ a::l:=.head _
theorem in1 {α:Type} {a b:α} {l:List α}:b ∈ a::b::l:=.tail _ (.head _)
theorem in2 {α:Type} {a b c:α} {l:List α}:c ∈ a::b::c::l:=.tail _ (.tail _ (.head _))
def Dmx (K:W.Frag) (q m:Str) (st:Stmt) (C:Addr) (Cs:List Addr):Prop:=∃ f,Dm K q m st .none C f/\zAU K m f Cs
def Ddx (K:W.Frag) (q m:Str) (st:Stmt) (C:Addr) (Cs:List Addr) (n:Nat):Prop:=∃ (f t:Addr) (oc:Value) (od:Option Addr) (vs:List Value) (nn:Nat) (sl:Array (Option Value)),vs.length=n/\Dm K q m st (.ref t) C f/\K.lookup t=some ⟨oc,od,.seq vs.toArray nn,sl⟩/\zAU K m f Cs
def Dcx (K:W.Frag) (q m:Str) (st:Stmt) (C:Addr):Prop:=∃ f,Dm K q m st .none C f/\W.specialIn K (.ref C) "__getattribute__" = some (some (.builtin "type.__getattribute__"))/\W.readsIn K C (.type "type")=true/\W.findCls K (.ref C) (.type "type") m=some (.val (.ref f))
def MkI (K:W.Frag) (C:Addr):Prop:=W.makesIn K C=true/\W.keepIn K (.ref C)=true
section
variable {K : W.Frag} {x q m : Str} {st : Stmt} {f C t : Addr} {oc dV : Value} {od : Option Addr} {kV dc pm : Value} {an : Option Addr} {cd ct : Value} {sl : Array (Option Value)} {Cs : List Addr}
theorem dfx_mk (a:W.nsIn K mainGlobals x=some (some (.ref f))) (l:K.lookup f=some ⟨oc,od,.func (W.fnOf x x (qC st) (zm st) (zE st) .none kV dc pm an cd ct),sl⟩) (c:W.codeIn K cd x=true) (k:W.keepIn K (.ref f)=true):Dfx K x st:=⟨f,zGR a l c k⟩
theorem dmx_mk (a:W.findIn K (.ref C) m=some (some (.ref f))) (l:K.lookup f=some ⟨oc,od,.func (W.fnOf m q (qC st) (zm st) (zE st) .none kV dc pm an cd ct),sl⟩) (c:W.codeIn K cd q=true) (k:W.keepIn K (.ref f)=true) (n:W.isFn K (.ref f)=true) (i:zAU K m f Cs):Dmx K q m st C Cs:=⟨f,zCo a l c k n,i⟩
theorem ddx_mk {oc':Value} {od':Option Addr} {nn n':Nat} {sl':Array (Option Value)} (a:W.findIn K (.ref C) m=some (some (.ref f))) (l:K.lookup f=some ⟨oc,od,.func (W.fnOf m q (qC st) (zm st) (zE st) (.ref t) kV dc pm an cd ct),sl⟩) (c:W.codeIn K cd q=true) (k:W.keepIn K (.ref f)=true) (n:W.isFn K (.ref f)=true)
  (d:K.lookup t=some ⟨oc',od',.seq it nn,sl'⟩) (s:it.size=n') (i:zAU K m f Cs):Ddx K q m st C Cs n':=⟨f,t,oc',od',it.toList,nn,sl',by simpa using s,zCo a l c k n,by simpa using d,i⟩
theorem dcx_mk (a:W.findIn K (.ref C) m=some (some (.ref f))) (l:K.lookup f=some ⟨oc,od,.func (W.fnOf m q (qC st) (zm st) (zE st) .none kV dc pm an cd ct),sl⟩) (c:W.codeIn K cd q=true) (k:W.keepIn K (.ref f)=true) (n:W.isFn K (.ref f)=true) (c1:W.specialIn K (.ref C) "__getattribute__" = some (some (.builtin "type.__getattribute__"))) (c2:W.readsIn K C (.type "type")=true) (c3:W.findCls K (.ref C) (.type "type") m=some (.val (.ref f))):Dcx K q m st C:=⟨f,zCo a l c k n,c1,c2,c3⟩
variable {mg : Str -> Option Value} {P : Program} {w : World} {base : Heap} {k : Nat} {ps : List Str} {sp : Sp} {CX : CXT}
theorem xF (z:Kn K mg) (d:Dfx K x st) (hb : ∀ us:List Value,us.length=ps.length -> ∀ (kV doc pm:Value) (an:Option Addr) (cdv ct:Value),bindArgs (W.fnOf x x (qC st) (zm st) (zE st) .none kV doc pm an cdv ct) ⟨us,[]⟩=pure (ps.zip us))
  (ok : ∀ fq fd,Fun K x x st fq fd->xG P w K mg base CX k fq fd ps sp) : ∃ (f:Addr) (fd:FuncData),xG P w K mg base CX k f fd ps sp/\mg x=some (.ref f)/\W.keepIn K (.ref f)=true/\xJ K fd ps []:=by
 obtain ⟨h,X,G⟩:=z
 obtain ⟨f,_,_,_,_,_,_,_,_,_,a,l,c,k'⟩:=d
 have F:=zBe l c k'
 exact ⟨f,_,ok _ _ F,W.mg_of X G a,k',F.binds fun _ _ _ _ _ _ us hl=>hb us hl _ _ _ _ _ _⟩
def Gx (P:Program) (w:World) (K:W.Frag) (mg:Str->Option Value) (base:Heap) (CX:CXT) (m:Str) (Cs:List Addr) (k:Nat) (ps:List Str) (sp:Sp):Prop:=∃ f,Gd P w K mg base CX f k ps sp/\zAU K m f Cs
theorem W4 (d:Dmx K q m st C Cs) (hb : ∀ us:List Value,us.length=ps.length -> ∀ (kV dc pm:Value) (an:Option Addr) (cd ct:Value),bindArgs (W.fnOf m q (qC st) (zm st) (zE st) .none kV dc pm an cd ct) ⟨us,[]⟩=pure (ps.zip us))
  (ok : ∀ fq fd,Y0 K m q st fq fd->xG P w K mg base CX k fq fd ps sp):Gx P w K mg base CX m Cs k ps sp:=by
 obtain ⟨f,d,i⟩:=d
 exact ⟨f,zEO d (ok f) fun _ _ _ _ _ _ us hl=>hb us hl _ _ _ _ _ _,i⟩
theorem zCK (d:Ddx K q m st C Cs n) (hb : ∀ vs:List Value,vs.length=n -> ∀ us:List Value,us.length=ps.length -> ∀ (t:Addr) (kV dc pm:Value) (an:Option Addr) (cd ct:Value),∃ k,bindArgs (W.fnOf m q (qC st) (zm st) (zE st) (.ref t) kV dc pm an cd ct) ⟨us,[]⟩=seqItems? (.ref t) >>= k/\k (some vs.toArray)=pure (ps.zip us))
  (ok : ∀ fq fd,Y0 K m q st fq fd->xG P w K mg base CX k fq fd ps sp):Gx P w K mg base CX m Cs k ps sp:=by
 obtain ⟨f,t,oc,od,vs,nn,sl,hn,d,hl,i⟩:=d
 exact ⟨f,zEV d hl (ok f) fun _ _ _ _ _ _ us hu=>hb vs hn us hu _ _ _ _ _ _ _,i⟩
theorem zHn (d:Dcx K q m st C) (hb : ∀ us:List Value,us.length=ps.length -> ∀ (kV dc pm:Value) (an:Option Addr) (cd ct:Value),bindArgs (W.fnOf m q (qC st) (zm st) (zE st) .none kV dc pm an cd ct) ⟨us,[]⟩=pure (ps.zip us))
  (ok : ∀ fq fd,Y0 K m q st fq fd->xG P w K mg base CX k fq fd ps sp):zGD P w K mg base CX C m k ps sp:=by
 obtain ⟨f,d,c1,c2,c3⟩:=d
 exact zHm (zEO d (ok f) fun _ _ _ _ _ _ us hl=>hb us hl _ _ _ _ _ _) c1 c2 c3
theorem Xc (g:Gx P w K mg base CX m Cs k ps sp) (h:C ∈ Cs):zG1 P w K mg base CX C m k ps sp:=let ⟨_,g,i⟩:=g;zHw g (i.at h)
theorem zGz (g:Gx P w K mg base CX "__init__" [C] k ps sp) (h:MkI K C):zGv P w K mg base CX C k ps sp:=let ⟨_,g,i⟩:=g;zH0 g h.1 i.1 h.2
end
set_option maxHeartbeats 4000000
def XS (K:W.Frag):List V->Hp->VK->Prop:=fun xs H Q=>∃ (p:Addr) (ss:List Str),xs=[.ref p]/\SqL K H p (ss.map V.str)/\ss.length < 64 /\
 ∀ (ms:List Str) (q:Addr) (H':Hp),ms.Perm ss->sortedS ms=true->zY H H'->H q=none->H' q=some (.lst (ms.map V.str))->Q (.ref q) H'
theorem Q7:jx X (.builtin "sorted") (XS X.K):=by
 intro pins s σ H xs us Q I r h
 obtain ⟨p,ss,rfl,hq,h64,q⟩:=h
 obtain ⟨u,rfl,rx⟩:=JH r
 cases rx
 obtain ⟨its,r',pl,hz⟩:=I.list hq
 have hl:=r'.length
 rw [length_map] at hl hz
 refine sorted_strs pl.isList (yc r') (by omega) fun out ms hi hp hs=>?_
 obtain ⟨e,he⟩:=sortedAll_at s.heap its out
 have hms:ms.length=ss.length:=hp.length_eq
 have hf:H (s.heap.objs.size+1)=none:=I.hok.fresh (le_succ _)
 refine ⟨.ref (s.heap.objs.size+1),upd H (s.heap.objs.size+1) (.lst (ms.map V.str)),I.laid (t':=s.toks) (fun _ _=>sortedAll_old) (le_succ _) ⟨by rw [length_map,hms];exact hz,out.toList,e,yL hi,?_⟩,rfl,q _ _ _ hp hs (jM hf _) hf zQ⟩
 rw [he,Array.toArray_toList]
def SrT (ds:List (List Nat)):Prop:=sortedS (ds.map T)=true
section
variable {K : W.Frag} {H : Hp} {Q : VK}
theorem Vw {p:Addr} {cs:List (List Nat)} (h:H p=some (.lst (tsV cs))) (h64:cs.length < 64) (q : ∀ (ds:List (List Nat)) (q:Addr) (H':Hp),ds.Perm cs->SrT ds->zY H H'->H q=none->H' q=some (.lst (tsV ds))->Q (.ref q) H'):XS K [.ref p] H Q:=by
 have e:tsV cs=(cs.map T).map V.str:=by unfold tsV;rw [map_map];rfl
 refine ⟨p,cs.map T,rfl,SqL.of (e ▸ h),by rw [length_map];exact h64,fun ms q' H' hp so g n e'=>?_⟩
 obtain ⟨ds,hd,rfl⟩:=zBJ hp
 exact q ds q' H' hd so g n (by rw [e'];unfold tsV;rw [map_map];rfl)
end
theorem Jt : ∀ {l:List Str} {p:Str} {i:Nat} {a b:Str},risingS p l=true->(p::l)[i]? = some a->l[i]? = some b->ltCps b.cps.toList a.cps.toList=false
 | x::r,p,0,a,b,h,ha,hb=>by
  cases ha;cases hb
  have h:(!ltCps x.cps.toList p.cps.toList && risingS x r)=true:=h
  rw [Bool.and_eq_true,Bool.not_eq_true'] at h;exact h.1
 | x::r,p,i+1,a,b,h,ha,hb=>by
  have h:(!ltCps x.cps.toList p.cps.toList && risingS x r)=true:=h
  rw [Bool.and_eq_true] at h
  exact Jt h.2 (by simpa using ha) (by simpa using hb)
 | [],_,_,_,_,_,_,hb=>by simp at hb
variable {i:Nat}
theorem Jj {ds:List (List Nat)} {b:List Nat} (h:SrT ds) (ha:ds[i]? = some a) (hb:ds[i+1]? = some b) (ne:a≠b):a < b:=by
 cases ds with
 | nil=>simp at ha
 | cons x r =>
  have k:=Jt (l:=r.map T) (p:=T x) (i:=i) (a:=T a) (b:=T b) h (by
   rw [<- map_cons,getElem?_map,ha];rfl) (by rw [getElem?_map,show r[i]? = some b by simpa using hb];rfl)
  rw [ltCps_eq] at k
  have k':a<=b:=fun q=>by
   have z:decide ((T b).cps.toList < (T a).cps.toList)=true:=decide_eq_true (by simpa [T] using q)
   rw [z] at k;cases k
  exact Classical.byContradiction fun q=>ne (List.le_antisymm k' (List.not_lt.mp q))
def xq:Bool->Keyed->Array Keyed->Nat->Nat->Nat->StateT SortSt Sem (Option Nat):=sortPriv% PySem.Builtin.gallop
def YY:Array Keyed->Array Keyed->StateT SortSt Sem (Array Keyed):=sortPriv% PySem.Builtin.mergeLo
section
variable {prog : Program} {w : World} {A : Around} {E : Value -> Shared -> Prop} {s : Shared} {κ : PyProof.Rows.KeyKind}
variable {arr:Array Keyed}
theorem Yd (h0:KeysOf κ arr) (hi:i < arr.size) : ∃ x,arr[i]? = some x/\κ.keyOf x.1=some (KK κ arr i):=by
 have e:arr[i]? = some arr[i]:=getElem?_pos _ i hi
 obtain ⟨a,ha⟩:=h0 arr[i] (by simp)
 exact ⟨arr[i],e,by unfold KK;rw [e];simp [ha]⟩
theorem zh {x:Keyed} {Q:Keyed->SortSt->Prop} {st:SortSt} (e:arr[i]? = some x) (h:Q x st):wpS (model prog w) A E s (elem' arr i) Q st:=by
 rw [elem'_eq,e];exact wpS_pure h
theorem Xt (hO:κ.OneLt) {st:SortSt} {x y:Keyed} {a b:κ.α} {Q:Option Bool->SortSt->Prop} (hk:kindOf st=oneType') (ha:κ.keyOf x.1=some a) (hb:κ.keyOf y.1=some b) (h:Q (some (κ.blt a b)) st) :
  wpS (model prog w) A E s (lt' x y) Q st:=by
 rw [lt'_eq]
 refine wpS_bind (wpS_get ?_)
 rw [hk,keyLt'_oneType]
 refine wpS_bind (wpS_lift (wpAny_attempt (hO prog w A _ s x.1 y.1 a b ha hb ⟨rfl,?_⟩)))
 exact wpS_pure h
def zDq (left:Bool) (key:Keyed) (arr:Array Keyed) (base i:Nat):StateT SortSt Sem (Option Bool):=elem' arr (base+i) >>= fun x=>if left=true then lt' x key else lt' key x >>= fun r=>pure (r.map (!·))
theorem qo (hO:κ.OneLt) {left:Bool} {key:Keyed} {kk:κ.α} {base hint:Nat} {st:SortSt} {Q:Option Nat->SortSt->Prop} (hk:kindOf st=oneType') (hkey:κ.keyOf key.1=some kk) (h0:KeysOf κ arr) (hn:base+n<=arr.size) (hh:hint < n)
  (B:Nat->Bool) (hB : ∀ i,i < n->B i=if left=true then κ.blt (KK κ arr (base+i)) kk else !(κ.blt kk (KK κ arr (base+i)))) (mono : ∀ i j,i<=j->j < n->B j=true->B i=true)
  (h : ∀ m,m<=n->(∀ i,i < m->B i=true)->(∀ i,m<=i->i < n->B i=false)->Q (some m) st):wpS (model prog w) A E s (xq left key arr base n hint) Q st:=by
 have mono' : ∀ i j,i<=j->j < n->B i=false->B j=false:=fun i j hij hj e=>by
  cases e':B j with
  | false=>rfl
  | true=>rw [mono i j hij hj e'] at e;cases e
 have hby : ∀ i,i < n -> ∀ Q':Option Bool->SortSt->Prop,Q' (some (B i)) st->wpS (model prog w) A E s (zDq left key arr base i) Q' st:=by
  intro i hi Q' q
  obtain ⟨x,e,kx⟩:=Yd h0 (i:=base+i) (by omega)
  rw [hB i hi] at q
  refine wpS_bind (zh e ?_)
  cases left with
  | true=>exact Xt hO hk kx hkey q
  | false=>exact wpS_bind (Xt hO hk hkey kx (wpS_pure q))
 refine wpS_bind (m:=zDq left key arr base hint) (hby hint hh _ ?_)
 dsimp only
 cases hr:B hint with
 | true =>
  rw [if_pos rfl]
  refine wpS_bind (wpS_mono (wpS_forRange (I:=fun x c st'=>st=st' /\ ∃ l o,c=(none,l,o)/\x+1<=o/\l < o/\hint+l < n/\B (hint+l)=true) (Q:=fun c st'=>st=st' /\ ∃ l o,c=(none,l,o)/\l < o/\hint+l < n/\B (hint+l)=true/\(n - hint<=o\/(o < n - hint/\B (hint+o)=false))) ?s1 ?f1 ⟨rfl,0,1,rfl,by omega,by omega,by omega,hr⟩) ?p1)
  case f1 =>
   rintro c st' ⟨rfl,l,o,rfl,h1,h2,h3,h4⟩
   exact ⟨rfl,l,o,rfl,h2,h3,h4,.inl (by omega)⟩
  case s1 =>
   rintro x c st' _ hx ⟨rfl,l,o,rfl,h1,h2,h3,h4⟩
   dsimp only
   by_cases ho:o ≥ n - hint
   ·rw [if_pos ho]
    exact wpS_pure ⟨rfl,l,o,rfl,h2,h3,h4,.inl ho⟩
   ·rw [if_neg ho]
    refine wpS_bind (m:=zDq left key arr base (hint+o)) (hby _ (by omega) _ ?_)
    dsimp only
    cases hb:B (hint+o) with
    | true =>
     rw [if_neg (by decide)]
     exact wpS_pure ⟨rfl,o,2*o+1,rfl,by omega,by omega,by omega,hb⟩
    | false =>
     rw [if_pos (by decide)]
     exact wpS_pure ⟨rfl,l,o,rfl,h2,h3,h4,.inr ⟨by omega,hb⟩⟩
  rintro c st' ⟨rfl,l,o,rfl,h2,h3,h4,h5⟩
  dsimp only
  refine wpS_bind (wpS_mono (wpS_forRange (I:=fun x c st'=>st=st' /\ ∃ lo hi,c=(none,lo,hi)/\lo<=hi/\hi<=n/\hi - lo<=n - x/\(∀ i,i < lo->B i=true)/\(∀ i,hi<=i->i < n->B i=false)) (Q:=fun c st'=>st=st' /\ ∃ lo,c=(none,lo,lo)/\lo<=n/\(∀ i,i < lo->B i=true)/\(∀ i,lo<=i->i < n->B i=false)) ?s2 ?f2 ?i2) ?p2)
  case i2=>exact ⟨rfl,_,_,rfl,by omega,by omega,by omega,fun i hi=>mono _ _ (by omega) h3 h4,fun i h6 h7=>by
    rcases h5 with h5 | ⟨h5,h8⟩
    ·omega
    ·exact mono' _ _ (by omega) h7 h8⟩
  case f2 =>
   rintro c st' ⟨rfl,lo,hi,rfl,a1,a2,a3,a4,a5⟩
   have e:lo=hi:=by omega
   subst e
   exact ⟨rfl,lo,rfl,a2,a4,a5⟩
  case s2 =>
   rintro x c st' _ hx ⟨rfl,lo,hi,rfl,a1,a2,a3,a4,a5⟩
   dsimp only
   by_cases hge:lo ≥ hi
   ·rw [if_pos hge]
    have e:lo=hi:=by omega
    subst e
    exact wpS_pure ⟨rfl,lo,rfl,a2,a4,a5⟩
   ·rw [if_neg hge]
    refine wpS_bind (m:=zDq left key arr base (lo+(hi - lo) / 2)) (hby _ (by omega) _ ?_)
    dsimp only
    cases hb:B (lo+(hi - lo) / 2) with
    | true =>
     rw [if_pos rfl]
     exact wpS_pure ⟨rfl,_,_,rfl,by omega,by omega,by omega,fun i hi=>mono _ _ (by omega) (by omega) hb,a5⟩
    | false =>
     rw [if_neg Bool.false_ne_true]
     exact wpS_pure ⟨rfl,_,_,rfl,by omega,by omega,by omega,a4,fun i h1 h2=>mono' _ _ h1 h2 hb⟩
  case p2 =>
   rintro c st' ⟨rfl,lo,rfl,a1,a2,a3⟩
   exact wpS_pure (h lo a1 a2 a3)
 | false =>
  rw [if_neg Bool.false_ne_true]
  refine wpS_bind (wpS_mono (wpS_forRange (I:=fun x c st'=>st=st' /\ ∃ l o,c=(none,l,o)/\x+1<=o/\l < o/\l<=hint/\B (hint - l)=false) (Q:=fun c st'=>st=st' /\ ∃ l o,c=(none,l,o)/\l < o/\l<=hint/\B (hint - l)=false/\(hint+1<=o\/(o<=hint/\B (hint - o)=true))) ?s3 ?f3 ⟨rfl,0,1,rfl,by omega,by omega,by omega,hr⟩) ?p3)
  case f3 =>
   rintro c st' ⟨rfl,l,o,rfl,h1,h2,h3,h4⟩
   exact ⟨rfl,l,o,rfl,h2,h3,h4,.inl (by omega)⟩
  case s3 =>
   rintro x c st' _ hx ⟨rfl,l,o,rfl,h1,h2,h3,h4⟩
   dsimp only
   by_cases ho:o ≥ hint+1
   ·rw [if_pos ho]
    exact wpS_pure ⟨rfl,l,o,rfl,h2,h3,h4,.inl ho⟩
   ·rw [if_neg ho]
    refine wpS_bind (m:=zDq left key arr base (hint - o)) (hby _ (by omega) _ ?_)
    dsimp only
    cases hb:B (hint - o) with
    | false =>
     rw [if_neg Bool.false_ne_true]
     exact wpS_pure ⟨rfl,o,2*o+1,rfl,by omega,by omega,by omega,hb⟩
    | true =>
     rw [if_pos rfl]
     exact wpS_pure ⟨rfl,l,o,rfl,h2,h3,h4,.inr ⟨by omega,hb⟩⟩
  rintro c st' ⟨rfl,l,o,rfl,h2,h3,h4,h5⟩
  dsimp only
  refine wpS_bind (wpS_mono (wpS_forRange (I:=fun x c st'=>st=st' /\ ∃ lo hi,c=(none,lo,hi)/\lo<=hi/\hi<=n/\hi - lo<=n - x/\(∀ i,i < lo->B i=true)/\(∀ i,hi<=i->i < n->B i=false)) (Q:=fun c st'=>st=st' /\ ∃ lo,c=(none,lo,lo)/\lo<=n/\(∀ i,i < lo->B i=true)/\(∀ i,lo<=i->i < n->B i=false)) ?s4 ?f4 ?i4) ?p4)
  case i4=>exact ⟨rfl,_,_,rfl,by omega,by omega,by omega,fun i hi=>by
    rcases h5 with h5 | ⟨h5,h8⟩
    ·omega
    ·exact mono _ _ (by omega) (by omega) h8,fun i h6 h7=>mono' _ _ h6 h7 h4⟩
  case f4 =>
   rintro c st' ⟨rfl,lo,hi,rfl,a1,a2,a3,a4,a5⟩
   have e:lo=hi:=by omega
   subst e
   exact ⟨rfl,lo,rfl,a2,a4,a5⟩
  case s4 =>
   rintro x c st' _ hx ⟨rfl,lo,hi,rfl,a1,a2,a3,a4,a5⟩
   dsimp only
   by_cases hge:lo ≥ hi
   ·rw [if_pos hge]
    have e:lo=hi:=by omega
    subst e
    exact wpS_pure ⟨rfl,lo,rfl,a2,a4,a5⟩
   ·rw [if_neg hge]
    refine wpS_bind (m:=zDq left key arr base (lo+(hi - lo) / 2)) (hby _ (by omega) _ ?_)
    dsimp only
    cases hb:B (lo+(hi - lo) / 2) with
    | true =>
     rw [if_pos rfl]
     exact wpS_pure ⟨rfl,_,_,rfl,by omega,by omega,by omega,fun i hi=>mono _ _ (by omega) (by omega) hb,a5⟩
    | false =>
     rw [if_neg Bool.false_ne_true]
     exact wpS_pure ⟨rfl,_,_,rfl,by omega,by omega,by omega,a4,fun i h1 h2=>mono' _ _ h1 h2 hb⟩
  case p4 =>
   rintro c st' ⟨rfl,lo,rfl,a1,a2,a3⟩
   exact wpS_pure (h lo a1 a2 a3)
def kl (κ:PyProof.Rows.KeyKind) (x:Keyed):κ.α:=(κ.keyOf x.1).getD κ.dflt
def Lk (κ:PyProof.Rows.KeyKind) (x y:Keyed):Prop:=κ.kle (kl κ x) (kl κ y)
theorem kQ {x:Keyed} (e:arr[i]? = some x):KK κ arr i=kl κ x:=by unfold KK kl;rw [e]
structure Mg (κ:PyProof.Rows.KeyKind) (a b out:Array Keyed) (ia ib:Nat):Prop where
 pm:out.toList.Perm (a.toList.take ia++b.toList.take ib)
 so:out.toList.Pairwise (Lk κ)
 ua : ∀ x ∈ out.toList,∀ y ∈ a.toList.drop ia,Lk κ x y
 ub : ∀ x ∈ out.toList,∀ y ∈ b.toList.drop ib,Lk κ x y
def GdM (κ:PyProof.Rows.KeyKind) (a b r:Array Keyed):Prop:=r.toList.Perm (a.toList++b.toList)/\r.toList.Pairwise (Lk κ)
theorem Wg {α:Type} (l:List α) (i k:Nat):l.take (i+k)=l.take i++(l.drop i).take k:=by rw [List.take_add]
theorem zAE {α:Type} {l:List α} {y:α} (h:y ∈ l.drop (i+k)):y ∈ l.drop i:=by rw [<- drop_drop] at h;exact mem_of_mem_drop h
variable {out:Array Keyed} {ia ib:Nat}
theorem Mg.appA {a b out':Array Keyed} (h:Mg κ a b out ia ib) (sa:a.toList.Pairwise (Lk κ)) (k:Nat) (e:out'.toList=out.toList++(a.toList.drop ia).take k) (hk : ∀ x ∈ (a.toList.drop ia).take k,∀ y ∈ b.toList.drop ib,Lk κ x y):Mg κ a b out' (ia+k) ib:=by
 have sd:((a.toList.drop ia).take k++(a.toList.drop ia).drop k).Pairwise (Lk κ):=by rw [take_append_drop];exact sa.sublist (List.drop_sublist _ _)
 obtain ⟨s1,s2,s3⟩:=List.pairwise_append.mp sd
 refine ⟨?_,?_,fun x hx y hy=>?_,fun x hx y hy=>?_⟩
 ·rw [e,Wg]
  refine (h.pm.append_right _).trans ?_
  rw [append_assoc,append_assoc]
  exact List.Perm.append_left _ List.perm_append_comm
 ·rw [e];exact List.pairwise_append.mpr ⟨h.so,s1,fun x hx y hy=>h.ua x hx y (mem_of_mem_take hy)⟩
 ·rw [e] at hx
  rcases List.mem_append.mp hx with z | z
  ·exact h.ua x z y (zAE hy)
  ·exact s3 x z y (by rw [drop_drop];exact hy)
 ·rw [e] at hx
  rcases List.mem_append.mp hx with z | z
  ·exact h.ub x z y hy
  ·exact hk x z y hy
theorem Mg.swap {a b:Array Keyed} (h:Mg κ a b out ia ib):Mg κ b a out ib ia:=⟨h.pm.trans List.perm_append_comm,h.so,h.ub,h.ua⟩
theorem Mg.appB {a b out':Array Keyed} (h:Mg κ a b out ia ib) (sb:b.toList.Pairwise (Lk κ)) (k:Nat) (e:out'.toList=out.toList++(b.toList.drop ib).take k) (hk : ∀ x ∈ (b.toList.drop ib).take k,∀ y ∈ a.toList.drop ia,Lk κ x y):Mg κ a b out' ia (ib+k):=(h.swap.appA sb k e hk).swap
theorem Mg.gd {a b:Array Keyed} (h:Mg κ a b out ia ib) (h1:a.size<=ia) (h2:b.size<=ib):GdM κ a b out:=by
 have p:=h.pm
 rw [List.take_of_length_le (by simpa using h1),List.take_of_length_le (by simpa using h2)] at p
 exact ⟨p,h.so⟩
theorem Qd {a:Array Keyed} {x:Keyed} (e:a[i]? = some x):(a.toList.drop i).take 1=[x]:=by
 have e':a.toList[i]? = some x:=by simpa using e
 obtain ⟨h,q⟩:=List.getElem?_eq_some_iff.mp e'
 rw [List.drop_eq_getElem_cons h,q];rfl
theorem Mg.done {a b:Array Keyed} (h:Mg κ a b out ia ib) (sa:a.toList.Pairwise (Lk κ)) (hi:ia<=a.size) (h2:ib=b.size):GdM κ a b (out++a.extract ia a.size++b.extract ib b.size):=by
 have e:(out++a.extract ia a.size++b.extract ib b.size).toList=out.toList++(a.toList.drop ia).take (a.size - ia):=by
  rw [h2];simp [extract_eq_drop_take]
 have m:=h.appA sa (a.size - ia) e fun x hx y hy=>by rw [h2,List.drop_of_length_le (by simp)] at hy;cases hy
 exact m.gd (by omega) (by omega)
theorem Mg.last {a b:Array Keyed} (h:Mg κ a b out ia ib) (sa:a.toList.Pairwise (Lk κ)) (sb:b.toList.Pairwise (Lk κ)) (h1:ia+1=a.size) (hb:ib<=b.size) (la : ∀ x ∈ b.toList,∀ y ∈ a.toList.drop ia,Lk κ x y):GdM κ a b (out++b.extract ib b.size++a.extract ia a.size):=by
 have m1:=h.appB (out':=out++b.extract ib b.size) sb (b.size - ib) (by simp [extract_eq_drop_take]) fun x hx y hy=>la x (mem_of_mem_drop (mem_of_mem_take hx)) y hy
 have m2:=m1.appA (out':=out++b.extract ib b.size++a.extract ia a.size) sa (a.size - ia) (by simp [extract_eq_drop_take]) fun x hx y hy=>by
  rw [List.drop_of_length_le (by simp;omega)] at hy;cases hy
 exact m2.gd (by omega) (by omega)
def Sx (st st':SortSt):Prop:=∃ g,st'=SortSt.mk' (kindOf st) (arrOf st) (pendingOf st) g (failedOf st)
theorem Sx.refl (st:SortSt):Sx st st:=⟨gallopOf st,rfl⟩
theorem Sx.trans {st st1 st2:SortSt} (h:Sx st st1) (k:Sx st1 st2):Sx st st2:=by
 obtain ⟨g,rfl⟩:=h;obtain ⟨g',rfl⟩:=k;exact ⟨g',rfl⟩
theorem Sx.kind {st st':SortSt} (h:Sx st st'):kindOf st'=kindOf st:=by obtain ⟨g,rfl⟩:=h;rfl
theorem Zd {l:List Keyed} (so:l.Pairwise (Lk κ)) {x y:Keyed} (hx:l[i]? = some x) (hy:y ∈ l.drop i):Lk κ x y:=by
 obtain ⟨h,q⟩:=List.getElem?_eq_some_iff.mp hx
 rw [List.drop_eq_getElem_cons h,q] at hy
 rcases List.mem_cons.mp hy with rfl | z
 ·exact KeyOrd.kle_refl _
 ·have s1:(l.drop i).Pairwise (Lk κ):=so.sublist (List.drop_sublist _ _)
  rw [List.drop_eq_getElem_cons h,q] at s1
  exact (List.pairwise_cons.mp s1).1 y z
theorem QO {l:List Keyed} {x:Keyed} (hx:x ∈ (l.drop i).take k) : ∃ j,j < k/\l[i+j]? = some x:=by
 obtain ⟨j,hj⟩:=List.getElem?_of_mem hx
 rw [List.getElem?_take] at hj
 by_cases hk:j < k
 ·rw [if_pos hk,getElem?_drop] at hj;exact ⟨j,hk,hj⟩
 ·rw [if_neg hk] at hj;cases hj
theorem Z2 {l:List Keyed} {x:Keyed} (hx:x ∈ l.drop i) : ∃ j,l[i+j]? = some x:=by
 obtain ⟨j,hj⟩:=List.getElem?_of_mem hx
 rw [getElem?_drop] at hj;exact ⟨j,hj⟩
theorem Mg.extA {a b:Array Keyed} (h:Mg κ a b out ia ib) (sa:a.toList.Pairwise (Lk κ)) (hk : ∀ x ∈ (a.toList.drop ia).take k,∀ y ∈ b.toList.drop ib,Lk κ x y):Mg κ a b (out++a.extract ia (ia+k)) (ia+k) ib:=h.appA sa k (by simp [extract_eq_drop_take]) hk
theorem Mg.extB {a b:Array Keyed} (h:Mg κ a b out ia ib) (sb:b.toList.Pairwise (Lk κ)) (hk : ∀ x ∈ (b.toList.drop ib).take k,∀ y ∈ a.toList.drop ia,Lk κ x y):Mg κ a b (out++b.extract ib (ib+k)) ia (ib+k):=h.appB sb k (by simp [extract_eq_drop_take]) hk
theorem Mg.pushA {a b:Array Keyed} {x:Keyed} (h:Mg κ a b out ia ib) (sa:a.toList.Pairwise (Lk κ)) (e:a[ia]? = some x) (hk : ∀ y ∈ b.toList.drop ib,Lk κ x y):Mg κ a b (out.push x) (ia+1) ib:=h.appA sa 1 (by rw [Qd e];simp) fun z hz y hy=>by rw [Qd e] at hz;rw [List.mem_singleton.mp hz];exact hk y hy
theorem Mg.pushB {a b:Array Keyed} {x:Keyed} (h:Mg κ a b out ia ib) (sb:b.toList.Pairwise (Lk κ)) (e:b[ib]? = some x) (hk : ∀ y ∈ a.toList.drop ia,Lk κ x y):Mg κ a b (out.push x) ia (ib+1):=h.appB sb 1 (by rw [Qd e];simp) fun z hz y hy=>by rw [Qd e] at hz;rw [List.mem_singleton.mp hz];exact hk y hy
def Mst (κ:PyProof.Rows.KeyKind) (a b:Array Keyed) (c0:Nat) (out:Array Keyed) (ia ib:Nat):Prop:=Mg κ a b out ia ib/\ia+1 < a.size/\ib < b.size/\c0<=ia+ib
theorem Xo (hO:κ.OneLt) {a b:Array Keyed} {st:SortSt} {Q:Array Keyed->SortSt->Prop} (hk:kindOf st=oneType') (ka:KeysOf κ a) (kb:KeysOf κ b) (sa:a.toList.Pairwise (Lk κ)) (sb:b.toList.Pairwise (Lk κ)) (na:0 < a.size) (nb:0 < b.size)
  (h1 : ∀ x,b[0]? = some x -> ∀ y ∈ a.toList,Lk κ x y) (h2 : ∀ y,a[a.size - 1]? = some y -> ∀ x ∈ b.toList,κ.klt (kl κ x) (kl κ y))
  (h : ∀ r st',Sx st st'->GdM κ a b r->Q r st'):wpS (model prog w) A E s (YY a b) Q st:=by
 have la : ∀ ia,ia+1=a.size -> ∀ x ∈ b.toList,∀ y ∈ a.toList.drop ia,Lk κ x y:=by
  intro ia e x hx y hy
  obtain ⟨j,hj⟩:=Z2 hy
  have hl:=(List.getElem?_eq_some_iff.mp hj).1
  have:a[a.size - 1]? = some y:=by rw [show a.size - 1=ia+j by simp at hl;omega];simpa using hj
  exact KeyOrd.kle_of_klt (h2 y this x hx)
 have kA : ∀ {i:Nat} {x:Keyed},a[i]? = some x->κ.keyOf x.1=some (kl κ x):=fun {i x} e=>by
  obtain ⟨v,hv⟩:=ka x (by obtain ⟨hh,q⟩:=Array.getElem?_eq_some_iff.mp e;rw [<- q];simp)
  unfold kl;rw [hv];rfl
 have kB : ∀ {i:Nat} {x:Keyed},b[i]? = some x->κ.keyOf x.1=some (kl κ x):=fun {i x} e=>by
  obtain ⟨v,hv⟩:=kb x (by obtain ⟨hh,q⟩:=Array.getElem?_eq_some_iff.mp e;rw [<- q];simp)
  unfold kl;rw [hv];rfl
 have aA : ∀ i,i < a.size -> ∃ x,a[i]? = some x/\a.toList[i]? = some x:=fun i hi=>⟨a[i],getElem?_pos _ i hi,by simp [hi]⟩
 have aB : ∀ i,i < b.size -> ∃ x,b[i]? = some x/\b.toList[i]? = some x:=fun i hi=>⟨b[i],getElem?_pos _ i hi,by simp [hi]⟩
 refine wpS_bind (wpS_lift (wpAny_rule ⟨rfl,?_⟩))
 obtain ⟨b0,eb0,eb0'⟩:=aB 0 nb
 refine wpS_bind (m:=elem' b 0) (zh eb0 ?_)
 dsimp only
 have m0:Mg κ a b #[b0] 0 1:=by
  have z:Mg κ a b #[] 0 0:=⟨by simp,by simp,by simp,by simp⟩
  exact z.appB sb 1 (by rw [Qd eb0];rfl) fun x hx y hy=>by
   rw [Qd eb0] at hx
   rw [List.mem_singleton.mp hx];exact h1 b0 eb0 y (mem_of_mem_drop hy)
 by_cases e1:1=b.size
 ·rw [if_pos (by simpa using e1)]
  exact wpS_pure (h _ _ (Sx.refl _) (m0.done sa (by omega) e1))
 rw [if_neg (by simpa using e1)]
 by_cases e2:0+1=a.size
 ·rw [if_pos (by simpa using e2)]
  exact wpS_pure (h _ _ (Sx.refl _) (m0.last sa sb e2 (by omega) (la 0 e2)))
 rw [if_neg (by simpa using e2)]
 refine wpS_bind (wpS_get ?_)
 have mA : ∀ i x,a[i]? = some x->KK κ a i=kl κ x:=fun i x e=>kQ e
 have mB : ∀ i x,b[i]? = some x->KK κ b i=kl κ x:=fun i x e=>kQ e
 have sA : ∀ i j,i<=j->j < a.size->κ.kle (KK κ a i) (KK κ a j):=fun i j hij hj=>by
  obtain ⟨x,ex,ex'⟩:=aA i (by omega)
  obtain ⟨z,ez,ez'⟩:=aA j hj
  rw [mA i x ex,mA j z ez]
  exact Zd sa ex' (mem_of_getElem? (i:=j - i) (by rw [getElem?_drop,show i+(j - i)=j by omega];exact ez'))
 have sB : ∀ i j,i<=j->j < b.size->κ.kle (KK κ b i) (KK κ b j):=fun i j hij hj=>by
  obtain ⟨x,ex,ex'⟩:=aB i (by omega)
  obtain ⟨z,ez,ez'⟩:=aB j hj
  rw [mB i x ex,mB j z ez]
  exact Zd sb ex' (mem_of_getElem? (i:=j - i) (by rw [getElem?_drop,show i+(j - i)=j by omega];exact ez'))
 have moA : ∀ ia (y:Keyed),∀ i j,i<=j->j < a.size - ia->(!(κ.blt (kl κ y) (KK κ a (ia+j))))=true->(!(κ.blt (kl κ y) (KK κ a (ia+i))))=true:=by
  intro ia y i j hij hj e
  rw [Bool.not_eq_true'] at e ⊢
  exact KeyOrd.kle_trans (sA (ia+i) (ia+j) (by omega) (by omega)) (show κ.kle _ _ from e)
 have moB : ∀ ib (z:Keyed),∀ i j,i<=j->j < b.size - ib->κ.blt (KK κ b (ib+j)) (kl κ z)=true->κ.blt (KK κ b (ib+i)) (kl κ z)=true:=by
  intro ib z i j hij hj e
  exact KeyOrd.klt_of_kle_of_klt (sB (ib+i) (ib+j) (by omega) (by omega)) e
 have gA : ∀ ia (y:Keyed) k,(∀ i,i < k->(!(κ.blt (kl κ y) (KK κ a (ia+i))))=true)->(∀ i,k<=i->i < a.size - ia->(!(κ.blt (kl κ y) (KK κ a (ia+i))))=false)->(∀ i:Nat,ia+i < a.size->i < a.size - ia)->(∀ x ∈ (a.toList.drop ia).take k,Lk κ x y) /\ ∀ x ∈ a.toList.drop (ia+k),Lk κ y x:=by
  intro ia y k p2 p3 _
  refine ⟨fun x hx=>?_,fun x hx=>?_⟩
  ·obtain ⟨j,hj,ej⟩:=QO hx
   have:=p2 j hj
   rw [mA (ia+j) x (by simpa using ej),Bool.not_eq_true'] at this
   exact this
  ·obtain ⟨j,ej⟩:=Z2 hx
   have hl:=(List.getElem?_eq_some_iff.mp ej).1
   have:=p3 (k+j) (by omega) (by simp at hl;omega)
   rw [mA (ia+(k+j)) x (by rw [<- Nat.add_assoc];simpa using ej),Bool.not_eq_false'] at this
   exact KeyOrd.kle_of_klt this
 have gB : ∀ ib (z:Keyed) k,(∀ i,i < k->κ.blt (KK κ b (ib+i)) (kl κ z)=true)->(∀ i,k<=i->i < b.size - ib->κ.blt (KK κ b (ib+i)) (kl κ z)=false)->(∀ i:Nat,ib+i < b.size->i < b.size - ib)->(∀ x ∈ (b.toList.drop ib).take k,Lk κ x z) /\ ∀ x ∈ b.toList.drop (ib+k),Lk κ z x:=by
  intro ib z k p2 p3 _
  refine ⟨fun x hx=>?_,fun x hx=>?_⟩
  ·obtain ⟨j,hj,ej⟩:=QO hx
   have:=p2 j hj
   rw [mB (ib+j) x (by simpa using ej)] at this
   exact KeyOrd.kle_of_klt this
  ·obtain ⟨j,ej⟩:=Z2 hx
   have hl:=(List.getElem?_eq_some_iff.mp ej).1
   have:=p3 (k+j) (by omega) (by simp at hl;omega)
   rw [mB (ib+(k+j)) x (by rw [<- Nat.add_assoc];simpa using ej)] at this
   exact this
 refine wpS_bind (wpS_mono (wpS_forRange (I:=fun x c st'=>Sx st st' /\ ∃ out ia ib mg,c=(none,out,ia,ib,mg)/\Mst κ a b x out ia ib) (Q:=fun c st'=>Sx st st' /\ ∃ r t,c=(some r,t)/\GdM κ a b r) ?s1 ?f1 ⟨Sx.refl _,_,_,_,_,rfl,m0,by omega,by omega,by omega⟩) ?p1)
 case p1 =>
  rintro c st' ⟨hs,r,t,rfl,hg⟩
  exact wpS_pure (h r st' hs hg)
 case f1 =>
  rintro c st' ⟨hs,out,ia,ib,mg,rfl,m,ha,hb,hc⟩
  exfalso;omega
 case s1 =>
  rintro x c st0 _ hx ⟨hs0,out,ia,ib,mg,rfl,m,ha,hb,hc⟩
  refine wpS_bind (wpS_mono (wpS_forRange (I:=fun x' c st'=>Sx st st' /\ ∃ out ia ib ac bc,c=(none,out,ia,ib,ac,bc)/\Mst κ a b (x+x') out ia ib) (Q:=fun c st'=>Sx st st'/\((∃ r t,c=(some r,t)/\GdM κ a b r) \/ ∃ out ia ib ac bc,c=(none,out,ia,ib,ac,bc)/\Mst κ a b (x+1) out ia ib)) ?s2 ?f2 ⟨hs0,_,_,_,_,_,rfl,m,ha,hb,hc⟩) ?p2)
  case f2 =>
   rintro c st' ⟨hs,out,ia,ib,ac,bc,rfl,m,ha,hb,hc⟩
   exact ⟨hs,.inr ⟨_,_,_,_,_,rfl,m,ha,hb,by omega⟩⟩
  case s2 =>
   rintro x' c st1 _ hx' ⟨hs1,out,ia,ib,ac,bc,rfl,m,ha,hb,hc⟩
   obtain ⟨y,ey,ey'⟩:=aB ib hb
   obtain ⟨z,ez,ez'⟩:=aA ia (by omega)
   refine wpS_bind (m:=elem' b ib) (zh ey ?_)
   refine wpS_bind (m:=elem' a ia) (zh ez ?_)
   refine wpS_bind (m:=lt' y z) (Xt hO (hs1.kind.trans hk) (kB ey) (kA ez) ?_)
   dsimp only
   cases hw:κ.blt (kl κ y) (kl κ z) with
   | true =>
    rw [if_pos rfl]
    refine wpS_bind (m:=elem' b ib) (zh ey ?_)
    have m2:=m.pushB sb ey fun v hv=>KeyOrd.kle_trans (KeyOrd.kle_of_klt hw) (Zd sa ez' hv)
    by_cases e3:ib+1=b.size
    ·rw [if_pos (by simpa using e3)]
     exact wpS_pure ⟨hs1,.inl ⟨_,_,rfl,m2.done sa (by omega) e3⟩⟩
    rw [if_neg (by simpa using e3)]
    by_cases e4:bc+1 ≥ mg
    ·rw [if_pos e4]
     exact wpS_pure ⟨hs1,.inr ⟨_,_,_,_,_,rfl,m2,by omega,by omega,by omega⟩⟩
    rw [if_neg e4]
    exact wpS_pure ⟨hs1,_,_,_,_,_,rfl,m2,by omega,by omega,by omega⟩
   | false =>
    rw [if_neg Bool.false_ne_true]
    refine wpS_bind (m:=elem' a ia) (zh ez ?_)
    have m2:=m.pushA sa ez fun v hv=>KeyOrd.kle_trans (show Lk κ z y from hw) (Zd sb ey' hv)
    by_cases e3:ia+1+1=a.size
    ·rw [if_pos (by simpa using e3)]
     exact wpS_pure ⟨hs1,.inl ⟨_,_,rfl,m2.last sa sb e3 (by omega) (la _ e3)⟩⟩
    rw [if_neg (by simpa using e3)]
    by_cases e4:ac+1 ≥ mg
    ·rw [if_pos e4]
     exact wpS_pure ⟨hs1,.inr ⟨_,_,_,_,_,rfl,m2,by omega,by omega,by omega⟩⟩
    rw [if_neg e4]
    exact wpS_pure ⟨hs1,_,_,_,_,_,rfl,m2,by omega,by omega,by omega⟩
  rintro c st1 ⟨hs1,⟨r,t,rfl,hg⟩ | ⟨out,ia,ib,ac,bc,rfl,m,ha,hb,hc⟩⟩
  ·exact wpS_pure ⟨hs1,_,_,rfl,hg⟩
  dsimp only
  refine wpS_bind (wpS_lift (wpAny_rule ⟨rfl,?_⟩))
  refine wpS_bind (wpS_mono (wpS_forRange (I:=fun x' c st'=>Sx st st' /\ ∃ out ia ib mg ac bc,c=(none,out,ia,ib,mg,ac,bc)/\Mst κ a b (x+1) out ia ib) (Q:=fun c st'=>Sx st st'/\((∃ r t,c=(some r,t)/\GdM κ a b r) \/ ∃ out ia ib mg ac bc,c=(none,out,ia,ib,mg,ac,bc)/\Mst κ a b (x+1) out ia ib)) ?s3 ?f3 ⟨hs1,_,_,_,_,_,_,rfl,m,ha,hb,hc⟩) ?p3)
  case f3 =>
   rintro c st' ⟨hs,out,ia,ib,mg,ac,bc,rfl,hM⟩
   exact ⟨hs,.inr ⟨_,_,_,_,_,_,rfl,hM⟩⟩
  case p3 =>
   rintro c st2 ⟨hs2,⟨r,t,rfl,hg⟩ | ⟨out,ia,ib,mg,ac,bc,rfl,hM⟩⟩
   ·exact wpS_pure ⟨hs2,_,_,rfl,hg⟩
   ·exact wpS_bind (wpS_modify (wpS_pure ⟨hs2.trans ⟨_,rfl⟩,_,_,_,_,rfl,hM⟩))
  case s3 =>
   clear m ha hb hc hs1
   rintro x' c st1 _ hx' ⟨hs1,out,ia,ib,mg,ac,bc,rfl,m,ha,hb,hc⟩
   dsimp only
   by_cases hm:mg > 1
   ·rw [if_pos hm]
    refine wpS_bind (wpS_modify ?_)
    obtain ⟨st2,est2,hs2⟩ : ∃ st2,st2=SortSt.mk' (kindOf st1) (arrOf st1) (pendingOf st1) (mg - 1) (failedOf st1)/\Sx st st2:=⟨_,rfl,hs1.trans ⟨_,rfl⟩⟩
    refine (?_:wpS (model prog w) A E s _ _ (SortSt.mk' (kindOf st1) (arrOf st1) (pendingOf st1) (mg - 1) (failedOf st1)))
    rw [<- est2]
    clear est2
    obtain ⟨y,ey,ey'⟩:=aB ib hb
    refine wpS_bind (m:=elem' b ib) (zh ey ?_)
    refine wpS_bind (m:=xq false y a ia (a.size - ia) 0) (qo hO (hs2.kind.trans hk) (kB ey) ka (by omega) (by omega) (fun i=>!(κ.blt (kl κ y) (KK κ a (ia+i)))) (fun i hi=>by rw [if_neg Bool.false_ne_true]) (moA ia y) fun k p1 p2 p3=>?_)
    obtain ⟨A1,A2⟩:=gA ia y k p2 p3 (fun i=>by omega)
    have A3:ia+k < a.size:=Nat.lt_of_not_le fun hle=>by
     obtain ⟨zl,el,el'⟩:=aA (a.size - 1) (by omega)
     have hz:zl ∈ (a.toList.drop ia).take k:=by
      refine mem_of_getElem? (i:=a.size - 1 - ia) ?_
      rw [List.getElem?_take,if_pos (by omega),getElem?_drop,show ia+(a.size - 1 - ia)=a.size - 1 by omega];exact el'
     exact KeyOrd.not_klt_of_kle (A1 zl hz) (h2 zl el y (mem_of_getElem? ey'))
    dsimp only
    by_cases hk0:k > 0
    ·rw [if_pos hk0]
     have m1:=m.extA (k:=k) sa fun x hx z hz=>KeyOrd.kle_trans (A1 x hx) (Zd sb ey' hz)
     by_cases e7:ia+k+1=a.size
     ·rw [if_pos (by simpa using e7)]
      exact wpS_pure ⟨hs2,.inl ⟨_,_,rfl,m1.last sa sb e7 (by omega) (la _ e7)⟩⟩
     rw [if_neg (by simpa using e7),if_neg (by simp;omega)]
     have A2':=A2
     refine wpS_bind (m:=elem' b ib) (zh ey ?_)
     have m2:=m1.pushB sb ey A2'
     by_cases e3:ib+1=b.size
     ·rw [if_pos (by simpa using e3)]
      exact wpS_pure ⟨hs2,.inl ⟨_,_,rfl,m2.done sa (by omega) e3⟩⟩
     rw [if_neg (by simpa using e3)]
     obtain ⟨z,ez,ez'⟩:=aA (ia+k) (by omega)
     refine wpS_bind (m:=elem' a (ia+k)) (zh ez ?_)
     refine wpS_bind (m:=xq true z b (ib+1) (b.size - (ib+1)) 0) (qo hO (hs2.kind.trans hk) (kA ez) kb (by omega) (by omega) (fun i=>κ.blt (KK κ b (ib+1+i)) (kl κ z)) (fun i hi=>by rw [if_pos rfl]) (moB (ib+1) z) fun k2 q1 q2 q3=>?_)
     obtain ⟨C1,C2'⟩:=gB (ib+1) z k2 q2 q3 (fun i=>by omega)
     dsimp only
     by_cases hk2:k2 > 0
     ·rw [if_pos hk2]
      have m3:=m2.extB (k:=k2) sb fun x hx w hw=>KeyOrd.kle_trans (C1 x hx) (Zd sa ez' hw)
      by_cases e4:ib+1+k2=b.size
      ·rw [if_pos (by simpa using e4)]
       exact wpS_pure ⟨hs2,.inl ⟨_,_,rfl,m3.done sa (by omega) e4⟩⟩
      rw [if_neg (by simpa using e4)]
      refine wpS_bind (m:=elem' a (ia+k)) (zh ez ?_)
      have m4:=m3.pushA sa ez C2'
      by_cases e5:ia+k+1+1=a.size
      ·rw [if_pos (by simpa using e5)]
       exact wpS_pure ⟨hs2,.inl ⟨_,_,rfl,m4.last sa sb e5 (by omega) (la _ e5)⟩⟩
      rw [if_neg (by simpa using e5)]
      by_cases e6:(decide (k < 7) && decide (k2 < 7))=true
      ·rw [if_pos e6]
       exact wpS_pure ⟨hs2,.inr ⟨_,_,_,_,_,_,rfl,m4,by omega,by omega,by omega⟩⟩
      rw [if_neg e6]
      exact wpS_pure ⟨hs2,_,_,_,_,_,_,rfl,m4,by omega,by omega,by omega⟩
     ·rw [if_neg hk2]
      have e0:k2=0:=by omega
      rw [e0,add_zero] at C2'
      refine wpS_bind (m:=elem' a (ia+k)) (zh ez ?_)
      have m4:=m2.pushA sa ez C2'
      by_cases e5:ia+k+1+1=a.size
      ·rw [if_pos (by simpa using e5)]
       exact wpS_pure ⟨hs2,.inl ⟨_,_,rfl,m4.last sa sb e5 (by omega) (la _ e5)⟩⟩
      rw [if_neg (by simpa using e5)]
      by_cases e6:(decide (k < 7) && decide (k2 < 7))=true
      ·rw [if_pos e6]
       exact wpS_pure ⟨hs2,.inr ⟨_,_,_,_,_,_,rfl,m4,by omega,by omega,by omega⟩⟩
      rw [if_neg e6]
      exact wpS_pure ⟨hs2,_,_,_,_,_,_,rfl,m4,by omega,by omega,by omega⟩
    ·rw [if_neg hk0]
     have e0:k=0:=by omega
     have A2' : ∀ x ∈ a.toList.drop ia,Lk κ y x:=by rw [e0,add_zero] at A2;exact A2
     refine wpS_bind (m:=elem' b ib) (zh ey ?_)
     have m2:=m.pushB sb ey A2'
     by_cases e3:ib+1=b.size
     ·rw [if_pos (by simpa using e3)]
      exact wpS_pure ⟨hs2,.inl ⟨_,_,rfl,m2.done sa (by omega) e3⟩⟩
     rw [if_neg (by simpa using e3)]
     obtain ⟨z,ez,ez'⟩:=aA (ia) (by omega)
     refine wpS_bind (m:=elem' a (ia)) (zh ez ?_)
     refine wpS_bind (m:=xq true z b (ib+1) (b.size - (ib+1)) 0) (qo hO (hs2.kind.trans hk) (kA ez) kb (by omega) (by omega) (fun i=>κ.blt (KK κ b (ib+1+i)) (kl κ z)) (fun i hi=>by rw [if_pos rfl]) (moB (ib+1) z) fun k2 q1 q2 q3=>?_)
     obtain ⟨C1,C2'⟩:=gB (ib+1) z k2 q2 q3 (fun i=>by omega)
     dsimp only
     by_cases hk2:k2 > 0
     ·rw [if_pos hk2]
      have m3:=m2.extB (k:=k2) sb fun x hx w hw=>KeyOrd.kle_trans (C1 x hx) (Zd sa ez' hw)
      by_cases e4:ib+1+k2=b.size
      ·rw [if_pos (by simpa using e4)]
       exact wpS_pure ⟨hs2,.inl ⟨_,_,rfl,m3.done sa (by omega) e4⟩⟩
      rw [if_neg (by simpa using e4)]
      refine wpS_bind (m:=elem' a (ia)) (zh ez ?_)
      have m4:=m3.pushA sa ez C2'
      by_cases e5:ia+1+1=a.size
      ·rw [if_pos (by simpa using e5)]
       exact wpS_pure ⟨hs2,.inl ⟨_,_,rfl,m4.last sa sb e5 (by omega) (la _ e5)⟩⟩
      rw [if_neg (by simpa using e5)]
      by_cases e6:(decide (k < 7) && decide (k2 < 7))=true
      ·rw [if_pos e6]
       exact wpS_pure ⟨hs2,.inr ⟨_,_,_,_,_,_,rfl,m4,by omega,by omega,by omega⟩⟩
      rw [if_neg e6]
      exact wpS_pure ⟨hs2,_,_,_,_,_,_,rfl,m4,by omega,by omega,by omega⟩
     ·rw [if_neg hk2]
      have e0:k2=0:=by omega
      rw [e0,add_zero] at C2'
      refine wpS_bind (m:=elem' a (ia)) (zh ez ?_)
      have m4:=m2.pushA sa ez C2'
      by_cases e5:ia+1+1=a.size
      ·rw [if_pos (by simpa using e5)]
       exact wpS_pure ⟨hs2,.inl ⟨_,_,rfl,m4.last sa sb e5 (by omega) (la _ e5)⟩⟩
      rw [if_neg (by simpa using e5)]
      by_cases e6:(decide (k < 7) && decide (k2 < 7))=true
      ·rw [if_pos e6]
       exact wpS_pure ⟨hs2,.inr ⟨_,_,_,_,_,_,rfl,m4,by omega,by omega,by omega⟩⟩
      rw [if_neg e6]
      exact wpS_pure ⟨hs2,_,_,_,_,_,_,rfl,m4,by omega,by omega,by omega⟩
   ·rw [if_neg hm]
    refine wpS_bind (wpS_modify ?_)
    obtain ⟨st2,est2,hs2⟩ : ∃ st2,st2=SortSt.mk' (kindOf st1) (arrOf st1) (pendingOf st1) mg (failedOf st1)/\Sx st st2:=⟨_,rfl,hs1.trans ⟨_,rfl⟩⟩
    refine (?_:wpS (model prog w) A E s _ _ (SortSt.mk' (kindOf st1) (arrOf st1) (pendingOf st1) mg (failedOf st1)))
    rw [<- est2]
    clear est2
    obtain ⟨y,ey,ey'⟩:=aB ib hb
    refine wpS_bind (m:=elem' b ib) (zh ey ?_)
    refine wpS_bind (m:=xq false y a ia (a.size - ia) 0) (qo hO (hs2.kind.trans hk) (kB ey) ka (by omega) (by omega) (fun i=>!(κ.blt (kl κ y) (KK κ a (ia+i)))) (fun i hi=>by rw [if_neg Bool.false_ne_true]) (moA ia y) fun k p1 p2 p3=>?_)
    obtain ⟨A1,A2⟩:=gA ia y k p2 p3 (fun i=>by omega)
    have A3:ia+k < a.size:=Nat.lt_of_not_le fun hle=>by
     obtain ⟨zl,el,el'⟩:=aA (a.size - 1) (by omega)
     have hz:zl ∈ (a.toList.drop ia).take k:=by
      refine mem_of_getElem? (i:=a.size - 1 - ia) ?_
      rw [List.getElem?_take,if_pos (by omega),getElem?_drop,show ia+(a.size - 1 - ia)=a.size - 1 by omega];exact el'
     exact KeyOrd.not_klt_of_kle (A1 zl hz) (h2 zl el y (mem_of_getElem? ey'))
    dsimp only
    by_cases hk0:k > 0
    ·rw [if_pos hk0]
     have m1:=m.extA (k:=k) sa fun x hx z hz=>KeyOrd.kle_trans (A1 x hx) (Zd sb ey' hz)
     by_cases e7:ia+k+1=a.size
     ·rw [if_pos (by simpa using e7)]
      exact wpS_pure ⟨hs2,.inl ⟨_,_,rfl,m1.last sa sb e7 (by omega) (la _ e7)⟩⟩
     rw [if_neg (by simpa using e7),if_neg (by simp;omega)]
     have A2':=A2
     refine wpS_bind (m:=elem' b ib) (zh ey ?_)
     have m2:=m1.pushB sb ey A2'
     by_cases e3:ib+1=b.size
     ·rw [if_pos (by simpa using e3)]
      exact wpS_pure ⟨hs2,.inl ⟨_,_,rfl,m2.done sa (by omega) e3⟩⟩
     rw [if_neg (by simpa using e3)]
     obtain ⟨z,ez,ez'⟩:=aA (ia+k) (by omega)
     refine wpS_bind (m:=elem' a (ia+k)) (zh ez ?_)
     refine wpS_bind (m:=xq true z b (ib+1) (b.size - (ib+1)) 0) (qo hO (hs2.kind.trans hk) (kA ez) kb (by omega) (by omega) (fun i=>κ.blt (KK κ b (ib+1+i)) (kl κ z)) (fun i hi=>by rw [if_pos rfl]) (moB (ib+1) z) fun k2 q1 q2 q3=>?_)
     obtain ⟨C1,C2'⟩:=gB (ib+1) z k2 q2 q3 (fun i=>by omega)
     dsimp only
     by_cases hk2:k2 > 0
     ·rw [if_pos hk2]
      have m3:=m2.extB (k:=k2) sb fun x hx w hw=>KeyOrd.kle_trans (C1 x hx) (Zd sa ez' hw)
      by_cases e4:ib+1+k2=b.size
      ·rw [if_pos (by simpa using e4)]
       exact wpS_pure ⟨hs2,.inl ⟨_,_,rfl,m3.done sa (by omega) e4⟩⟩
      rw [if_neg (by simpa using e4)]
      refine wpS_bind (m:=elem' a (ia+k)) (zh ez ?_)
      have m4:=m3.pushA sa ez C2'
      by_cases e5:ia+k+1+1=a.size
      ·rw [if_pos (by simpa using e5)]
       exact wpS_pure ⟨hs2,.inl ⟨_,_,rfl,m4.last sa sb e5 (by omega) (la _ e5)⟩⟩
      rw [if_neg (by simpa using e5)]
      by_cases e6:(decide (k < 7) && decide (k2 < 7))=true
      ·rw [if_pos e6]
       exact wpS_pure ⟨hs2,.inr ⟨_,_,_,_,_,_,rfl,m4,by omega,by omega,by omega⟩⟩
      rw [if_neg e6]
      exact wpS_pure ⟨hs2,_,_,_,_,_,_,rfl,m4,by omega,by omega,by omega⟩
     ·rw [if_neg hk2]
      have e0:k2=0:=by omega
      rw [e0,add_zero] at C2'
      refine wpS_bind (m:=elem' a (ia+k)) (zh ez ?_)
      have m4:=m2.pushA sa ez C2'
      by_cases e5:ia+k+1+1=a.size
      ·rw [if_pos (by simpa using e5)]
       exact wpS_pure ⟨hs2,.inl ⟨_,_,rfl,m4.last sa sb e5 (by omega) (la _ e5)⟩⟩
      rw [if_neg (by simpa using e5)]
      by_cases e6:(decide (k < 7) && decide (k2 < 7))=true
      ·rw [if_pos e6]
       exact wpS_pure ⟨hs2,.inr ⟨_,_,_,_,_,_,rfl,m4,by omega,by omega,by omega⟩⟩
      rw [if_neg e6]
      exact wpS_pure ⟨hs2,_,_,_,_,_,_,rfl,m4,by omega,by omega,by omega⟩
    ·rw [if_neg hk0]
     have e0:k=0:=by omega
     have A2' : ∀ x ∈ a.toList.drop ia,Lk κ y x:=by rw [e0,add_zero] at A2;exact A2
     refine wpS_bind (m:=elem' b ib) (zh ey ?_)
     have m2:=m.pushB sb ey A2'
     by_cases e3:ib+1=b.size
     ·rw [if_pos (by simpa using e3)]
      exact wpS_pure ⟨hs2,.inl ⟨_,_,rfl,m2.done sa (by omega) e3⟩⟩
     rw [if_neg (by simpa using e3)]
     obtain ⟨z,ez,ez'⟩:=aA (ia) (by omega)
     refine wpS_bind (m:=elem' a (ia)) (zh ez ?_)
     refine wpS_bind (m:=xq true z b (ib+1) (b.size - (ib+1)) 0) (qo hO (hs2.kind.trans hk) (kA ez) kb (by omega) (by omega) (fun i=>κ.blt (KK κ b (ib+1+i)) (kl κ z)) (fun i hi=>by rw [if_pos rfl]) (moB (ib+1) z) fun k2 q1 q2 q3=>?_)
     obtain ⟨C1,C2'⟩:=gB (ib+1) z k2 q2 q3 (fun i=>by omega)
     dsimp only
     by_cases hk2:k2 > 0
     ·rw [if_pos hk2]
      have m3:=m2.extB (k:=k2) sb fun x hx w hw=>KeyOrd.kle_trans (C1 x hx) (Zd sa ez' hw)
      by_cases e4:ib+1+k2=b.size
      ·rw [if_pos (by simpa using e4)]
       exact wpS_pure ⟨hs2,.inl ⟨_,_,rfl,m3.done sa (by omega) e4⟩⟩
      rw [if_neg (by simpa using e4)]
      refine wpS_bind (m:=elem' a (ia)) (zh ez ?_)
      have m4:=m3.pushA sa ez C2'
      by_cases e5:ia+1+1=a.size
      ·rw [if_pos (by simpa using e5)]
       exact wpS_pure ⟨hs2,.inl ⟨_,_,rfl,m4.last sa sb e5 (by omega) (la _ e5)⟩⟩
      rw [if_neg (by simpa using e5)]
      by_cases e6:(decide (k < 7) && decide (k2 < 7))=true
      ·rw [if_pos e6]
       exact wpS_pure ⟨hs2,.inr ⟨_,_,_,_,_,_,rfl,m4,by omega,by omega,by omega⟩⟩
      rw [if_neg e6]
      exact wpS_pure ⟨hs2,_,_,_,_,_,_,rfl,m4,by omega,by omega,by omega⟩
     ·rw [if_neg hk2]
      have e0:k2=0:=by omega
      rw [e0,add_zero] at C2'
      refine wpS_bind (m:=elem' a (ia)) (zh ez ?_)
      have m4:=m2.pushA sa ez C2'
      by_cases e5:ia+1+1=a.size
      ·rw [if_pos (by simpa using e5)]
       exact wpS_pure ⟨hs2,.inl ⟨_,_,rfl,m4.last sa sb e5 (by omega) (la _ e5)⟩⟩
      rw [if_neg (by simpa using e5)]
      by_cases e6:(decide (k < 7) && decide (k2 < 7))=true
      ·rw [if_pos e6]
       exact wpS_pure ⟨hs2,.inr ⟨_,_,_,_,_,_,rfl,m4,by omega,by omega,by omega⟩⟩
      rw [if_neg e6]
      exact wpS_pure ⟨hs2,_,_,_,_,_,_,rfl,m4,by omega,by omega,by omega⟩
variable {xs:Array Keyed}
theorem ZN {ys:Array Keyed} (h:KeysOf κ ys) (p:xs.Perm ys):KeysOf κ xs:=fun x hx=>h x ((Array.perm_iff_toList_perm.mp p).mem_iff.mp hx)
theorem Q6 (hO:κ.OneLt) {st:SortSt} {Q:Option Bool->SortSt->Prop} (hk:kindOf st=oneType') (h0:KeysOf κ (arrOf st)) (hi:i < (arrOf st).size) (hj:j < (arrOf st).size) (h:Q (some (κ.blt (KK κ (arrOf st) i) (KK κ (arrOf st) j))) st):wpS (model prog w) A E s (ltAt' i j) Q st:=by
 obtain ⟨⟨x,p⟩,e1,k1⟩:=Yd h0 hi
 obtain ⟨⟨y,q⟩,e2,k2⟩:=Yd h0 hj
 exact wpS_ltAtK hO hk e1 e2 k1 k2 h
theorem X5 (hO:κ.OneLt) {st:SortSt} {lo:Nat} {Q:Option Nat->SortSt->Prop} (hk:kindOf st=oneType') (h0:KeysOf κ (arrOf st)) (hn:lo+n<=(arrOf st).size) (h1:1<=n) (up : ∀ i,1<=i->i < n->κ.kle (KK κ (arrOf st) (lo+i - 1)) (KK κ (arrOf st) (lo+i))) (h:Q (some n) st):wpS (model prog w) A E s (countRun' lo n) Q st:=by
 refine wpS_bind (wpS_mono (wpS_forRange (a:=1) (b:=n) (I:=fun x c st'=>st=st'/\c=(none,x)) (Q:=fun c st'=>st=st'/\c=(none,n)) ?s1 ?f1 ⟨rfl,rfl⟩) ?p1)
 case f1 =>
  rintro c st' ⟨rfl,rfl⟩
  exact ⟨rfl,by rw [show max 1 n=n by omega]⟩
 case s1 =>
  rintro x c st' hx1 hx ⟨rfl,rfl⟩
  refine wpS_bind (m:=ltAt' (lo+x) (lo+x - 1)) (Q6 hO hk h0 (by omega) (by omega) ?_)
  have u:κ.blt (KK κ (arrOf st) (lo+x)) (KK κ (arrOf st) (lo+x - 1))=false:=up x hx1 hx
  rw [u]
  exact wpS_pure ⟨rfl,rfl⟩
 rintro c st' ⟨rfl,rfl⟩
 dsimp only
 rw [if_pos (by simp)]
 exact wpS_pure h
theorem Xz (hO:κ.OneLt) {st:SortSt} {Q:Option Nat->SortSt->Prop} (hk:kindOf st=oneType') (h0:KeysOf κ (arrOf st)) (hn:n<=(arrOf st).size) (h1:2<=m) (hm:m < n) (up : ∀ i,1<=i->i < m->κ.kle (KK κ (arrOf st) (i - 1)) (KK κ (arrOf st) i)) (dn:κ.klt (KK κ (arrOf st) m) (KK κ (arrOf st) (m - 1))) (ri:κ.klt (KK κ (arrOf st) 0) (KK κ (arrOf st) (m - 1))) (h:Q (some m) st):wpS (model prog w) A E s (countRun' 0 n) Q st:=by
 rw [countRun0_eq]
 unfold ascLoop
 refine wpS_bind (wpS_mono (wpS_forRange (a:=1) (b:=n) (I:=fun x c st'=>st=st'/\c=(none,x)/\x<=m) (Q:=fun c st'=>st=st'/\c=(none,m)) ?s1 ?f1 ⟨rfl,rfl,by omega⟩) ?p1)
 case f1 =>
  rintro c st' ⟨rfl,rfl,hx⟩
  omega
 case s1 =>
  rintro x c st' hx1 hx ⟨rfl,rfl,hxm⟩
  dsimp only
  refine wpS_bind (Q6 hO hk h0 (by omega) (by omega) ?_)
  by_cases e:x=m
  ·subst e
   rw [show κ.blt (KK κ (arrOf st) x) (KK κ (arrOf st) (x - 1))=true from dn]
   exact wpS_pure ⟨rfl,rfl⟩
  ·rw [show κ.blt (KK κ (arrOf st) x) (KK κ (arrOf st) (x - 1))=false from up x hx1 (by omega)]
   exact wpS_pure ⟨rfl,rfl,by omega⟩
 rintro c st' ⟨rfl,rfl⟩
 dsimp only
 rw [if_neg (by simp;omega),if_pos (by omega)]
 refine wpS_bind (Q6 hO hk h0 (by omega) (by omega) ?_)
 rw [show κ.blt (KK κ (arrOf st) 0) (KK κ (arrOf st) (m - 1))=true from ri]
 exact wpS_pure h
theorem zAc (hO:κ.OneLt) {st:SortSt} {ok:Nat} {Q:Bool->SortSt->Prop} (hk:kindOf st=oneType') (h0:KeysOf κ (arrOf st)) (hn:n<=(arrOf st).size) (h1:1<=ok) (hok:ok<=n) (so:SortedToK κ (arrOf st) ok)
  (h : ∀ xs:Array Keyed,xs.Perm (arrOf st)->SortedToK κ xs n->(∀ k,n<=k->xs[k]? = (arrOf st)[k]?)->Q true (setArr st xs)):wpS (model prog w) A E s (binarySort' 0 n ok) Q st:=by
 rw [binarySort'_eq]
 simp only [Nat.zero_add]
 refine wpS_bind (wpS_mono (wpS_forRange (I:=fun x c st'=>c=(none,()) /\ ∃ xs:Array Keyed,st'=setArr st xs/\xs.Perm (arrOf st)/\SortedToK κ xs x /\ ∀ k,n<=k->xs[k]? = (arrOf st)[k]?) (Q:=fun c st'=>c=(none,()) /\ ∃ xs:Array Keyed,st'=setArr st xs/\xs.Perm (arrOf st)/\SortedToK κ xs n /\ ∀ k,n<=k->xs[k]? = (arrOf st)[k]?) ?s1 ?f1 ?i1) ?p1)
 case i1=>exact ⟨rfl,arrOf st,rfl,Array.Perm.refl _,by rw [show max ok 1=ok by omega];exact so,fun _ _=>rfl⟩
 case f1 =>
  rintro c st' ⟨rfl,xs,rfl,pm,so',fr⟩
  exact ⟨rfl,xs,rfl,pm,by rw [show max (max ok 1) n=n by omega] at so';exact so',fr⟩
 case p1 =>
  rintro c st' ⟨rfl,xs,rfl,pm,so',fr⟩
  exact wpS_pure (h xs pm so' fr)
 rintro x c st' hx1 hx ⟨rfl,xs,rfl,pm,so',fr⟩
 have hz:xs.size=(arrOf st).size:=pm.size_eq
 have kx:KeysOf κ xs:=ZN h0 pm
 refine wpS_bind (wpS_mono (wpS_forRange (I:=fun y c st'=>st'=setArr st xs /\ ∃ l r,c=(none,l,r)/\l<=r/\r<=x/\r - l<=x - y/\(∀ i,i < l->κ.kle (KK κ xs i) (KK κ xs x)) /\ ∀ i,r<=i->i < x->κ.klt (KK κ xs x) (KK κ xs i)) (Q:=fun c st'=>st'=setArr st xs /\ ∃ l,c=(none,l,l)/\l<=x/\(∀ i,i < l->κ.kle (KK κ xs i) (KK κ xs x)) /\ ∀ i,l<=i->i < x->κ.klt (KK κ xs x) (KK κ xs i)) ?s2 ?f2 ⟨rfl,0,x,rfl,by omega,by omega,by omega,fun i hi=>by omega,fun i _ hi=>by omega⟩) ?p2)
 case f2 =>
  rintro c st' ⟨rfl,l,r,rfl,a1,a2,a3,a4,a5⟩
  have e:l=r:=by omega
  subst e
  exact ⟨rfl,l,rfl,a2,a4,a5⟩
 case s2 =>
  rintro y c st' _ hy ⟨rfl,l,r,rfl,a1,a2,a3,a4,a5⟩
  dsimp only
  by_cases hge:l ≥ r
  ·rw [if_pos hge]
   have e:l=r:=by omega
   subst e
   exact wpS_pure ⟨rfl,l,rfl,a2,a4,a5⟩
  ·rw [if_neg hge]
   refine wpS_bind (Q6 hO hk kx (by show x < xs.size;omega) (by show (l+r) / 2 < xs.size;omega) ?_)
   show wpS _ _ _ _ (match some (κ.blt (KK κ xs x) (KK κ xs ((l+r) / 2))) with | _=>_) _ _
   cases hb:κ.blt (KK κ xs x) (KK κ xs ((l+r) / 2)) with
   | true=>exact wpS_pure ⟨rfl,_,_,rfl,by omega,by omega,by omega,a4,fun i h1 h2=>KeyOrd.klt_of_klt_of_kle hb (so' _ _ h1 h2)⟩
   | false=>exact wpS_pure ⟨rfl,_,_,rfl,by omega,by omega,by omega,fun i h1=>KeyOrd.kle_trans (so' _ _ (by omega) (by omega)) (show κ.kle _ _ from hb),a5⟩
 rintro c st' ⟨rfl,l,rfl,a2,a4,a5⟩
 show wpS _ _ _ _ (moveDown' x l >>= _) _ _
 rw [moveDown'_eq]
 refine wpS_bind (wpS_modify (wpS_pure ⟨rfl,bubble xs x (x - l),rfl,(bubble_perm _ _ _).trans pm,fun i j hij hj=>?_,fun k hk=>?_⟩))
 ·have hxs:x < xs.size:=by omega
  rw [KK_bubble hxs (by omega),KK_bubble hxs (by omega),show x - (x - l)=l by omega]
  by_cases i1:i=l
  ·rw [if_pos i1]
   by_cases j1:j=l
   ·rw [if_pos j1];exact KeyOrd.kle_refl _
   ·rw [if_neg j1,if_pos (by omega)];exact KeyOrd.kle_of_klt (a5 _ (by omega) (by omega))
  ·rw [if_neg i1]
   by_cases i2:l < i/\i<=x
   ·rw [if_pos i2,if_neg (by omega),if_pos (by omega)];exact so' _ _ (by omega) (by omega)
   ·rw [if_neg i2]
    by_cases j1:j=l
    ·rw [if_pos j1];exact a4 _ (by omega)
    ·rw [if_neg j1]
     by_cases j2:l < j/\j<=x
     ·rw [if_pos j2];exact so' _ _ (by omega) (by omega)
     ·rw [if_neg j2];exact so' _ _ (by omega) (by omega)
 ·rw [getElem?_bubble (by omega) _ (by omega),if_neg (by omega),if_neg (by omega)]
  exact fr k hk
theorem zAz (hn:i+n<=xs.size) (so : ∀ a b,i<=a->a<=b->b < i+n->κ.kle (KK κ xs a) (KK κ xs b)):(xs.extract i (i+n)).toList.Pairwise (Lk κ):=by
 have e:(xs.extract i (i+n)).toList=(xs.toList.drop i).take n:=by simp [extract_eq_drop_take]
 rw [e]
 refine List.pairwise_iff_getElem.mpr fun a b ha hb hab=>?_
 simp only [length_take,length_drop,Array.length_toList] at ha hb
 have ea:xs[i+a]? = some ((xs.toList.drop i).take n)[a]:=by
  rw [<- Array.getElem?_toList,<- getElem?_drop,<- List.getElem?_take_of_lt (j:=n) (by omega)];exact getElem?_eq_getElem (by simp;omega)
 have eb:xs[i+b]? = some ((xs.toList.drop i).take n)[b]:=by
  rw [<- Array.getElem?_toList,<- getElem?_drop,<- List.getElem?_take_of_lt (j:=n) (by omega)];exact getElem?_eq_getElem (by simp;omega)
 show κ.kle _ _
 rw [<- kQ ea,<- kQ eb]
 exact so _ _ (by omega) (by omega) (by omega)
theorem zCY {σ:Type} {M:Model} {x st:σ} {Q:PUnit->σ->Prop} (h:Q ⟨⟩ x):wpS M A E s (set x:StateT σ Sem PUnit) Q st:=by
 unfold wpS;rw [StateT.run_set];exact wpAny_pure ⟨rfl,h⟩
theorem WS : ∀ (l:List Keyed) (n k:Nat) (arr:Array Keyed),k+n+l.length<=arr.size->((l.zipIdx n).foldl (fun a x=>a.setIfInBounds (k+x.2) x.1) arr).toList=arr.toList.take (k+n)++l++arr.toList.drop (k+n+l.length)
 | [],n,k,arr,_=>by simp
 | p::l,n,k,arr,h=>by
  rw [List.zipIdx_cons,List.foldl_cons]
  rw [List.length_cons] at h
  have hs:k+n < arr.toList.length:=by rw [Array.length_toList];omega
  rw [WS l (n+1) k (arr.setIfInBounds (k+n) p) (by rw [Array.size_setIfInBounds];omega),Array.toList_setIfInBounds,List.set_eq_take_append_cons_drop,if_pos hs]
  have e1:(arr.toList.take (k+n)).length=k+n:=by rw [length_take];omega
  rw [show k+(n+1)=(arr.toList.take (k+n)).length+1 by omega,List.take_length_add_append,List.length_cons,show (arr.toList.take (k+n)).length+1+l.length=(arr.toList.take (k+n)).length+(1+l.length) by omega,List.drop_length_add_append,show 1+l.length=l.length+1 by omega,List.drop_succ_cons,drop_drop,show k+n+1+l.length=k+n+(l.length+1) by omega]
  simp only [List.take_succ_cons,List.take_zero,append_assoc,List.cons_append,List.nil_append]
theorem zGU {ys:Array Keyed} (pw:ys.toList.Pairwise (Lk κ)) (hn:n<=ys.size):SortedToK κ ys n:=by
 intro i j hij hj
 obtain ⟨x,ex⟩ : ∃ x,ys[i]? = some x:=⟨ys[i],getElem?_pos _ i (by omega)⟩
 obtain ⟨y,ey⟩ : ∃ y,ys[j]? = some y:=⟨ys[j],getElem?_pos _ j (by omega)⟩
 rw [kQ ex,kQ ey]
 exact Zd pw (i:=i) (by simpa using ex) (mem_of_getElem? (i:=j - i) (by rw [getElem?_drop,show i+(j - i)=j by omega];simpa using ey))
theorem Xv (hO:κ.OneLt) {pw g:Nat} {Q:Bool->SortSt->Prop} (hz:xs.size=117) (h0:KeysOf κ xs) (so:SortedToK κ xs 59) (s2 : ∀ i j,59<=i->i<=j->j < 117->κ.kle (KK κ xs i) (KK κ xs j)) (few:34<=(xs.toList.take 59).countP fun x=>!(κ.blt (KK κ xs 59) (kl κ x))) (many : ∀ j,59<=j->j < 114->κ.klt (KK κ xs j) (KK κ xs 58))
  (h : ∀ (ys:Array Keyed) g',ys.Perm xs->SortedToK κ ys 117->Q true (SortSt.mk' oneType' ys #[(0,117,pw)] g' none)):wpS (model prog w) A E s (mergeAt' 0) Q (SortSt.mk' oneType' xs #[(0,59,pw),(59,58,0)] g none):=by
 refine wpS_bind (wpS_get ?_)
 have ka : ∀ i,i < 117 -> ∃ x,xs[i]? = some x/\κ.keyOf x.1=some (KK κ xs i):=fun i hi=>Yd h0 (by omega)
 refine wpS_bind (zCY ?_)
 have ep:(#[(0,59,pw),(59,58,0)].setIfInBounds 0 (0,59+58,pw)).eraseIdxIfInBounds (0+1) = #[(0,117,pw)]:=by
  apply Array.ext';simp [Array.eraseIdxIfInBounds]
 refine (?_:wpS (model prog w) A E s _ _ (SortSt.mk' oneType' xs ((#[(0,59,pw),(59,58,0)].setIfInBounds 0 (0,59+58,pw)).eraseIdxIfInBounds (0+1)) g none))
 rw [ep]
 obtain ⟨y,ey,ky⟩:=ka 59 (by omega)
 refine wpS_bind (m:=elem' xs 59) (zh ey ?_)
 refine wpS_bind (m:=xq false y xs 0 59 0) (qo hO rfl ky h0 (by omega) (by omega) (fun i=>!(κ.blt (KK κ xs 59) (KK κ xs (0+i)))) (fun i hi=>by rw [if_neg Bool.false_ne_true]) (fun i j hij hj e=>by
  rw [Bool.not_eq_true'] at e ⊢
  exact KeyOrd.kle_trans (so _ _ (by omega) (by omega)) (show κ.kle _ _ from e)) fun k p1 p2 p3=>?_)
 simp only [Nat.zero_add] at p2 p3
 have k34:34<=k:=by
  rw [<- take_append_drop k (xs.toList.take 59),List.countP_append] at few
  have c2:((xs.toList.take 59).drop k).countP (fun x=>!(κ.blt (KK κ xs 59) (kl κ x)))=0:=List.countP_eq_zero.mpr fun x hx=>by
   obtain ⟨j,ej⟩:=Z2 hx
   have hl:=(List.getElem?_eq_some_iff.mp ej).1
   simp only [length_take,Array.length_toList] at hl
   have:=p3 (k+j) (by omega) (by omega)
   rw [List.getElem?_take_of_lt (by omega)] at ej
   rw [kQ (i:=k+j) (x:=x) (by simpa using ej)] at this
   rw [this];exact Bool.false_ne_true
  have c1:=List.countP_le_length (p:=fun x=>!(κ.blt (KK κ xs 59) (kl κ x))) (l:=(xs.toList.take 59).take k)
  rw [length_take] at c1
  omega
 have k58:k<=58:=Nat.le_of_not_lt fun hk=>by
  have a1:=p2 58 (by omega)
  rw [show κ.blt (KK κ xs 59) (KK κ xs 58)=true from many 59 (by omega) (by omega)] at a1
  cases a1
 dsimp only
 rw [if_neg (by simp;omega)]
 obtain ⟨z,ez,kz⟩:=ka 58 (by omega)
 refine wpS_bind (m:=elem' xs (0+k+(59 - k) - 1)) (zh (by rw [show 0+k+(59 - k) - 1=58 by omega];exact ez) ?_)
 refine wpS_bind (m:=xq true z xs 59 58 57) (qo hO rfl kz h0 (by omega) (by omega) (fun i=>κ.blt (KK κ xs (59+i)) (KK κ xs 58)) (fun i hi=>by rw [if_pos rfl]) (fun i j hij hj e=>KeyOrd.klt_of_kle_of_klt (s2 _ _ (by omega) (by omega) (by omega)) e) fun nb q1 q2 q3=>?_)
 have n55:55<=nb:=Nat.le_of_not_lt fun hn=>by
  have a1:=q3 nb (by omega) (by omega)
  rw [show κ.blt (KK κ xs (59+nb)) (KK κ xs 58)=true from many _ (by omega) (by omega)] at a1
  cases a1
 dsimp only
 rw [if_neg (by simp;omega),if_pos (by omega)]
 have eX:(xs.extract (0+k) 59).toList=(xs.toList.drop k).take (59 - k):=by simp [extract_eq_drop_take]
 have eY:(xs.extract 59 (59+nb)).toList=(xs.toList.drop 59).take nb:=by simp [extract_eq_drop_take]
 have sX:(xs.extract (0+k) 59).toList.Pairwise (Lk κ):=by
  have:=zAz (κ:=κ) (xs:=xs) (i:=0+k) (n:=59 - k) (by omega) fun a b h1 h2 h3=>so _ _ h2 (by omega)
  rwa [show 0+k+(59 - k)=59 by omega] at this
 have sY:(xs.extract 59 (59+nb)).toList.Pairwise (Lk κ):=zAz (by omega) fun a b h1 h2 h3=>s2 _ _ h1 h2 (by omega)
 have iX : ∀ x ∈ (xs.toList.drop k).take (59 - k),∃ i,k<=i/\i < 59/\xs[i]? = some x:=fun x hx=>by
  obtain ⟨j,hj,ej⟩:=QO hx
  exact ⟨k+j,by omega,by omega,by simpa using ej⟩
 have iY : ∀ x ∈ (xs.toList.drop 59).take nb,∃ i,59<=i/\i < 59+nb/\xs[i]? = some x:=fun x hx=>by
  obtain ⟨j,hj,ej⟩:=QO hx
  exact ⟨59+j,by omega,by omega,by simpa using ej⟩
 have le : ∀ {i j:Nat} {x y:Keyed},xs[i]? = some x->xs[j]? = some y->κ.kle (KK κ xs i) (KK κ xs j)->Lk κ x y:=fun {i j x y} e1 e2 h=>by
  rw [kQ e1,kQ e2] at h;exact h
 refine wpS_bind (m:=YY (xs.extract (0+k) 59) (xs.extract 59 (59+nb))) (Xo hO rfl (fun x hx=>h0 x (by rw [eX] at hx;exact mem_of_mem_drop (mem_of_mem_take hx))) (fun x hx=>h0 x (by rw [eY] at hx;exact mem_of_mem_drop (mem_of_mem_take hx))) sX sY (by simp;omega) (by simp;omega) ?h1 ?h2 fun r st' hs hg=>?_)
 case h1 =>
  intro x ex y' hy'
  rw [eX] at hy'
  obtain ⟨i,i1,i2,ei⟩:=iX y' hy'
  have ex':xs[59]? = some x:=by
   rw [Array.getElem?_extract] at ex
   split at ex
   ·simpa using ex
   ·cases ex
  have:=p3 i i1 i2
  rw [Bool.not_eq_false'] at this
  exact le ex' ei (KeyOrd.kle_of_klt this)
 case h2 =>
  intro y' ey' x hx
  rw [eY] at hx
  obtain ⟨i,i1,i2,ei⟩:=iY x hx
  have e':xs[58]? = some y':=by
   rw [Array.getElem?_extract] at ey'
   split at ey'
   ·rw [<- ey'];congr 1;simp only [Array.size_extract];omega
   ·cases ey'
  have:=q2 (i - 59) (by omega)
  rw [show 59+(i - 59)=i by omega,kQ ei,kQ e'] at this
  exact this
 obtain ⟨g',rfl⟩:=hs
 refine wpS_bind (wpS_modify ?_)
 refine wpS_bind (wpS_get ?_)
 refine wpS_pure (h _ g' ?pm ?so)
 all_goals
  have lr:r.toList.length=59 - k+nb:=by
   rw [hg.1.length_eq,length_append,eX,eY,length_take,length_take,length_drop,length_drop,Array.length_toList];omega
  have ez2:=WS r.toList 0 (0+k) xs (by omega)
  rw [show 0+k+0=k by omega,lr,show k+(59 - k+nb)=59+nb by omega] at ez2
 ·refine Array.perm_iff_toList_perm.mpr ?_
  refine (List.Perm.of_eq ez2).trans ?_
  have hp:=hg.1
  rw [eX,eY] at hp
  refine ((hp.append_left _).append_right _).trans (List.Perm.of_eq ?_)
  have d1:=take_append_drop k xs.toList
  have d2:=take_append_drop (59 - k) (xs.toList.drop k)
  have d3:=take_append_drop nb (xs.toList.drop 59)
  rw [drop_drop,show k+(59 - k)=59 by omega] at d2
  rw [drop_drop] at d3
  conv=>rhs;rw [<- d1,<- d2,<- d3]
  simp only [append_assoc]
 ·have iT : ∀ x ∈ xs.toList.take k,∃ i,i < k/\xs[i]? = some x:=fun x hx=>by
   obtain ⟨j,hj,ej⟩:=QO (l:=xs.toList) (i:=0) (k:=k) (x:=x) (by rw [List.drop_zero];exact hx)
   exact ⟨j,hj,by simpa using ej⟩
  have iD : ∀ x ∈ xs.toList.drop (59+nb),∃ i,59+nb<=i/\i < 117/\xs[i]? = some x:=fun x hx=>by
   obtain ⟨j,ej⟩:=Z2 hx
   have hl:=(List.getElem?_eq_some_iff.mp ej).1
   simp only [Array.length_toList] at hl
   exact ⟨59+nb+j,by omega,by omega,by simpa using ej⟩
  have iR : ∀ x ∈ r.toList,(∃ i,k<=i/\i < 59/\xs[i]? = some x) \/ ∃ i,59<=i/\i < 59+nb/\xs[i]? = some x:=fun x hx=>by
   have:=hg.1.mem_iff.mp hx
   rw [eX,eY] at this
   exact (List.mem_append.mp this).imp (iX x) (iY x)
  have t59 : ∀ i,i < k->κ.kle (KK κ xs i) (KK κ xs 59):=fun i hi=>by
   have:=p2 i hi
   rw [Bool.not_eq_true'] at this;exact this
  have d58 : ∀ i,59+nb<=i->i < 117->κ.kle (KK κ xs 58) (KK κ xs i):=fun i h1 h2=>by
   have:=q3 (i - 59) (by omega) (by omega)
   rw [show 59+(i - 59)=i by omega] at this;exact this
  have pw:(xs.toList.take k++r.toList++xs.toList.drop (59+nb)).Pairwise (Lk κ):=by
   refine List.pairwise_append.mpr ⟨List.pairwise_append.mpr ⟨?_,hg.2,fun x hx y hy=>?_⟩,?_,fun x hx y hy=>?_⟩
   ·have:=zAz (κ:=κ) (xs:=xs) (i:=0) (n:=k) (by omega) fun a b h1 h2 h3=>so _ _ h2 (by omega)
    simpa [extract_eq_drop_take] using this
   ·obtain ⟨i,i1,ei⟩:=iT x hx
    rcases iR y hy with ⟨j,j1,j2,ej⟩ | ⟨j,j1,j2,ej⟩
    ·exact le ei ej (so _ _ (by omega) (by omega))
    ·exact le ei ej (KeyOrd.kle_trans (t59 i i1) (s2 _ _ (by omega) (by omega) (by omega)))
   ·have:=zAz (κ:=κ) (xs:=xs) (i:=59+nb) (n:=58 - nb) (by omega) fun a b h1 h2 h3=>s2 _ _ (by omega) h2 (by omega)
    have e:(xs.extract (59+nb) (59+nb+(58 - nb))).toList=xs.toList.drop (59+nb):=by
     rw [Array.toList_extract,extract_eq_drop_take,List.take_of_length_le (by rw [length_drop,Array.length_toList];omega)]
    rwa [e] at this
   ·obtain ⟨j,j1,j2,ej⟩:=iD y hy
    rcases List.mem_append.mp hx with hx | hx
    ·obtain ⟨i,i1,ei⟩:=iT x hx
     exact le ei ej (KeyOrd.kle_trans (t59 i i1) (s2 _ _ (by omega) (by omega) (by omega)))
    ·rcases iR x hx with ⟨i,i1,i2,ei⟩ | ⟨i,i1,i2,ei⟩
     ·exact le ei ej (KeyOrd.kle_trans (so i 58 (by omega) (by omega)) (d58 j j1 j2))
     ·exact le ei ej (s2 _ _ (by omega) (by omega) (by omega))
  rw [<- ez2] at pw
  exact zGU pw (by rw [<- Array.length_toList,ez2,length_append,length_append,lr,length_take,length_drop,Array.length_toList];omega)
structure Two (κ:PyProof.Rows.KeyKind) (a₀:Array Keyed):Prop where
 size:a₀.size=117
 up : ∀ i,1<=i->i < 9->κ.kle (KK κ a₀ (i - 1)) (KK κ a₀ i)
 dn:κ.klt (KK κ a₀ 9) (KK κ a₀ 8)
 ri:κ.klt (KK κ a₀ 0) (KK κ a₀ 8)
 up2 : ∀ i j,59<=i->i<=j->j < 117->κ.kle (KK κ a₀ i) (KK κ a₀ j)
 few:34<=(a₀.toList.take 59).countP fun x=>!(κ.blt (KK κ a₀ 59) (kl κ x))
 many : ∃ i,i < 59 /\ ∀ j,59<=j->j < 114->κ.klt (KK κ a₀ j) (KK κ a₀ i)
theorem zF7 : ∀ {n:Nat},(∀ i,1<=i->i < n->κ.kle (KK κ xs (i - 1)) (KK κ xs i))->SortedToK κ xs n:=by
 intro n h i j hij
 induction hij with
 | refl=>intro _;exact KeyOrd.kle_refl _
 | @step j hij ih=>intro hj;exact KeyOrd.kle_trans (ih (by omega)) (h (j+1) (by omega) hj)
theorem Xh {st:SortSt} {lo:Nat} {Q:Bool->SortSt->Prop} (h1:1<=n) (h:Q true st):wpS (model prog w) A E s (binarySort' lo n n) Q st:=by
 rw [binarySort'_eq]
 refine wpS_bind (wpS_mono (wpS_forRange (I:=fun x c st'=>st=st'/\c=(none,())) (Q:=fun c st'=>st=st'/\c=(none,())) (fun i c st' h2 h3=>by omega) (fun c st' h=>h) ⟨rfl,rfl⟩) ?_)
 rintro c st' ⟨rfl,rfl⟩
 exact wpS_pure h
theorem Q8 (hO:κ.OneLt) {a₀:Array Keyed} {g:Nat} {Q:Unit->SortSt->Prop} (h0:KeysOf κ a₀) (T:Two κ a₀)
  (h : ∀ (ys:Array Keyed) p g',ys.Perm a₀->SortedToK κ ys 117->Q () (SortSt.mk' oneType' ys p g' none)):wpS (model prog w) A E s sortRuns' Q (SortSt.mk' oneType' a₀ #[] g none):=by
 have hz:=T.size
 rw [sortRuns'_eq]
 refine wpS_bind (wpS_get ?_)
 dsimp only
 rw [hz,show minRun' 117 117 0=59 from rfl]
 have P : ∀ xs:Array Keyed,xs.Perm a₀->(∀ k,59<=k->xs[k]? = a₀[k]?)->SortedToK κ xs 59 -> ∀ pw g',wpS (model prog w) A E s (mergeAt' 0) (fun b st'=>b=true /\ ∃ ys p g'',st'=SortSt.mk' oneType' ys p g'' none/\p.size<=1/\ys.Perm a₀/\SortedToK κ ys 117) (SortSt.mk' oneType' xs #[(0,59,pw),(59,58,0)] g' none):=by
  intro xs pm fr so pw g'
  have kk : ∀ k,59<=k->KK κ xs k=KK κ a₀ k:=fun k hk=>KK_congr (fr k hk)
  have t59:(xs.toList.take 59).Perm (a₀.toList.take 59):=by
   have e:xs.toList.drop 59=a₀.toList.drop 59:=List.ext_getElem? fun i=>by
    rw [getElem?_drop,getElem?_drop,Array.getElem?_toList,Array.getElem?_toList];exact fr _ (by omega)
   have p:=Array.perm_iff_toList_perm.mp pm
   rw [<- take_append_drop 59 xs.toList,<- take_append_drop 59 a₀.toList,e] at p
   exact (List.perm_append_right_iff _).mp p
  refine Xv hO (pm.size_eq.trans hz) (ZN h0 pm) so (fun i j h1 h2 h3=>by rw [kk i h1,kk j (by omega)];exact T.up2 i j h1 h2 h3) ?_ (fun j h1 h2=>?_) fun ys g'' p' so'=>⟨rfl,ys,_,g'',rfl,Nat.le_refl _,p'.trans pm,so'⟩
  ·rw [t59.countP_eq,kk 59 (by omega)];exact T.few
  ·obtain ⟨i,hi,hm⟩:=T.many
   rw [kk j h1]
   refine KeyOrd.klt_of_klt_of_kle (hm j h1 h2) ?_
   have m1:a₀[i]'(by omega) ∈ a₀.toList.take 59:=mem_of_getElem? (i:=i) (by rw [List.getElem?_take_of_lt hi];simp)
   have m2:=t59.mem_iff.mpr m1
   obtain ⟨j',hj',ej⟩:=QO (l:=xs.toList) (i:=0) (k:=59) (by rw [List.drop_zero];exact m2)
   have e1:KK κ a₀ i=kl κ (a₀[i]'(by omega)):=kQ (getElem?_pos _ i (by omega))
   have e2:KK κ xs j'=kl κ (a₀[i]'(by omega)):=kQ (by simpa using ej)
   rw [e1,<- e2]
   exact so _ _ (by omega) (by omega)
 refine wpS_bind (wpS_mono (wpS_forRange (I:=fun x c st'=>(x=0/\c=(none,0)/\st'=SortSt.mk' oneType' a₀ #[] g none)\/(x=1/\c=(none,59) /\ ∃ xs:Array Keyed,st'=SortSt.mk' oneType' xs #[(0,59,0)] g none/\xs.Perm a₀/\(∀ k,59<=k->xs[k]? = a₀[k]?)/\SortedToK κ xs 59)\/(2<=x/\c=(none,117) /\ ∃ (xs:Array Keyed) (pw:Nat),st'=SortSt.mk' oneType' xs #[(0,59,pw),(59,58,0)] g none/\xs.Perm a₀/\(∀ k,59<=k->xs[k]? = a₀[k]?)/\SortedToK κ xs 59))
  (Q:=fun c st'=>c=(none,117) /\ ∃ (xs:Array Keyed) (pw:Nat),st'=SortSt.mk' oneType' xs #[(0,59,pw),(59,58,0)] g none/\xs.Perm a₀/\(∀ k,59<=k->xs[k]? = a₀[k]?)/\SortedToK κ xs 59) ?s1 ?f1 (.inl ⟨rfl,rfl,rfl⟩)) ?p1)
 case f1 =>
  rintro c st' (⟨h1,_⟩ | ⟨h1,_⟩ | ⟨_,hc,hP⟩)
  ·omega
  ·omega
  ·exact ⟨hc,hP⟩
 case s1 =>
  rintro x c st' _ hx (⟨rfl,rfl,rfl⟩ | ⟨rfl,rfl,xs,rfl,pm,fr,so⟩ | ⟨hx2,rfl,hP⟩)
  ·dsimp only
   rw [if_neg (by decide)]
   refine wpS_bind (m:=countRun' 0 117) (Xz (m:=9) hO rfl h0 (by show 117<=a₀.size;omega) (by decide) (by decide) T.up T.dn T.ri ?_)
   dsimp only
   rw [if_pos (by decide)]
   refine wpS_bind (wpS_lift (wpAny_rule ⟨rfl,?_⟩))
   refine wpS_bind (m:=binarySort' 0 59 9) (zAc hO rfl h0 (by show 59<=a₀.size;omega) (by decide) (by decide) (zF7 T.up) fun xs pm so fr=>?_)
   rw [if_neg (by decide)]
   refine wpS_bind (wpS_get ?_)
   exact wpS_bind (wpS_modify (wpS_pure (.inr (.inl ⟨rfl,rfl,xs,rfl,pm,fr,so⟩))))
  ·have hz':xs.size=117:=pm.size_eq.trans hz
   have kk : ∀ k,59<=k->KK κ xs k=KK κ a₀ k:=fun k hk=>KK_congr (fr k hk)
   dsimp only
   rw [if_neg (by decide)]
   refine wpS_bind (m:=countRun' 59 58) (X5 hO rfl (ZN h0 pm) (by show 59+58<=xs.size;omega) (by decide) (fun i h1 h2=>?_) ?_)
   ·show κ.kle (KK κ xs (59+i - 1)) (KK κ xs (59+i))
    rw [kk _ (by omega),kk _ (by omega)];exact T.up2 _ _ (by omega) (by omega) (by omega)
   dsimp only
   rw [if_pos (by decide)]
   refine wpS_bind (wpS_lift (wpAny_rule ⟨rfl,?_⟩))
   refine wpS_bind (m:=binarySort' 59 58 58) (Xh (by decide) ?_)
   rw [if_neg (by decide)]
   refine wpS_bind (wpS_get ?_)
   refine wpS_bind (wpS_mono (wpS_forRange (a:=0) (b:=117) (I:=fun _ c st'=>c=(none,())/\st'=SortSt.mk' oneType' xs #[(0,59,0)] g none) (Q:=fun c st'=>c=(none,())/\st'=SortSt.mk' oneType' xs #[(0,59,0)] g none) ?s2 (fun c st' h=>h) ⟨rfl,rfl⟩) ?p2)
   case s2 =>
    rintro y c st' _ hy ⟨rfl,rfl⟩
    refine wpS_bind (wpS_get ?_)
    exact wpS_pure ⟨rfl,rfl⟩
   rintro c st' ⟨rfl,rfl⟩
   exact wpS_bind (wpS_modify (wpS_bind (wpS_modify (wpS_pure (.inr (.inr ⟨by omega,rfl,xs,_,rfl,pm,fr,so⟩))))))
  ·dsimp only
   rw [if_pos (by decide)]
   exact wpS_pure ⟨rfl,hP⟩
 rintro c st' ⟨rfl,xs,pw,rfl,pm,fr,so⟩
 dsimp only
 refine wpS_bind (wpS_mono (wpS_forRange (a:=0) (b:=117) (I:=fun x c st'=>c=(none,())/\((x=0/\st'=SortSt.mk' oneType' xs #[(0,59,pw),(59,58,0)] g none)\/(1<=x /\ ∃ ys p g'',st'=SortSt.mk' oneType' ys p g'' none/\p.size<=1/\ys.Perm a₀/\SortedToK κ ys 117))) (Q:=fun c st'=>c=(none,()) /\ ∃ ys p g'',st'=SortSt.mk' oneType' ys p g'' none/\p.size<=1/\ys.Perm a₀/\SortedToK κ ys 117) ?s3 ?f3 ⟨rfl,.inl ⟨rfl,rfl⟩⟩) ?p3)
 case f3 =>
  rintro c st' ⟨rfl,⟨h1,_⟩ | ⟨_,hP⟩⟩
  ·omega
  ·exact ⟨rfl,hP⟩
 case p3 =>
  rintro c st' ⟨rfl,ys,p,g'',rfl,_,pm',so'⟩
  exact wpS_pure (h ys p g'' pm' so')
 rintro x c st' _ hx ⟨rfl,⟨rfl,rfl⟩ | ⟨hx1,ys,p,g'',rfl,hp,pm',so'⟩⟩
 ·refine wpS_bind (wpS_get ?_)
  rw [if_neg (show ¬ ((pendingOf (SortSt.mk' oneType' xs #[(0,59,pw),(59,58,0)] g none)).size<=1) from show ¬ (2<=1) by decide)]
  refine wpS_bind (m:=mergeAt' 0) (wpS_mono (P xs pm fr so pw g) ?_)
  rintro b st' ⟨rfl,hP⟩
  rw [if_neg (by decide)]
  exact wpS_pure ⟨rfl,.inr ⟨by omega,hP⟩⟩
 ·refine wpS_bind (wpS_get ?_)
  rw [if_pos (show p.size<=1 from hp)]
  exact wpS_pure ⟨rfl,ys,p,g'',rfl,hp,pm',so'⟩
theorem VQ (hO:κ.OneLt) {a:Addr} {vs:List Value} {P:Fin->Shared->Prop} (ho:s.heap.get? a=some (seqObj "list" vs.toArray n)) (h0:KeysOf κ (pairsOf vs)) (hkk:keyKind' vs.toArray=pure oneType') (T:Two κ (pairsOf vs))
  (h : ∀ ys:Array Keyed,ys.Perm (pairsOf vs)->SortedToK κ ys 117->P (.done (.ret .none)) { s with heap:=sortedHeap s.heap a vs (ys.map (·.2)) }):wpAny (model prog w) A (Builtin.«list.sort» ⟨[.ref a],[]⟩) P E s:=by
 have ha:a < s.heap.objs.size:=Heap.lt_size ho
 have hv:vs.length=117:=(pairsOf_size vs).symm.trans T.size
 have hv':vs.toArray.size=117:=by simpa using hv
 obtain ⟨e1,ho1⟩ : ∃ e1,(s.heap.update a (Obj.mapSeq fun _=>#[])).get? a=some (seqObj "list" #[] e1):=⟨_,get?_update_seq ho (fun _=>#[])⟩
 have ho6:(((s.heap.update a (Obj.mapSeq fun _=>#[])).push (seqObj "tuple" vs.toArray 0)).push (seqObj "list" #[] 0)).get? a=some (seqObj "list" #[] e1):=by
  rw [Heap.get?_push_ne _ _ _ (by rw [size_push',Heap.size_update];exact ne_of_lt (Nat.lt_succ_of_lt ha)),Heap.get?_push_ne _ _ _ (by rw [Heap.size_update];exact ne_of_lt ha)]
  exact ho1
 rw [list_sort_plain]
 refine wpAny_bind (listItems_at ho rfl (wpAny_bind (listUpdate_at ho rfl ?_ (hsz:=by rw [hv',sizeLine_eq];decide))))
 refine wpAny_bind (seqEpoch_at ho1 rfl (wpAny_bind (wpAny_newTuple (wpAny_bind (wpAny_newList (wpAny_holding ?_))))))
 show wpAny (model prog w) A _ P E { s with heap:=((s.heap.update a (Obj.mapSeq fun _=>#[])).push (seqObj "tuple" vs.toArray 0)).push (seqObj "list" #[] 0) }
 dsimp only
 rw [if_neg (by rw [hv'];decide),if_neg (by rw [hv'];decide),hkk]
 refine wpAny_bind (wpAny_pure ?_)
 refine wpAny_bind (wpAny_mono (Q8 hO (a₀:=pairsOf vs) (g:=7) (Q:=fun _ st'=>(arrOf st').Perm (pairsOf vs)/\failedOf st'=none/\SortedToK κ (arrOf st') 117) h0 T fun ys p g' a1 a2=>⟨a1,rfl,a2⟩) ?_ fun _ _ e=>e)
 rintro ⟨⟨⟩,st'⟩ s' ⟨rfl,hp,hf,hs⟩
 dsimp only
 refine wpAny_bind (seqEpoch_at ho6 rfl (wpAny_bind (listUpdate_at ho6 rfl ?_ (hsz2:=by refine Nat.le_trans (Nat.le_of_eq ((Array.size_map ..).trans (hp.size_eq.trans T.size))) ?_;rw [sizeLine_eq];decide))))
 rw [hf]
 simp only [bne_self_eq_false,Bool.false_eq_true,if_false]
 exact wpAny_pure (h _ hp hs)
theorem zCZ (hO:κ.OneLt) {l:Addr} {vs:List Value} {Q:Value->Shared->Prop} (hl:s.heap.IsList l vs.toArray) (h0:KeysOf κ (pairsOf vs)) (hkk:keyKind' vs.toArray=pure oneType') (T:Two κ (pairsOf vs))
  (h : ∀ ys:Array Keyed,ys.Perm (pairsOf vs)->SortedToK κ ys 117->Q (.ref (s.heap.objs.size+1)) { s with heap:=sortedAll s.heap vs (ys.map (·.2)) }):wpAny (model prog w) A (call (.builtin "sorted") [.ref l]) Q E s:=by
 have hv:vs.length=117:=(pairsOf_size vs).symm.trans T.size
 have hsz:((s.heap.push (seqObj "list" #[] 0)).update s.heap.objs.size (Obj.mapSeq (· ++ vs.toArray))).objs.size=s.heap.objs.size+1:=by rw [Heap.size_update,size_push']
 have hoL:(((s.heap.push (seqObj "list" #[] 0)).update s.heap.objs.size (Obj.mapSeq (· ++ vs.toArray))).push (seqObj "list" vs.toArray 0)).get? (s.heap.objs.size+1)=some (seqObj "list" vs.toArray 0):=by
  rw [<- hsz];exact Heap.get?_push_size _ rfl
 refine Calls.call_function_entry kind_sorted plain_sorted entry_sorted (args_sorted1 _) ?_
 unfold Builtin.«sorted»
 refine wpAny_bind (m:=checkCount "sorted" 1 1 _) (wpAny_pure ?_)
 refine wpAny_bind (collect_list hl (wpAny_bind (wpAny_newList ?_ (hsz:=by rw [hv,sizeLine_eq];decide))) (hsz:=by rw [hv,sizeLine_eq];decide))
 show wpAny _ _ _ _ _ { s with heap:=((s.heap.push (seqObj "list" #[] 0)).update s.heap.objs.size (Obj.mapSeq (· ++ vs.toArray))).push (seqObj "list" vs.toArray 0) }
 rw [hsz]
 refine wpAny_bind (wpAny_holding (wpAny_call_entry slot_list_sort ⟨_,hoL,rfl⟩ entry_list_sort (VQ hO hoL h0 hkk T fun ys a1 a2=>⟨_,rfl,?_⟩) (args_list_sort _)))
 exact wpAny_pure ⟨_,rfl,h ys a1 a2⟩
end
def wds (sg:List Nat):Nat->List (List Nat)
 | 0=>[[]]
 | n+1=>(wds sg n).flatMap fun w=>sg.map fun c=>w++[c]
theorem JJ (f:Nat->Nat) (l:List Nat) : ∀ n,wds (l.map f) n=(wds l n).map (List.map f)
 | 0=>rfl
 | n+1=>by
  unfold wds
  rw [JJ f l n,List.flatMap_map,List.map_flatMap]
  congr 1;funext w
  rw [map_map,map_map]
  congr 1;funext c
  simp
def dW:List (List Nat):=wds [0,1,2] 2++wds [0,1,2] 3++wds [0,1,2] 4
theorem Kp {f:Nat->Nat} (h : ∀ a b,a<=2->b<=2->(f a < f b↔a < b)) : ∀ {l m:List Nat},(∀ a ∈ l,a<=2)->(∀ a ∈ m,a<=2)->(l.map f < m.map f↔l < m)
 | [],[],_,_=>by simp
 | [],b::m,_,_=>by simp
 | a::l,[],_,_=>by simp
 | a::l,b::m,hl,hm=>by
  rw [map_cons,map_cons,List.cons_lt_cons_iff,List.cons_lt_cons_iff]
  have ha:=hl a (List.mem_cons_self ..)
  have hb:=hm b (List.mem_cons_self ..)
  have e:f a=f b↔a=b:=⟨fun z=>by have:=h a b ha hb;have:=h b a hb ha;omega,fun z=>by rw [z]⟩
  rw [h a b ha hb,e,Kp h (fun x hx=>hl x (List.mem_cons_of_mem _ hx)) (fun x hx=>hm x (List.mem_cons_of_mem _ hx))]
theorem zED : ∀ d ∈ dW,∀ a ∈ d,a<=2:=by decide +kernel
theorem zBu:dW.length=117:=by decide +kernel
def dAt (i:Nat):List Nat:=dW.getD i []
theorem zGh : ∀ i,i < 9->1<=i -> ¬ dAt i < dAt (i - 1):=by decide +kernel
theorem zFo:dAt 9 < dAt 8/\dAt 0 < dAt 8:=by decide +kernel
theorem zF6 : ∀ i,i < 57 -> ¬ dAt (59+(i+1)) < dAt (59+i):=by decide +kernel
theorem zE1:34<=(dW.take 59).countP fun d=>!decide (dAt 59 < d):=by decide +kernel
theorem zCU : ∀ j,j < 55->dAt (59+j) < dAt 35:=by decide +kernel
theorem kls : ∀ {vs:List Value} {ss:List Str},StrsAre vs ss->(vs.zip vs).map (kl strKind)=ss.map fun z=>z.cps.toList
 | _,_,.nil=>rfl
 | _,_,.cons x t h=>by rw [List.zip_cons_cons,map_cons,kls h,map_cons];rfl
theorem two_words {a:Nat} (hab:a < b) (hbc:b < c) {vs:List Value} (hS:StrsAre vs ((wds [a,b,c] 2++wds [a,b,c] 3++wds [a,b,c] 4).map T)):Two strKind (pairsOf vs):=by
 obtain ⟨f,e,hf⟩ : ∃ f:Nat->Nat,[a,b,c]=[0,1,2].map f /\ ∀ i j,i<=2->j<=2->(f i < f j↔i < j):=by
  refine ⟨fun i=>if i=0 then a else if i=1 then b else c,rfl,fun i j hi hj=>?_⟩
  dsimp only
  repeat' split
  all_goals omega
 have kz:(pairsOf vs).toList.map (kl strKind)=dW.map (List.map f):=by
  rw [pairsOf_toList,kls hS,e,JJ,JJ,JJ,<- List.map_append,<- List.map_append,map_map]
  show ((dW.map (List.map f)).map ((fun z=>z.cps.toList) ∘ T))=_
  rw [show ((fun z:Str=>z.cps.toList) ∘ T)=id from funext fun l=>QG l,map_id]
 have sz:(pairsOf vs).size=117:=by
  have:=congrArg List.length kz
  rw [length_map,length_map,zBu] at this;exact this
 have kk : ∀ i,i < 117->KK strKind (pairsOf vs) i=(dAt i).map f:=fun i hi=>by
  have g:(pairsOf vs)[i]? = some ((pairsOf vs)[i]'(by omega)):=getElem?_pos _ i (by omega)
  rw [kQ g]
  have q:=congrArg (fun l=>l[i]?) kz
  dsimp only at q
  rw [getElem?_map,getElem?_map,Array.getElem?_toList,g] at q
  unfold dAt
  rw [List.getD_eq_getElem?_getD]
  cases hd:dW[i]? with
  | none=>rw [hd] at q;cases q
  | some d=>rw [hd] at q;exact Option.some.inj q
 have dm : ∀ i,i < 117 -> ∀ x ∈ dAt i,x<=2:=fun i hi=>by
  unfold dAt
  rw [List.getD_eq_getElem?_getD,getElem?_eq_getElem (by rw [zBu];exact hi)]
  exact zED _ (List.getElem_mem _)
 have lt : ∀ i j,i < 117->j < 117->((dAt i).map f < (dAt j).map f↔dAt i < dAt j):=fun i j hi hj=>Kp hf (dm i hi) (dm j hj)
 have klt : ∀ i j,i < 117->j < 117->dAt i < dAt j->strKind.klt (KK strKind (pairsOf vs) i) (KK strKind (pairsOf vs) j):=fun i j hi hj h=>by
  rw [kk i hi,kk j hj];exact decide_eq_true ((lt i j hi hj).mpr h)
 have kle : ∀ i j,i < 117->j < 117 -> ¬ dAt j < dAt i->strKind.kle (KK strKind (pairsOf vs) i) (KK strKind (pairsOf vs) j):=fun i j hi hj h=>by
  rw [kk i hi,kk j hj];exact decide_eq_false fun z=>h ((lt j i hj hi).mp z)
 refine ⟨sz,fun i h1 h2=>kle _ _ (by omega) (by omega) (zGh i h2 h1),klt _ _ (by omega) (by omega) zFo.1,klt _ _ (by omega) (by omega) zFo.2,fun i j h1 h2 h3=>?_,?_,35,by omega,fun j h1 h2=>?_⟩
 ·induction h2 with
  | refl=>exact KeyOrd.kle_refl _
  | @step j h2 ih =>
   have h2:i<=j:=h2
   have:=zF6 (j - 59) (by omega)
   rw [show 59+(j - 59+1)=j+1 by omega,show 59+(j - 59)=j by omega] at this
   exact KeyOrd.kle_trans (ih (by omega)) (kle _ _ (by omega) h3 this)
 ·have q:((pairsOf vs).toList.take 59).countP (fun x=>!(strKind.blt (KK strKind (pairsOf vs) 59) (kl strKind x)))=(((pairsOf vs).toList.map (kl strKind)).take 59).countP fun k=>!decide (KK strKind (pairsOf vs) 59 < k):=by
   rw [<- List.map_take,List.countP_map];rfl
  rw [q,kz,<- List.map_take,List.countP_map,kk 59 (by omega)]
  refine Nat.le_trans zE1 (Nat.le_of_eq (List.countP_congr fun d hd=>?_))
  have:=Kp hf (dm 59 (by omega)) (zED d (mem_of_mem_take hd))
  simp only [Function.comp_def,Bool.not_eq_true',decide_eq_false_iff_not]
  exact not_congr this.symm
 ·have:=zCU (j - 59) (by omega)
  rw [show 59+(j - 59)=j by omega] at this
  exact klt _ _ (by omega) (by omega) this
theorem XL {prog:Program} {E:Value->Shared->Prop} {a:Nat} (hab:a < b) (hbc:b < c) {l:Addr} {vs:List Value} {Q:Value->Shared->Prop} (hl:s.heap.IsList l vs.toArray) (hS:StrsAre vs ((wds [a,b,c] 2++wds [a,b,c] 3++wds [a,b,c] 4).map T))
  (h : ∀ (out:Array Value) (ss':List Str),StrsAre out.toList ss'->ss'.Perm ((wds [a,b,c] 2++wds [a,b,c] 3++wds [a,b,c] 4).map T)->sortedS ss'=true->Q (.ref (s.heap.objs.size+1)) { s with heap:=sortedAll s.heap vs out }) :
  wpAny (model prog w) A (call (.builtin "sorted") [.ref l]) Q E s:=by
 have T2:=two_words hab hbc hS
 have hkk:keyKind' vs.toArray=pure oneType':=by
  have hv:vs.length=117:=(pairsOf_size vs).symm.trans T2.size
  obtain ⟨v₁,v₂,r,rfl⟩ : ∃ v₁ v₂ r,vs=v₁::v₂::r:=by
   match vs,hv with
   | v₁::v₂::r,_=>exact ⟨v₁,v₂,r,rfl⟩
  exact keyKind_strs hS
 refine zCZ strKind_oneLt hl hS.keysOf hkk T2 fun ys a1 a2=>?_
 obtain ⟨ss',h1,h2,h3⟩:=sorted_out_str hS a1 (by rw [T2.size];exact a2)
 exact h _ ss' h1 h2 h3
def zGy (cs:List (List Nat)):Prop:=cs.length < 64 \/ ∃ a b c,a < b/\b < c/\cs=wds [a,b,c] 2++wds [a,b,c] 3++wds [a,b,c] 4
def Jl (K:W.Frag):List V->Hp->VK->Prop:=fun xs H Q=>∃ (p:Addr) (cs:List (List Nat)),xs=[.ref p]/\SqL K H p (tsV cs)/\zGy cs /\
 ∀ (ds:List (List Nat)) (q:Addr) (H':Hp),ds.Perm cs->SrT ds->zY H H'->H q=none->H' q=some (.lst (tsV ds))->Q (.ref q) H'
theorem Qw:jx X (.builtin "sorted") (Jl X.K):=by
 intro pins s σ H xs us Q I r h
 obtain ⟨p,cs,rfl,hq,hF,q⟩:=h
 rw [show tsV cs=(cs.map T).map V.str by unfold tsV;rw [map_map];rfl] at hq
 obtain ⟨u,rfl,rx⟩:=JH r
 cases rx
 obtain ⟨its,r',pl,hz⟩:=I.list hq
 have hl:=r'.length
 rw [length_map,length_map] at hl hz
 have fin : ∀ (out:Array Value) (ss':List Str),StrsAre out.toList ss'->ss'.Perm (cs.map T)->sortedS ss'=true -> ∃ v H',Inv X pins σ H' { s with heap:=sortedAll s.heap its out }/\jO v (.ref (s.heap.objs.size+1))/\Q v H':=by
  intro out ms hi hp hs
  obtain ⟨e,he⟩:=sortedAll_at s.heap its out
  have hms:ms.length=cs.length:=by rw [hp.length_eq,length_map]
  have hf:H (s.heap.objs.size+1)=none:=I.hok.fresh (le_succ _)
  obtain ⟨ds,hd,rfl⟩:=zBJ hp
  refine ⟨.ref (s.heap.objs.size+1),upd H (s.heap.objs.size+1) (.lst ((ds.map T).map V.str)),I.laid (t':=s.toks) (fun _ _=>sortedAll_old) (le_succ _) ⟨by rw [length_map,hms];exact hz,out.toList,e,yL hi,?_⟩,rfl,q _ _ _ hd hs (jM hf _) hf (by rw [zQ];unfold tsV;rw [map_map];rfl)⟩
  rw [he,Array.toArray_toList]
 rcases hF with h64 | ⟨a,b,c,hab,hbc,rfl⟩
 ·exact sorted_strs pl.isList (yc r') (by omega) fun out ms hi hp hs=>fin out ms hi hp hs
 ·exact XL hab hbc pl.isList (yc r') fun out ms hi hp hs=>fin out ms hi hp hs
theorem VL {Q:VK} {p:Addr} {cs:List (List Nat)} (h:H p=some (.lst (tsV cs))) (hF:zGy cs) (q : ∀ (ds:List (List Nat)) (q:Addr) (H':Hp),ds.Perm cs->SrT ds->zY H H'->H q=none->H' q=some (.lst (tsV ds))->Q (.ref q) H'):Jl K [.ref p] H Q:=⟨p,cs,rfl,SqL.of h,hF,q⟩
theorem zAs {s st:Int} (h0:0<=s) (h1:s < a.length) (h2:1<=st) (pl:a.Pairwise (· < ·)):(QK (T a) (some s) none st).Pairwise (· < ·):=by
 have e:Builtin.Str.strSliceIndices (some s) none st (T a).length=(List.range (((a.length:Int) - s+st - 1) / st).toNat).map fun k:Nat=>(s+st*(k:Int)).toNat:=by
  have l:((T a).length:Int)=a.length:=rfl
  unfold Builtin.Str.strSliceIndices
  dsimp only
  rw [l,if_neg (show ¬ s < 0 by omega),if_pos (show st > 0 by omega),if_pos (show st > 0 by omega),Int.min_eq_left (by omega),Int.max_eq_right h0]
  unfold sliceRange
  rw [if_pos (show st > 0 by omega),if_pos h1]
 unfold QK
 rw [e,QG,List.filterMap_map]
 refine List.pairwise_filterMap.mpr ((List.pairwise_lt_range).imp fun {i j} hij x hx y hy=>?_)
 obtain ⟨p1,q1⟩:=List.getElem?_eq_some_iff.mp hx
 obtain ⟨p2,q2⟩:=List.getElem?_eq_some_iff.mp hy
 have hm:st*(i:Int) < st*(j:Int):=Int.mul_lt_mul_of_pos_left (by omega) (by omega)
 have hn:0<=st*(i:Int):=Int.mul_nonneg (by omega) (by omega)
 rw [<- q1,<- q2]
 refine List.pairwise_iff_getElem.mp pl _ _ p1 p2 ?_
 show (s+st*(i:Int)).toNat < (s+st*(j:Int)).toNat
 omega
end L2
namespace L2
open PySem PySem.W PyProof PyProof.Rows
theorem Ym : ∀ {xs:List (List Nat)} {us:List Value},z9 (xs.map fun l=>V.str (T l)) us->StrsAre us (xs.map T)
 | [],_,.nil=>.nil
 | x::xs,_,.cons r t=>by
  obtain ⟨u,rfl⟩:=r
  exact .cons (T x) u (Ym t)
def zB0 (K:W.Frag):V->List V->Hp->VK->Prop:=fun x vs H Q=>∃ (m:Str) (p:Addr) (xs:List (List Nat)),x = .str m/\vs=[.ref p]/\H p=some (.tup (xs.map fun l=>V.str (T l)))/\xs.flatten.length+xs.length*(Lt m).length<=16777216/\Q (.str (T (jn (Lt m) xs))) H
theorem Wb (xs:List (List Nat)):((xs.map T).map (·.length)).sum=xs.flatten.length:=by
 induction xs with
 | nil=>rfl
 | cons x xs ih=>rw [List.map_cons,List.map_cons,List.sum_cons,ih,List.flatten_cons,List.length_append];rfl
theorem zA6 {X:Cx}:MtR X "str.join" (zB0 X.K):=by
 intro pins s σ H x vs v us Q I rx rv h
 obtain ⟨m,p,xs,rfl,rfl,hH,hz,q⟩:=h
 obtain ⟨t,rfl⟩:=rx
 obtain ⟨u,rfl,ru⟩:=rv.one
 cases ru
 obtain ⟨its,r,pl,_⟩:=I.tuple (SqT.of hH)
 obtain ⟨o,h1,h2,n,h3⟩:=pl
 refine join_tuple (ys:=xs.map T) ⟨o,h1,h2,⟨n,h3⟩⟩ (Ym r) ?_ fun t' k=>⟨.str _,H,I.tok _,⟨t',rfl⟩,by rw [zBf];exact q⟩
 rw [Wb,List.length_map]
 exact hz
theorem zCf {K:W.Frag} {H:Hp} {Q:VK} {m:Str} {p:Addr} {xs:List (List Nat)} (h:H p=some (.tup (xs.map fun l=>V.str (T l)))) (hz:xs.flatten.length+xs.length*(Lt m).length<=16777216) (q:Q (.str (T (jn (Lt m) xs))) H):zB0 K (.str m) [.ref p] H Q:=⟨m,p,xs,rfl,rfl,h,hz,q⟩
end L2
namespace Pw
open PySem L2
open List (append_assoc append_cancel_left append_nil drop_left filterMap_cons filter_append filter_cons filter_cons_of_neg filter_cons_of_pos filter_nil getD_eq_getElem?_getD getElem?_eq_getElem getElem?_map getElem_mem length_append length_cons length_drop length_filter_le length_map length_nil length_range length_singleton length_take map_append map_cons map_const map_nil mem_cons mem_cons_of_mem mem_cons_self mem_filter mem_map mem_of_getElem? not_mem_nil range_succ take_add_one take_left take_length take_of_length_le take_succ)
open Nat (le_trans min_le_right sub_le)
open Int (emod_lt_of_pos emod_nonneg eq_ofNat_of_zero_le toNat_natCast)
set_option maxHeartbeats 4000000
variable {z:Int}
theorem tns {e:Int} (h:0<=z):(e - z).toNat=e.toNat - z.toNat:=by omega
seal PySem.Sem.wp
local macro_rules | `(tactic| walk_at "ln")=>`(tactic| first | (rintro ⟨h,_⟩;rw [h];rfl) | (rintro ⟨_,h⟩;revert h;walk_at "ln"))
local macro_rules | `(tactic| walk_at "sc")=>`(tactic| exact ⟨rfl,rfl,rfl,by decide +kernel,rfl,by decide +kernel,by decide +kernel⟩)
def top (i:Nat):Stmt:=PySem.Challenge.pw_padwright_k46_whole_all_values_for_a_tex.main.body.getD i (.Pass ⟨0,0,0,0⟩)
abbrev XZ:Stmt:=top 12
theorem QN:zN ["length", "width", "side", "lacks"] ["length", "width", "side"] (zE XZ):=by walk_at "sc"
abbrev Yj:Stmt:=top 13
theorem Jf:zN ["text", "width", "fill", "side", "pads"] ["text", "width", "fill", "side"] (zE Yj):=by walk_at "sc"
abbrev Qr:Stmt:=top 16
theorem jm:zN ["text", "width", "fill", "side", "plains", "length", "ahead", "plain"] ["text", "width", "fill", "side"] (zE Qr):=by walk_at "sc"
abbrev xT:Stmt:=top 17
theorem kL:zN ["text", "lead", "width", "fill"] ["text", "lead", "width", "fill"] (zE xT):=by walk_at "sc"
abbrev yF:Stmt:=qy (top 19) 0
theorem ZD:zN ["self", "width", "fill", "side", "strict"] ["self", "width", "fill", "side", "strict"] (zE yF):=by walk_at "sc"
abbrev xC:Stmt:=qy (top 19) 3
theorem y1:zN ["self", "core"] ["self", "core"] (zE xC):=by walk_at "sc"
abbrev yQ:Stmt:=qy (top 19) 6
theorem ZE:zN ["self", "text"] ["self", "text"] (zE yQ):=by walk_at "sc"
abbrev jq:Stmt:=qy (top 21) 0
theorem ye:zN ["self", "signs", "least", "most", "width", "fill", "side", "strict"] ["self", "signs", "least", "most", "width", "fill", "side", "strict"] (zE jq):=by walk_at "sc"
abbrev jV:Stmt:=qy (top 21) 2
theorem x9:zN ["self", "text"] ["self", "text"] (zE jV):=by walk_at "sc"
abbrev j7:Stmt:=qy (top 21) 5
theorem yw:zN ["self", "thing"] ["self", "thing"] (zE j7):=by walk_at "sc"
abbrev jS:Stmt:=qy (top 22) 0
theorem x0:zN ["self", "names", "width", "fill", "side", "strict"] ["self", "names", "width", "fill", "side", "strict"] (zE jS):=by walk_at "sc"
abbrev jA:Stmt:=qy (top 22) 2
theorem qt:zN ["self", "text", "cores"] ["self", "text"] (zE jA):=by walk_at "sc"
abbrev Z4:Stmt:=top 27
theorem jP:zN ["text", "base", "number", "sign", "worth"] ["text", "base"] (zE Z4):=by walk_at "sc"
abbrev Jv:Stmt:=top 30
theorem VD:zN ["text", "size", "mark"] ["text", "size", "mark"] (zE Jv):=by walk_at "sc"
abbrev ZQ:Stmt:=top 31
theorem wK:zN ["text", "size", "mark", "plain"] ["text", "size", "mark"] (zE ZQ):=by walk_at "sc"
abbrev Qh:Stmt:=top 32
theorem xj:zN ["text", "size", "between", "parts", "end"] ["text", "size", "between"] (zE Qh):=by walk_at "sc"
abbrev Z6:Stmt:=top 35
theorem xB:zN ["body", "base", "places", "point", "size", "mark", "cut", "whole", "number"] ["body", "base", "places", "point", "size", "mark"] (zE Z6):=by walk_at "sc"
abbrev ZM:Stmt:=top 36
theorem wR:zN ["body", "places", "point", "cut"] ["body", "places", "point"] (zE ZM):=by walk_at "sc"
abbrev Js:Stmt:=top 39
theorem Vo:zN ["style", "below"] ["style", "below"] (zE Js):=by walk_at "sc"
abbrev YR:Stmt:=top 40
theorem XD:zN ["body", "style", "below", "ends"] ["body", "style", "below"] (zE YR):=by walk_at "sc"
abbrev QP:Stmt:=top 41
theorem xi:zN ["core", "style", "below", "ends", "body"] ["core", "style"] (zE QP):=by walk_at "sc"
abbrev qr:Stmt:=top 42
theorem xH:zN ["body"] ["body"] (zE qr):=by walk_at "sc"
abbrev Qs:Stmt:=top 44
theorem YI:zN ["thing"] ["thing"] (zE Qs):=by walk_at "sc"
abbrev QV:Stmt:=top 45
theorem xk:zN ["base", "times", "power", "turn"] ["base", "times"] (zE QV):=by walk_at "sc"
abbrev xx:Stmt:=top 46
theorem qA:zN ["one", "other", "greater", "lesser", "rest"] ["one", "other"] (zE xx):=by walk_at "sc"
abbrev Qo:Stmt:=top 48
theorem yu:zN ["top", "bottom", "divisor"] ["top", "bottom"] (zE Qo):=by walk_at "sc"
abbrev wP:Stmt:=top 53
theorem JN:zN ["k", "base", "places"] ["k", "base", "places"] (zE wP):=by walk_at "sc"
abbrev jT:Stmt:=qy (top 55) 0
theorem x8:zN ["self", "figures", "places", "base", "sign", "size", "mark", "point", "way", "width", "fill", "side", "strict"] ["self", "figures", "places", "base", "sign", "size", "mark", "point", "way", "width", "fill", "side", "strict"] (zE jT):=by walk_at "sc"
abbrev jE:Stmt:=qy (top 55) 2
theorem qm:zN ["self", "text", "ks"] ["self", "text"] (zE jE):=by walk_at "sc"
abbrev qc:Stmt:=qy (top 55) 6
theorem jw:zN ["self", "number"] ["self", "number"] (zE qc):=by walk_at "sc"
abbrev jD:Stmt:=qy (top 55) 7
theorem qk:zN ["self", "text", "below", "ks"] ["self", "text", "below"] (zE jD):=by walk_at "sc"
abbrev jQ:Stmt:=qy (top 55) 8
theorem qU:zN ["self", "text", "below", "lead", "cores"] ["self", "text", "below"] (zE jQ):=by walk_at "sc"
abbrev ql:Stmt:=qy (top 55) 9
theorem qI:zN ["self", "core", "below", "parts", "number"] ["self", "core", "below"] (zE ql):=by walk_at "sc"
abbrev kI:Stmt:=top 57
theorem QJ:zN ["_law_script", "_law_k"] ["_law_script", "_law_k"] (zE kI):=by walk_at "sc"
abbrev Qp:Stmt:=top 59
theorem xa:zN ["_law_cell", "_law_salt", "_law_many", "_law_one", "_law_two"] ["_law_cell", "_law_salt", "_law_many"] (zE Qp):=by walk_at "sc"
abbrev Z3:Stmt:=top 60
theorem Jo:zN [] [] (zE Z3):=by walk_at "sc"
abbrev QQ:Stmt:=top 61
theorem Zg:zN ["_law_cell", "_law_salt", "_law_some"] ["_law_cell", "_law_salt"] (zE QQ):=by walk_at "sc"
abbrev xP:Stmt:=top 62
theorem zW:zN ["_law_cell", "_law_other", "_law_small", "_law_figures_here", "_law_places", "_law_base", "_law_sign_here", "_law_size", "_law_way", "_law_signs_here", "_law_widths", "_law_width", "_law_side", "_law_strict"] ["_law_cell", "_law_other", "_law_small"] (zE xP):=by walk_at "sc"
abbrev xN:Stmt:=top 63
theorem zT:zN ["_law_spec_here", "_law_figures_here", "_law_places", "_law_base", "_law_sign_here", "_law_size", "_law_mark", "_law_point", "_law_way", "_law_width", "_law_fill", "_law_side", "_law_strict"] ["_law_spec_here"] (zE xN):=by walk_at "sc"
abbrev ZW:Stmt:=top 64
theorem xD:zN ["_law_base", "_law_times", "_law_found", "_law_k"] ["_law_base", "_law_times"] (zE ZW):=by walk_at "sc"
abbrev kW:Stmt:=top 65
theorem yl:zN ["_law_one", "_law_other"] ["_law_one", "_law_other"] (zE kW):=by walk_at "sc"
abbrev wU:Stmt:=top 66
theorem kO:zN ["_law_top", "_law_bottom", "_law_many"] ["_law_top", "_law_bottom"] (zE wU):=by walk_at "sc"
abbrev kU:Stmt:=top 67
theorem jN:zN ["_law_number", "_law_base", "_law_found"] ["_law_number", "_law_base"] (zE kU):=by walk_at "sc"
abbrev Qk:Stmt:=top 68
theorem zt:zN ["_law_steps", "_law_spec_here", "_law_places", "_law_base", "_law_size", "_law_mark", "_law_point", "_law_step", "_law_figures_here", "_law_whole_here", "_law_k", "_law_rest"] ["_law_steps", "_law_spec_here"] (zE Qk):=by walk_at "sc"
abbrev Zk:Stmt:=top 69
theorem wJ:zN ["_law_steps", "_law_spec_here", "_law_body_here"] ["_law_steps", "_law_spec_here"] (zE Zk):=by walk_at "sc"
abbrev wQ:Stmt:=top 70
theorem jd:zN ["_law_lead", "_law_rest", "_law_spec_here", "_law_width", "_law_fill", "_law_side", "_law_lacks", "_law_ahead"] ["_law_lead", "_law_rest", "_law_spec_here"] (zE wQ):=by walk_at "sc"
abbrev yH:Stmt:=top 71
theorem zj:zN ["_law_cell", "_law_other", "_law_small", "_law_start", "_law_step", "_law_signs_here", "_law_least", "_law_most", "_law_fill", "_law_width", "_law_side"] ["_law_cell", "_law_other", "_law_small"] (zE yH):=by walk_at "sc"
abbrev ZU:Stmt:=top 72
theorem zx:zN ["_law_cell", "_law_many", "_law_signs_here", "_law_base", "_law_way", "_law_at", "_law_size", "_law_step", "_law_found", "_law_k", "_law_sign_here", "_law_turn"] ["_law_cell", "_law_many"] (zE ZU):=by walk_at "sc"
abbrev xY:Stmt:=top 73
theorem qG:zN ["_law_cell", "_law_other", "_law_small", "_law_names_here", "_law_fill", "_law_width", "_law_side"] ["_law_cell", "_law_other", "_law_small"] (zE xY):=by walk_at "sc"
abbrev QZ:Stmt:=top 74
theorem yz:zN ["_law_script", "_law_small", "_law_kind", "_law_one", "_law_other"] ["_law_script", "_law_small"] (zE QZ):=by walk_at "sc"
abbrev QS:Stmt:=top 75
theorem Xj:zN ["_law_spec_here"] ["_law_spec_here"] (zE QS):=by walk_at "sc"
abbrev yi:Stmt:=top 76
theorem Zw:zN ["_law_value", "_law_spec_here"] ["_law_value", "_law_spec_here"] (zE yi):=by walk_at "sc"
abbrev Qi:Stmt:=top 77
theorem y4:zN ["_law_value", "_law_spec_here", "_law_lead", "_law_rest"] ["_law_value", "_law_spec_here"] (zE Qi):=by walk_at "sc"
abbrev yO:Stmt:=top 78
theorem zo:zN ["_law_signs_here", "_law_least", "_law_most", "_law_found", "_law_row", "_law_size", "_law_longer", "_law_word"] ["_law_signs_here", "_law_least", "_law_most"] (zE yO):=by walk_at "sc"
abbrev XW:Stmt:=top 79
theorem kY:zN ["_law_spec_here", "_law_step", "_law_limit"] ["_law_spec_here"] (zE XW):=by walk_at "sc"
abbrev Qc:Stmt:=top 80
theorem Z8:zN ["_law_spec_here", "_law_figures_here"] ["_law_spec_here"] (zE Qc):=by walk_at "sc"
abbrev wO:Stmt:=top 81
theorem xp:zN ["_law_cell", "_law_text_here", "_law_at", "_law_sign_here"] ["_law_cell", "_law_text_here"] (zE wO):=by walk_at "sc"
abbrev Xy:Stmt:=top 82
theorem yn:zN ["_law_script", "_law_spec_here", "_law_form_here", "_law_rows", "_law_k", "_law_cell", "_law_value", "_law_text_here", "_law_one"] ["_law_script"] (zE Xy):=by walk_at "sc"
structure Zs (w:World) (K:W.Frag) (mg:Str->Option Value) (xX zg zn qE qL kJ zH zL zM jf:Addr) (yG jR qa:Tok):Prop where
 kn:Kn K mg
 ab:mg "PadError" = some (.ref xX)
 ac:mg "NoFigures" = some (.ref zg)
 ad:mg "NoGroups" = some (.ref zn)
 ae:mg "NoBody" = some (.ref qE)
 af:mg "NoCore" = some (.ref qL)
 ag:mg "Form" = some (.ref kJ)
 ah:mg "NumberForm" = some (.ref zH)
 ai:mg "WordForm" = some (.ref zL)
 aj:mg "ChoiceForm" = some (.ref zM)
 ak:mg "len" = none
 al:mg "range" = none
 am:mg "isinstance" = none
 an:mg "str" = none
 ao:mg "max" = none
 ap:mg "min" = none
 aq:mg "int" = none
 ar:mg "bool" = none
 au:mg "abs" = none
 av:mg "list" = none
 aw:mg "tuple" = none
 ax:mg "all" = none
 ay:mg "sorted" = none
 az:mg "STYLES" = some (.ref jf)
 aA:mg "FIGURES" = some (.str "0123456789abcdef" yG)
 aB:mg "MOST_SIGNS" = some (.int 40 jR)
 aC:mg "MOST_FIGURES" = some (.int 240 qa)
 aD:Sty w K jf
 f0:Dfx K "_law_cell_at" kI
 f1:Dfx K "_law_pick" Qp
 f2:Dfx K "pads_of" XZ
 f3:Dfx K "padded" Yj
 f4:Dfx K "power_of" QV
 f5:Dfx K "parts_of" Qh
 f6:Dfx K "grouped" Jv
 f7:Dfx K "ends_of" Js
 f8:Dfx K "signed" YR
 f9:Dfx K "stands_between_figures" qr
 aO:Dfx K "unsigned" QP
 aP:Dfx K "is_whole" Qs
 aQ:Dfx K "common_divisor" xx
 aR:Dfx K "ungrouped" ZQ
 aS:Dfx K "number_of" Z4
 aT:Dfx K "whole_end" ZM
 aU:Dfx K "number_in" Z6
 aV:Dcx K "Form.__init__" "__init__" yF kJ
 aW:Ddx K "WordForm.__init__" "__init__" jq zL [zL] 4
 aX:Ddx K "ChoiceForm.__init__" "__init__" jS zM [zM] 4
 aY:Ddx K "NumberForm.__init__" "__init__" jT zH [zH] 10
 aZ:Dmx K "NumberForm.is_too_great" "is_too_great" qc zH [zH]
 a0:Dmx K "Form.is_too_wide" "is_too_wide" xC kJ [zH,zL,zM]
 a1:Dmx K "WordForm.is_word" "is_word" j7 zL [zL]
 a2:Dfx K "stripped" Qr
 a3:Dmx K "Form.unfilled" "unfilled" yQ kJ [zH,zM,zL]
 a4:Dfx K "fraction" Qo
 a5:Dfx K "grid_value" wP
 a6:Dmx K "NumberForm.number_with" "number_with" ql zH [zH]
 a7:Dfx K "stripped_inside" xT
 a8:Dmx K "NumberForm.cores_in" "cores_in" jQ zH [zH]
 a9:Dmx K "NumberForm.numbers_in" "numbers_in" jD zH [zH]
 ba:Dmx K "NumberForm.values_for" "values_for" jE zH [zH]
 bb:Dmx K "ChoiceForm.values_for" "values_for" jA zM [zM]
 bc:Dmx K "WordForm.values_for" "values_for" jV zL [zL]
 bd:Dfx K "_law_signs" Z3
 be:Dfx K "_law_sign" QQ
 bf:Dfx K "_law_number_spec" xP
 bg:Dfx K "_law_number_form" xN
 bh:Dfx K "_law_word_spec" yH
 bi:Dfx K "_law_names" ZU
 bj:Dfx K "_law_choice_spec" xY
 bk:Dfx K "_law_power" ZW
 bl:Dfx K "_law_divisor" kW
 bm:Dfx K "_law_lowest" wU
 bn:Dfx K "_law_figures" kU
 bo:Dfx K "_law_body" Qk
 bp:Dfx K "_law_parts" Zk
 bq:Dfx K "_law_filled" wQ
 br:Dfx K "_law_spec" QZ
 bs:Dfx K "_law_form" QS
 bt:Dfx K "_law_parts_of" yi
 bu:Dfx K "_law_text" Qi
 bv:Dfx K "_law_all_words" yO
 bw:Dfx K "_law_all" XW
 bx:Dfx K "_law_less" Qc
 bz:Dfx K "_law_spoilt" wO
 bA:Dfx K "law" Xy
 bB:Exc K zg
 bC:Exc K zn
 bD:Exc K qE
 bE:Exc K qL
 bF:Nm K "NoFigures" zg
 bG:Nm K "NoGroups" zn
 bH:Nm K "NoBody" qE
 bI:Nm K "NoCore" qL
 bJ:Cls K zH
 bK:qZ K zH ["width", "fill", "side", "strict", "figures", "places", "base", "sign", "size", "mark", "point", "way"]
 bL:MkI K zH
 bM:Cls K zL
 bN:qZ K zL ["width", "fill", "side", "strict", "signs", "least", "most"]
 bO:MkI K zL
 bP:Cls K zM
 bQ:qZ K zM ["width", "fill", "side", "strict", "names"]
 bR:MkI K zM
 xg:W.exmAny K (.ref zn) [.ref zn,.ref zg]=some true
 xf:W.exmAny K (.ref zg) [.ref zn,.ref zg]=some true
 xc:W.exmAny K (.ref qL) [.ref qL,.ref qE]=some true
 xb:W.exmAny K (.ref qE) [.ref qL,.ref qE]=some true
section
variable {P : Program} {w : World} {K : W.Frag} {mg : Str -> Option Value} {base : Heap} {xX zg zn qE qL kJ zH zL zM jf : Addr} {yG jR qa : Tok} (Z : Zs w K mg xX zg zn qE qL kJ zH zL zM jf yG jR qa)
local macro_rules | `(tactic| walk_at "sd")=>`(tactic| first | omega | (unfold zHH;omega) | (unfold CNn;omega) | (unfold CNz;omega) | (unfold zFa GL;omega) | (unfold zGV GL;omega) | (unfold zFP zD7;first | exact .inl (.inl ⟨by omega,by omega⟩) | exact .inl (.inr ⟨by omega,by omega⟩) | (unfold Ky GL;omega)))
local macro_rules | `(tactic| walk_at "hp")=>`(tactic| first | assumption | (refine zY.at (by assumption) ?_;walk_at "hp") | exact zQ)
local macro_rules | `(tactic| walk_at "sq")=>`(tactic| first | assumption | (refine zY.seq (by assumption) ?_;walk_at "sq") | exact SqL.of (by walk_at "hp"))
local macro_rules | `(tactic| walk_at "sm")=>`(tactic| first | assumption | exact zY.refl _ | (refine zY.trans ?_ (by assumption);walk_at "sm"))
local macro_rules | `(tactic| walk_at "rdc")=>`(tactic| fail "no callee")
local macro_rules | `(tactic| walk_at "rd1")=>`(tactic| first
 | (with_reducible first | apply zEq | apply zEc | apply zHA | apply zGf | apply zFw | apply zEN)
 | ((with_reducible refine' zGW ?e ?_);(case e=>rfl))
 | (with_reducible first | apply r_c | apply zHf | apply zHk)
 | ((with_reducible refine' r_I ?hc ?_);(case hc=>walk_at "sd"))
 | (with_reducible first | apply zEI | apply zH2 | apply zFr | apply zGj | apply zGL | apply zH1 | apply zHr | apply zHi | apply zHs)
 | ((with_reducible refine' zHy ?hc ?_);(case hc=>omega))
 | ((with_reducible refine' zHg ?hc ?_);(case hc=>omega))
 | ((with_reducible refine' zGi ?hc ?_);(case hc=>omega))
 | (with_reducible first | refine i_d (fun hc=>?_) (fun hc=>?_) | refine zHE (fun hc=>?_) (fun hc=>?_) | refine i_b (fun hc=>?_) (fun hc=>?_) | apply zFJ | apply zEm | apply zD1 | apply zHj | apply zHq | apply r_U | apply zGb | apply zHt | apply zG7 | apply zF5 | apply zFp | apply zDT | apply zG9 | apply zEA)
 | ((with_reducible refine' zF0 ?hz ?_);(case hz=>exact qY (by simp only [length_cons,length_nil];decide));intro p' H' g' e')
 | (with_reducible first | apply zAt | apply zA7)
 | ((with_reducible refine' kX ?h ?e ?_);(case h=>walk_at "hp");(case e=>rfl))
 | (with_reducible first | refine zFX (fun k' hk'=>?_) | refine zDk (fun k' hk'=>?_) | refine zDg (fun k' hk'=>?_) | refine zCw (fun hc=>?_) (fun hc=>?_) | apply YL)
 | ((with_reducible refine' zEk ?h ?_);(case h=>walk_at "sq"))
 | (with_reducible first | apply zG8 | apply zGw | apply zGK | apply zEE | apply zEx)
 | ((with_reducible refine' zFm ?h ?n ?_);(case h=>walk_at "hp");(case n=>rfl))
 | (with_reducible first | apply zC0 | apply zEJ | apply zEo)
 | walk_at "rdc"
 | fail "rd stops")
local macro_rules | `(tactic| walk_at "rd")=>`(tactic| repeat' walk_at "rd1")
local macro_rules | `(tactic| walk_at "st")=>`(tactic| dsimp only [L2.start,List.map,List.length,List.replicate,List.append,HAppend.hAppend,Append.append,Nat.reduceAdd,Nat.reduceSub])
local macro_rules | `(tactic| walk_at "rdc")=>`(tactic| first
 | (with_reducible first | apply zCs | apply zAm | apply zD3 | apply zCX | apply zDm | apply zDB | apply zFW | apply zGM)
 | ((with_reducible refine' Vz (b:=true) ?e ?_);(case e=>exact decide_eq_true rfl))
 | ((with_reducible refine' Vz (b:=false) ?e ?_);(case e=>exact (by decide +kernel)))
 | fail "rd2 stops")
local macro_rules | `(tactic| walk_at "odd")=>`(tactic| first | assumption | exact .non | exact .bl _ | exact .str _ | exact .lst (by walk_at "hp") | exact .tup (by walk_at "hp") | exact .dct (by walk_at "hp") | (refine Odd.same ?_ (by assumption);walk_at "odd"))
local macro_rules | `(tactic| walk_at "rdc")=>`(tactic| first
 | (with_reducible first | apply Wi | apply zD5)
 | ((with_reducible refine' zBU ?h ?_);(case h=>walk_at "sq"))
 | fail "rd3 stops")
local macro_rules | `(tactic| walk_at "tl")=>`(tactic| first | omega | (simp only [QG,length_append,List.length_replicate,length_cons,length_nil,length_take,length_drop];first | (with_reducible refine le_trans (Nat.add_le_add (Nat.add_le_add (min_le_right _ _) (Nat.le_refl _)) (sub_le _ _)) ?_;omega) | (with_reducible refine le_trans (sub_le _ _) (le_trans (min_le_right _ _) ?_);omega) | (with_reducible refine le_trans (sub_le _ _) ?_;omega) | (with_reducible refine le_trans (min_le_right _ _) ?_;omega) | omega) | (with_unfolding_all decide))
local macro_rules | `(tactic| walk_at "rdc")=>`(tactic| first
 | ((with_reducible refine' zCm ?hz ?_);(case hz=>walk_at "tl"))
 | ((with_reducible refine' zBp ?hz ?_);(case hz=>walk_at "tl"))
 | ((with_reducible refine' zC2 ?hz ?_);(case hz=>walk_at "tl"))
 | ((with_reducible refine' zBq ?hz ?_);(case hz=>walk_at "tl"))
 | ((with_reducible refine' Wq (z:=Str.ofString _) 94 ?hn ?hz ?h0 ?h1 ?_);(case hn=>decide +kernel);(case hz=>decide);(case h0|h1=>omega);intro c' hc')
 | ((with_reducible refine' Wq (z:=Str.ofString _) 16 ?hn ?hz ?h0 ?h1 ?_);(case hn=>decide +kernel);(case hz=>decide);(case h0|h1=>omega);intro c' hc')
 | ((with_reducible refine' Wq (z:=Str.ofString _) 13 ?hn ?hz ?h0 ?h1 ?_);(case hn=>decide +kernel);(case hz=>decide);(case h0|h1=>omega);intro c' hc')
 | ((with_reducible refine' zE5 ?hz ?h0 ?h1 ?_);(case hz=>walk_at "tl");(case h0=>omega);(case h1=>walk_at "tl"))
 | ((with_reducible refine' zAn ?hz ?h0 ?h1 ?_);(case hz=>walk_at "tl");(case h0=>omega);(case h1=>walk_at "tl"))
 | ((with_reducible refine' zC9 ?hz ?h1 ?_);(case hz|h1=>walk_at "tl"))
 | ((with_reducible refine' zDf ?hz ?h0 ?_);(case hz=>walk_at "tl");(case h0=>omega))
 | ((with_reducible refine' zDG ?hz ?h0 ?_);(case hz=>walk_at "tl");(case h0=>omega))
 | ((with_reducible refine' zBB ?hz ?h0 ?h1 ?_);(case hz=>walk_at "tl");(case h0|h1=>omega))
 | ((with_reducible refine' zDK ?h0 ?h1 ?_);(case h0|h1=>omega))
 | (with_reducible refine zAh ?_)
 | ((with_reducible refine' Vz (b:=true) ?e ?_);(case e=>exact decide_eq_true rfl))
 | ((with_reducible refine' Vz (b:=false) ?e ?_);(case e=>exact (by decide +kernel)))
 | ((with_reducible refine' zCR (b:=true) ?e ?_);(case e=>exact decide_eq_true rfl))
 | ((with_reducible refine' zCR (b:=false) ?e ?_);(case e=>exact (by decide +kernel)))
 | (with_reducible first | apply zBw | apply zBZ | apply zB6 | apply WK | apply zD5 | apply zGu | apply WF)
 | fail "rd4 stops")
local macro_rules | `(tactic| walk_at "rdc")=>`(tactic| first
 | (with_reducible refine zE7 ?_)
 | ((with_reducible refine' Vz (x:=T _) (b:=true) ?e ?_);(case e=>exact decide_eq_true rfl))
 | (with_reducible refine zBw ?_)
 | ((with_reducible refine' zCR (x:=T _) (b:=true) ?e ?_);(case e=>exact decide_eq_true rfl))
 | (with_reducible refine zBZ ?_)
 | fail "rd5 stops")
local macro_rules | `(tactic| walk_at "rdc")=>`(tactic| first
 | (with_reducible refine zEf ?_)
 | ((with_reducible refine' zFf ?h ?h0 ?h1 ?_);(case h=>walk_at "sq");(case h0|h1=>omega))
 | fail "rd6 stops")
local macro_rules | `(tactic| walk_at "asc")=>`(tactic| first | assumption | exact Asc.nil | exact Asc.one (by omega) | exact Asc.app (by walk_at "asc") (by walk_at "asc") | exact Asc.take (by walk_at "asc") _ | exact Asc.drop (by walk_at "asc") _ | exact Asc.rep (by walk_at "asc") _)
local macro_rules | `(tactic| walk_at "rdc")=>`(tactic| first
 | (with_reducible first | apply zD0 | apply zEB)
 | fail "rd7 stops")
local macro_rules | `(tactic| walk_at "rdc")=>`(tactic| first
 | (with_reducible refine zDh ?_)
 | fail "rd8 stops")
local macro_rules | `(tactic| walk_at "sqt")=>`(tactic| first | assumption | exact SqT.same (by assumption) (by assumption) | exact SqT.same (SqT.same (by assumption) (by assumption)) (by assumption) | exact SqT.of (by walk_at "hp"))
local macro_rules | `(tactic| walk_at "rdc")=>`(tactic| first
 | ((with_reducible refine' zDX ?h ?e ?_);(case h=>walk_at "sqt");(case e=>rfl))
 | fail "rd9 stops")
local macro_rules | `(tactic| walk_at "rdc")=>`(tactic| first
 | (with_reducible refine zDz ?_)
 | ((with_reducible refine' zGg ?h ?_);(case h=>first | assumption | omega))
 | (with_reducible refine zCg ?_)
 | fail "rd10 stops")
local macro_rules | `(tactic| walk_at "rdc")=>`(tactic| first
 | fail "rd11 stops")
local macro_rules | `(tactic| walk_at "rdc")=>`(tactic| first
 | ((with_reducible refine' zFn ?h ?_);(case h=>walk_at "sq"))
 | ((with_reducible refine' zDa ?h ?h0 ?_);(case h=>walk_at "sq");(case h0=>omega))
 | ((with_reducible refine' Yz ?h ?_);(case h=>walk_at "sq");intro l' H' g' n' e')
 | (with_reducible refine W7 ?_)
 | ((with_reducible refine' zBU ?h ?_);(case h=>walk_at "sq"))
 | (with_reducible refine zEf ?_)
 | fail "rd12 stops")
local macro_rules | `(tactic| walk_at "rdc")=>`(tactic| first
 | (with_reducible refine zGt ?_)
 | fail "rd13 stops")
local macro_rules | `(tactic| walk_at "fm")=>`(tactic| first | assumption | (refine' zX.same (by assumption) ?_;walk_at "fm"))
local macro_rules | `(tactic| walk_at "fld2")=>`(tactic| fail "no own field")
local macro_rules | `(tactic| walk_at "fld")=>`(tactic| first | (exact zX.width (by walk_at "fm")) | (exact zX.fill (by walk_at "fm")) | (exact zX.side (by walk_at "fm")) | (exact zX.strict (by walk_at "fm")) | walk_at "fld2")
local macro_rules | `(tactic| walk_at "wk")=>`(tactic| repeat (first | exact Wk.nil | refine Wk.one ?_ | refine Wk.any ?_))
local macro_rules | `(tactic| walk_at "rdc")=>`(tactic| first
 | (with_reducible first | apply zGp | apply Wi)
 | ((with_reducible refine' zD9 ?h ?_);(case h=>walk_at "fld"))
 | (with_reducible refine Yv ?_)
 | ((with_reducible refine' JO ?h ?_);(case h=>walk_at "ins"))
 | (with_reducible refine zC1 ?_)
 | ((with_reducible refine' zHo ?h ?_);(case h=>walk_at "wk"))
 | (with_reducible first | apply zFb | apply zFI | apply zFU | apply zB8 | apply zDJ | apply zFF)
 | ((with_reducible refine' zG3 ?h ?_);(case h=>walk_at "sq"))
 | fail "rd14 stops")
local macro_rules | `(tactic| walk_at "rd1")=>`(tactic| first | ((with_reducible refine' zAr ?h ?e ?_);(case h=>walk_at "sq");(case e=>rfl)) | fail "no written place")
def YS (t b:Int):Int:=if b < 0 then -(Int.gcd t b:Int) else (Int.gcd t b:Int)
def QR (t b:Int):Int:=t.fdiv (YS t b)
def Z5 (t b:Int):Int:=b.fdiv (YS t b)
variable {g l:Int}
theorem zAk (hg:0<=g) (hl:0 < l):Int.gcd l (g % l)=Int.gcd g l:=by
 rw [Int.gcd_comm g l]
 have e:g % l=g+l*(-(g / l)):=by
  have:=Int.emod_add_mul_ediv g l
  rw [Int.mul_neg];omega
 rw [e,Int.gcd_add_mul_left_right]
theorem Wx (t b:Int):YS t b ∣ t:=by
 unfold YS;split
 ·exact (Int.neg_dvd).mpr (Int.gcd_dvd_left ..)
 ·exact Int.gcd_dvd_left ..
theorem Kh (t b:Int):YS t b ∣ b:=by
 unfold YS;split
 ·exact (Int.neg_dvd).mpr (Int.gcd_dvd_right ..)
 ·exact Int.gcd_dvd_right ..
variable {t b:Int}
theorem YT (h:0 < b):0 < YS t b:=by
 unfold YS;rw [if_neg (by omega)]
 have:0 < Int.gcd t b:=Int.gcd_pos_of_ne_zero_right _ (by omega)
 omega
theorem zAa (t b:Int):QR t b*YS t b=t:=by
 unfold QR;exact Int.fdiv_mul_cancel (Wx t b)
theorem JB (t b:Int):Z5 t b*YS t b=b:=by
 unfold Z5;exact Int.fdiv_mul_cancel (Kh t b)
theorem Yk (h:0 < b):0 < Z5 t b:=by
 have h1:=YT (t:=t) h
 have h2:=JB t b
 rcases Int.lt_trichotomy 0 (Z5 t b) with h3 | h3 | h3
 ·exact h3
 ·rw [<- h3] at h2;simp at h2;omega
 ·have:=Int.mul_neg_of_neg_of_pos h3 h1;omega
theorem zDi (h:0 < b):Z5 t b<=b:=by
 have h1:=YT (t:=t) h
 have h2:=JB t b
 have h3:=Yk (t:=t) h
 have:=Int.mul_le_mul_of_nonneg_left (show 1<=YS t b by omega) (Int.le_of_lt h3)
 omega
variable {a:Int}
theorem zC6 (h1:(0<=a/\g=a)\/(a < 0/\g = -a)) (h2:(0<=b/\l=b)\/(b < 0/\l = -b)):0<=g/\0<=l/\Int.gcd g l=Int.gcd a b:=by
 rcases h1 with ⟨h,rfl⟩ | ⟨h,rfl⟩ <;> rcases h2 with ⟨h',rfl⟩ | ⟨h',rfl⟩ <;> simp only [Int.gcd_neg,Int.neg_gcd,and_true] <;> omega
def Way (w:Str):Prop:=w = "down" \/ w = "up" \/ w = "cut" \/ w = "near" \/ w = "even"
theorem KT {b:Int} (h1:2<=b) (h2:b<=16) : ∀ n:Nat,1<=b ^ n/\b ^ n<=16 ^ n
 | 0=>by simp
 | n+1=>by
  obtain ⟨p,q⟩:=KT h1 h2 n
  rw [Int.pow_succ,Int.pow_succ]
  have a1:=Int.mul_le_mul p (show 1<=b by omega) (by decide) (by omega)
  have a2:=Int.mul_le_mul q h2 (by omega) (by omega)
  omega
variable {n m:Nat}
theorem Xe (h:n<=m):(16:Int) ^ n<=16 ^ m:=by
 induction h with
 | refl=>exact Int.le_refl _
 | step h ih =>
  rename_i m
  have:=(KT (b:=16) (by decide) (by decide) m).1
  rw [Int.pow_succ];omega
theorem pw6 (h1:2<=b) (h2:b<=16) (h3:t<=6):1<=b ^ t.toNat/\b ^ t.toNat<=16777216:=by
 have a:=KT h1 h2 t.toNat
 have b:=Xe (n:=t.toNat) (m:=6) (by omega)
 have c:(16:Int) ^ 6=16777216:=by decide
 omega
theorem zGr (h1:2<=b) (h2:b<=16) (h3:n<=60):1<=b ^ n/\b ^ n<=1766847064778384329583297500742918515827483896875618958121606201292619776:=by
 have a:=KT h1 h2 n
 have b:=Xe (n:=n) (m:=60) (by omega)
 have c:(16:Int) ^ 60=1766847064778384329583297500742918515827483896875618958121606201292619776:=by decide +kernel
 omega
def Zf (K:W.Frag):Sp:=fun vs H Q _=>∃ b t:Int,vs=[.int b,.int t]/\2<=b/\b<=16/\0<=t/\t<=60/\Q (.int (b ^ t.toNat)) H
variable {H:Hp} {Q:VK} {E:XK}
theorem Vq (h1:2<=b) (h2:b<=16) (h3:0<=t) (h4:t<=60) (q:Q (.int (b ^ t.toNat)) H):Zf K ([.int b,.int t]++[]) H Q E:=⟨b,t,rfl,h1,h2,h3,h4,q⟩
def yk (K:W.Frag):Sp:=fun vs H Q _=>∃ (a:Addr) (ns:List Int) (k:Int),vs=[.ref a,.int k]/\SqL K H a (ns.map V.int)/\0<=k /\ ∀ v:Int,Q (.int v) H
variable {k:Int}
theorem zDv {a:Addr} {ns:List Int} (h1:SqL K H a (ns.map V.int)) (h2:0<=k) (q : ∀ v:Int,Q (.int v) H):yk K ([.ref a,.int k]++[]) H Q E:=⟨a,ns,k,rfl,h1,h2,q⟩
def pkA (c t:Int):Int:=(c % 1000000007+314159265+104729*t) % 998244353*((c % 1000000007+314159265+104729*t) % 998244353) % 998244353
def pk (c t m:Int):Int:=if 1000000000000000000 < c/\0 < c / 2 ^ (20*t).toNat then c / 2 ^ (20*t).toNat % 1048576 % m else (pkA c t+271828183)*(pkA c t / 1024+48271+t) % 2147483629 / 128 % m
def y6 (K:W.Frag):Sp:=fun vs H Q _=>∃ c t m:Int,vs=[.int c,.int t,.int m]/\0<=t/\0 < m/\(0<=pk c t m->pk c t m < m->Q (.int (pk c t m)) H)
variable {c:Int}
theorem zDW {m:Int} (h1:0<=t) (h2:0 < m) (q:0<=pk c t m->pk c t m < m->Q (.int (pk c t m)) H):y6 K ([.int c,.int t,.int m]++[]) H Q E:=⟨c,t,m,rfl,h1,h2,q⟩
theorem zBO {m:Int} (h1:0<=t) (h2:0 < m) (q : ∀ v:Int,0<=v->v < m->Q (.int v) H):y6 K ([.int c,.int t,.int m]++[]) H Q E:=⟨c,t,m,rfl,h1,h2,q _⟩
def Qn (K:W.Frag):Sp:=fun vs H Q _=>∃ (n w:Int) (x:Str),vs=[.int n,.int w,.str x]/\yg x/\0<=n/\w<=40 /\ ∀ p H',zY H H'->H' p=some (.tup [.int (pA x n w),.int (pB x n w)])->Q (.ref p) H'
variable {x:Str}
theorem KH {n w:Int} (h1:yg x) (h2:0<=n) (h3:w<=40) (q : ∀ p H',zY H H'->H' p=some (.tup [.int (pA x n w),.int (pB x n w)])->Q (.ref p) H'):Qn K ([.int n,.int w,.str x]++[]) H Q E:=⟨n,w,x,rfl,h1,h2,h3,q⟩
def XR (K:W.Frag):Sp:=fun vs H Q _=>∃ (t:List Nat) (w:Int) (f:Nat) (x:Str),vs=[.str (T t),.int w,.str (T [f]),.str x]/\yg x/\t.length<=400/\w<=40 /\ ∀ H',zY H H'->Q (.str (T (pad t w f x))) H'
theorem zAD {t:List Nat} {w:Int} {f:Nat} (h1:yg x) (h2:t.length<=400) (h3:w<=40) (q : ∀ H',zY H H'->Q (.str (T (pad t w f x))) H'):XR K ([.str (T t),.int w,.str (T [f]),.str x]++[]) H Q E:=⟨t,w,f,x,rfl,h1,h2,h3,q⟩
local macro_rules | `(tactic| walk_at "rdc")=>`(tactic| ((with_reducible refine' zBO ?h1 ?h2 ?_);(case h1|h2=>omega);intro v' h0' h1'))
local macro_rules | `(tactic| walk_at "rdc")=>`(tactic| ((with_reducible refine' zDv ?h1 ?h2 ?_);(case h1=>walk_at "sq");(case h2=>omega);intro v'))
local macro_rules | `(tactic| walk_at "rdc")=>`(tactic| ((with_reducible refine' KH ?h1 ?h2 ?h3 ?_);(case h1=>first | assumption | exact .inl rfl | exact .inr (.inl rfl) | exact .inr (.inr rfl));(case h2|h3=>omega);intro p' H' g' e'))
local macro_rules | `(tactic| walk_at "rdc")=>`(tactic| ((with_reducible refine' zAD ?h1 ?h2 ?h3 ?_);(case h1=>first | assumption | exact .inl rfl | exact .inr (.inl rfl) | exact .inr (.inr rfl));(case h2=>walk_at "tl");(case h3=>omega);intro H' g'))
theorem zDO {c:Nat} (h:c < 127) (q:Q (.int (fv c)) H):WB (.str "0123456789abcdef") [.str (T [c])] H Q:=WF (by rw [zCE h];exact q)
variable {i:Int}
theorem zGx (h0:0<=i) (h1:i < 16) (q:Q (.str (T [fc i.toNat])) H):zBN (.str "0123456789abcdef") (.int i) H Q:=by
 have e:(Lt "0123456789abcdef").length=16:=by decide +kernel
 exact zAn (by omega) h0 (by omega) q
local macro_rules | `(tactic| walk_at "rdc")=>`(tactic| ((with_reducible refine' zDO ?h1 ?_);(case h1=>first | omega | assumption)))
local macro_rules | `(tactic| walk_at "rdc")=>`(tactic| ((with_reducible refine' zGx ?h1 ?h2 ?_);(case h1|h2=>omega)))
abbrev Ce:=List (List Nat)
inductive Al {α:Type} (R:V->α->Prop):List V->List α->Prop
 | nil:Al R [] []
 | cons {v:V} {a:α} {vs:List V} {as:List α} (h:R v a) (t:Al R vs as):Al R (v::vs) (a::as)
section
variable {α : Type} {R R' : V -> α -> Prop}
variable {vs:List V} {as:List α}
theorem Al.len (h:Al R vs as):vs.length=as.length:=by
 induction h with
 | nil=>rfl
 | cons _ _ ih=>rw [length_cons,length_cons,ih]
theorem Al.imp (h:Al R vs as) (f : ∀ v a,R v a->R' v a):Al R' vs as:=by
 induction h with
 | nil=>exact .nil
 | cons h _ ih=>exact .cons (f _ _ h) ih
theorem Al.app {us:List V} {bs:List α} (h:Al R vs as) (k:Al R us bs):Al R (vs++us) (as++bs):=by
 induction h with
 | nil=>exact k
 | cons h _ ih=>exact .cons h ih
theorem Al.one {v:V} {a:α} (h:R v a):Al R [v] [a]:=.cons h .nil
theorem Al.get (h:Al R vs as) : ∀ {i:Nat} {v:V},vs[i]? = some v -> ∃ a,as[i]? = some a/\R v a:=by
 induction h with
 | nil=>intro i v e;simp at e
 | cons h _ ih =>
  intro i v e
  cases i with
  | zero=>cases e;exact ⟨_,rfl,h⟩
  | succ i=>exact ih e
theorem Al.filter {p:α->Bool} (h:Al R vs as) : ∃ us,Al R us (as.filter p):=by
 induction h with
 | nil=>exact ⟨[],.nil⟩
 | @cons v a vs as h _ ih =>
  obtain ⟨us,k⟩:=ih
  rw [filter_cons]
  cases p a with
  | false=>exact ⟨us,k⟩
  | true=>exact ⟨v::us,.cons h k⟩
end
variable {H':Hp}
theorem none_of {a:Addr} (g:zY H H') (n:H' a=none):H a=none:=by
 cases hl:H a with
 | none=>rfl
 | some u=>rw [g.at hl] at n;cases n
theorem zd (l:Ce):(tsV l).length=l.length:=length_map _
theorem jJ (a b:List (List Nat)):tsV a++tsV b=tsV (a++b):=by unfold tsV;rw [map_append]
variable {v:V}
theorem yP {l:Ce} {i:Nat} (h:(tsV l)[i]? = some v) : ∃ c,l[i]? = some c/\v = .str (T c):=by
 unfold tsV at h
 rw [getElem?_map] at h
 cases hc:l[i]? with
 | none=>rw [hc] at h;cases h
 | some c=>rw [hc] at h;cases h;exact ⟨c,rfl,rfl⟩
def RL (H:Hp) (P:Addr->Prop) (v:V) (cs:Ce):Prop:=∃ q,v = .ref q/\P q/\H q=some (.lst (tsV cs))
def kF (K:W.Frag):Sp:=fun vs H Q _=>∃ (a:List Nat) (z g:Int),vs=[.str (T a),.int z,.int g]/\0 < z/\z<=9/\0<=g/\g<=1/\a.length<=400 /\ ∀ p H',zY H H'->H' p=some (.lst ((pcs a z.toNat g.toNat a.length).map fun l=>V.str (T l)))->Q (.ref p) H'
theorem VX {a:List Nat} (h1:0 < z) (h2:z<=9) (h3:0<=g) (h4:g<=1) (h5:a.length<=400) (q : ∀ p H',zY H H'->H' p=some (.lst ((pcs a z.toNat g.toNat a.length).map fun l=>V.str (T l)))->Q (.ref p) H'):kF K ([.str (T a),.int z,.int g]++[]) H Q E:=⟨a,z,g,rfl,h1,h2,h3,h4,h5,q⟩
local macro_rules | `(tactic| walk_at "rdc")=>`(tactic| ((with_reducible refine' VX ?h1 ?h2 ?h3 ?h4 ?h5 ?_);(case h1|h2|h3|h4|h5=>omega);intro p' H' g' e'))
def Qu (K:W.Frag):Sp:=fun vs H Q _=>∃ (a:List Nat) (z:Int) (m:Nat),vs=[.str (T a),.int z,.str (T [m])]/\0<=z/\z<=9/\a.length<=400 /\ ∀ H',zY H H'->Q (.str (T (gr z.toNat m a))) H'
theorem Kb {a:List Nat} (h1:0<=z) (h2:z<=9) (h5:a.length<=400) (q : ∀ H',zY H H'->Q (.str (T (gr z.toNat m a))) H'):Qu K ([.str (T a),.int z,.str (T [m])]++[]) H Q E:=⟨a,z,m,rfl,h1,h2,h5,q⟩
local macro_rules | `(tactic| walk_at "rdc")=>`(tactic| ((with_reducible refine' Kb ?h1 ?h2 ?h5 ?_);(case h1|h2|h5=>omega);intro H' g'))
def zHS (n b p:Int):Prop:=0<=n/\2<=b/\b<=16/\0<=p/\p<=6/\n.toNat < b.toNat ^ (40+p.toNat)
def bdI (n b p:Int) (pt:Nat) (z:Int) (m:Nat):List Nat:=bdy b.toNat p.toNat pt z.toNat m n.toNat
def QM (K:W.Frag):Sp:=fun vs H Q _=>∃ (x:Str) (b:Bool),vs=[.str x,.bl b]/\yd x /\ ∀ p,SqT K H p [.str (T (stL x b)),.str (T (stT x b))]->Q (.ref p) H
theorem Kg {b:Bool} (h:yd x) (q : ∀ p,SqT K H p [.str (T (stL x b)),.str (T (stT x b))]->Q (.ref p) H):QM K ([.str x,.bl b]++[]) H Q E:=⟨x,b,rfl,h,q⟩
local macro_rules | `(tactic| walk_at "rdc")=>`(tactic| ((with_reducible refine' Kg ?h ?_);(case h=>assumption);intro p' e'))
def sg (x:Str) (b:Bool) (l:List Nat):List Nat:=stL x b++l++stT x b
theorem zEg (h:yd x) (b:Bool) (l:List Nat):l.length<=(sg x b l).length/\(sg x b l).length<=l.length+2:=by
 have:=Qj h b
 unfold sg;simp only [length_append];omega
def Jn (K:W.Frag):Sp:=fun vs H Q _=>∃ (l:List Nat) (x:Str) (b:Bool),vs=[.str (T l),.str x,.bl b]/\yd x/\l.length<=1000/\Q (.str (T (sg x b l))) H
theorem zAA {l:List Nat} {b:Bool} (h:yd x) (h2:l.length<=1000) (q:Q (.str (T (sg x b l))) H):Jn K ([.str (T l),.str x,.bl b]++[]) H Q E:=⟨l,x,b,rfl,h,h2,q⟩
local macro_rules | `(tactic| walk_at "rdc")=>`(tactic| ((with_reducible refine' zAA ?h ?h2 ?_);(case h=>assumption);(case h2=>omega)))
def qg (K:W.Frag):Sp:=fun vs H Q _=>∃ l:List Nat,vs=[.str (T l)]/\Asc l/\l.length<=1000/\(Fg l->Q (.bl true) H)/\(¬ Fg l->Q (.bl false) H)
theorem zBH {l:List Nat} (h1:Asc l) (h2:l.length<=1000) (q1:Fg l->Q (.bl true) H) (q2 : ¬ Fg l->Q (.bl false) H):qg K ([.str (T l)]++[]) H Q E:=⟨l,rfl,h1,h2,q1,q2⟩
local macro_rules | `(tactic| walk_at "rdc")=>`(tactic| ((with_reducible refine' zBH ?h1 ?h2 (fun fg'=>?_) (fun fg'=>?_));(case h1=>assumption);(case h2=>omega)))
def YK (K:W.Frag):Sp:=fun vs H Q E=>∃ (t:List Nat) (x:Str),vs=[.str (T t),.str x]/\yd x/\Asc t/\t.length<=1000/\(∀ b,Sgd x b t -> ∀ p H',zY H H'->H' p=some (.tup [.bl b,.str (T (bod x b t))])->Q (.ref p) H')/\((¬ Sgd x false t)->(¬ Sgd x true t) -> ∀ C H',Nm K "NoCore" C->zY H H'->E (.ref C) none H')
def Xa (K:W.Frag):Sp:=fun vs H Q E=>∃ (t:List Nat) (z:Int) (m:Nat),vs=[.str (T t),.int z,.str (T [m])]/\0<=z/\z<=9/\t.length<=400/\(GG z.toNat m t -> ∀ H',zY H H'->Q (.str (T (ug z.toNat t))) H')/\(¬ GG z.toNat m t -> ∀ C H',Nm K "NoGroups" C->zY H H'->E (.ref C) none H')
def Jc (K:W.Frag):Sp:=fun vs H Q E=>∃ (l:List Nat) (b:Int),vs=[.str (T l),.int b]/\Asc l/\1<=l.length/\l.length<=240/\2<=b/\b<=16/\(jy b l->Q (.int (val b l)) H)/\(¬ jy b l -> ∀ C,Nm K "NoFigures" C->E (.ref C) none H)
def Jh (K:W.Frag):Sp:=fun vs H Q E=>∃ (t:List Nat) (p:Int) (pt:Nat),vs=[.str (T t),.int p,.str (T [pt])]/\0<=p/\p<=6/\t.length<=400/\(WE p.toNat pt t->Q (.int (qx p.toNat t).length) H)/\(¬ WE p.toNat pt t -> ∀ C,Nm K "NoBody" C->E (.ref C) none H)
def J7 (K:W.Frag):Sp:=fun vs H Q E=>∃ (t:List Nat) (b p z:Int) (pt m:Nat),vs=[.str (T t),.int b,.int p,.str (T [pt]),.int z,.str (T [m])]/\2<=b/\b<=16/\0<=p/\p<=6/\0<=z/\z<=9/\t.length<=400/\Asc t/\(IsB b p.toNat pt z.toNat m t -> ∀ H',zY H H'->Q (.int (VY b p.toNat z.toNat t)) H')/\(¬ IsB b p.toNat pt z.toNat m t -> ∀ C H',Nm K "NoBody" C->zY H H'->E (.ref C) none H')
def Zq (K:W.Frag):Sp:=fun vs H Q _=>∃ i:Int,vs=[.int i]/\Q (.bl true) H
theorem Vx (q:Q (.bl true) H):Zq K ([.int i]++[]) H Q E:=⟨i,rfl,q⟩
local macro_rules | `(tactic| walk_at "rdc")=>`(tactic| (with_reducible refine Vx ?_))
def xV (K:W.Frag):Sp:=fun vs H Q _=>∃ a b:Int,vs=[.int a,.int b]/\Q (.int (Int.gcd a b)) H
theorem ZA (q:Q (.int (Int.gcd a b)) H):xV K ([.int a,.int b]++[]) H Q E:=⟨a,b,rfl,q⟩
local macro_rules | `(tactic| walk_at "rdc")=>`(tactic| (with_reducible refine ZA ?_))
def XY (x:Str):Prop:=yg x\/x = "inside"
structure QF (fg pl b:Int) (sn:Str) (z:Int) (m pt:Nat) (wy:Str) (wd:Int) (f:Nat) (x:Str):Prop where
 fg1:1<=fg
 fg2:fg<=12
 pl1:0<=pl
 pl2:pl<=6
 b1:2<=b
 b2:b<=16
 sn:yd sn
 z1:0<=z
 z2:z<=9
 m:m < 127
 pt:pt < 127
 wy:Way wy
 wd1:0<=wd
 wd2:wd<=40
 f:f < 127
 x:XY x
def jK (fg pl b:Int) (sn:Str) (z:Int) (m pt:Nat) (wy:Str):List (Str × V):=[("figures", .int fg),("places", .int pl),("base", .int b),("sign", .str sn),("size", .int z),("mark", .str (T [m])),("point", .str (T [pt])),("way", .str wy)]
def nns:List Str:=["figures", "places", "base", "sign", "size", "mark", "point", "way"]
section
variable {H : Hp} {a C : Addr} {wd : Int} {f : Nat} {x : Str} {st : Bool} {fg pl b : Int} {sn : Str} {z : Int} {m pt : Nat} {wy : Str}
theorem zDe {g:Str} (h:g ∉ nns):(jK fg pl b sn z m pt wy).lookup g=none:=by
 simp only [nns,mem_cons,not_mem_nil,or_false,not_or] at h
 obtain ⟨h1,h2,h3,h4,h5,h6,h7,h8⟩:=h
 exact (qF h1).trans ((qF h2).trans ((qF h3).trans ((qF h4).trans ((qF h5).trans ((qF h6).trans ((qF h7).trans ((qF h8).trans rfl)))))))
theorem Zy {g:Str} (F:zX K H a C wd f x st (jK fg pl b sn z m pt wy)) (h:g ∉ bns) (l:(jK fg pl b sn z m pt wy).lookup g=some v) (n:g ∈ nns):jv K H a g v:=F.own h l n
theorem Vf (F:zX K H a C wd f x st (jK fg pl b sn z m pt wy)):jv K H a "figures" (.int fg):=Zy F (by decide +kernel) yr (by decide +kernel)
theorem KJ (F:zX K H a C wd f x st (jK fg pl b sn z m pt wy)):jv K H a "places" (.int pl):=Zy F (by decide +kernel) ((qF (by decide +kernel)).trans yr) (by decide +kernel)
theorem zCH (F:zX K H a C wd f x st (jK fg pl b sn z m pt wy)):jv K H a "base" (.int b):=Zy F (by decide +kernel) ((qF (by decide +kernel)).trans ((qF (by decide +kernel)).trans yr)) (by decide +kernel)
theorem zCj (F:zX K H a C wd f x st (jK fg pl b sn z m pt wy)):jv K H a "sign" (.str sn):=Zy F (by decide +kernel) ((qF (by decide +kernel)).trans ((qF (by decide +kernel)).trans ((qF (by decide +kernel)).trans yr))) (by decide +kernel)
theorem zCn (F:zX K H a C wd f x st (jK fg pl b sn z m pt wy)):jv K H a "size" (.int z):=Zy F (by decide +kernel) ((qF (by decide +kernel)).trans ((qF (by decide +kernel)).trans ((qF (by decide +kernel)).trans ((qF (by decide +kernel)).trans yr)))) (by decide +kernel)
theorem zDR (F:zX K H a C wd f x st (jK fg pl b sn z m pt wy)):jv K H a "mark" (.str (T [m])):=Zy F (by decide +kernel) ((qF (by decide +kernel)).trans ((qF (by decide +kernel)).trans ((qF (by decide +kernel)).trans ((qF (by decide +kernel)).trans ((qF (by decide +kernel)).trans yr))))) (by decide +kernel)
theorem zAM (F:zX K H a C wd f x st (jK fg pl b sn z m pt wy)):jv K H a "point" (.str (T [pt])):=Zy F (by decide +kernel) ((qF (by decide +kernel)).trans ((qF (by decide +kernel)).trans ((qF (by decide +kernel)).trans ((qF (by decide +kernel)).trans ((qF (by decide +kernel)).trans ((qF (by decide +kernel)).trans yr)))))) (by decide +kernel)
theorem Ke {g:Str} (F:zX K H a C wd f x st (jK fg pl b sn z m pt wy)) (h0:g ∉ bns) (h1:g ∉ nns):zBc H a C g:=F.meth h0 (zDe h1)
end
local macro_rules | `(tactic| walk_at "fld2")=>`(tactic| first | (exact Vf (by walk_at "fm")) | (exact KJ (by walk_at "fm")) | (exact zCH (by walk_at "fm")) | (exact zCj (by walk_at "fm")) | (exact zCn (by walk_at "fm")) | (exact zDR (by walk_at "fm")) | (exact zAM (by walk_at "fm")) | (exact nf_way (by walk_at "fm")))
local macro_rules | `(tactic| walk_at "ins")=>`(tactic| exact Ke (by walk_at "fm") (by decide +kernel) (by decide +kernel))
def qW (K:W.Frag) (C:Addr):Sp:=fun vs H Q _=>∃ (a:Addr) (fg pl b:Int) (sn:Str) (z:Int) (m pt:Nat) (wy:Str) (wd:Int) (f:Nat) (x:Str) (st:Bool) (n:Int),vs=[.ref a,.int n]/\zX K H a C wd f x st (jK fg pl b sn z m pt wy)/\QF fg pl b sn z m pt wy wd f x/\Q (.bl (decide (b ^ (fg+pl).toNat<=n))) H
variable {C:Addr} {fg pl wd:Int} {sn wy:Str} {st:Bool}
theorem YE {a:Addr} {pt:Nat} {f:Nat} {n:Int} (h1:zX K H a C wd f x st (jK fg pl b sn z m pt wy)) (h2:QF fg pl b sn z m pt wy wd f x) (q:Q (.bl (decide (b ^ (fg+pl).toNat<=n))) H):qW K C (.ref a::([.int n]++[])) H Q E:=⟨a,fg,pl,b,sn,z,m,pt,wy,wd,f,x,st,n,rfl,h1,h2,q⟩
local macro_rules | `(tactic| walk_at "rdc")=>`(tactic| ((with_reducible refine' YE ?h1 ?h2 ?_);(case h1=>walk_at "fm");(case h2=>assumption)))
def x5 (pl b:Int) (sn:Str) (z:Int) (m pt:Nat) (k:Int):List Nat:=sg sn (decide (k < 0)) (bdI k.natAbs b pl pt z m)
def Xi (fg pl b:Int) (k:Int):Prop:=k.natAbs < b.toNat ^ (fg+pl).toNat
def Isw (sg:List Nat) (lo hi:Int) (t:List Nat):Prop:=(lo<=t.length/\(t.length:Int)<=hi) /\ ∀ c ∈ t,c ∈ sg
instance (sg:List Nat) (lo hi:Int) (t:List Nat):Decidable (Isw sg lo hi t):=by unfold Isw;infer_instance
inductive Fd where
 | num (fg pl b:Int) (sn:Str) (z:Int) (m pt:Nat) (wy:Str)
 | word (sg:List Nat) (lo hi:Int)
 | cho (ns:Ce)
def jU (K:W.Frag):Sp:=fun vs H Q _=>∃ (a C:Addr) (wd:Int) (f:Nat) (x:Str) (st:Bool) (more:List (Str × V)) (t:List Nat),vs=[.ref a,.str (T t)]/\zX K H a C wd f x st more/\t.length<=400/\Q (.bl (st && decide (wd < t.length))) H
theorem Y6 {a:Addr} {f:Nat} {more:List (Str × V)} {t:List Nat} (h1:zX K H a C wd f x st more) (h2:t.length<=400) (q:Q (.bl (st && decide (wd < t.length))) H):jU K (.ref a::([.str (T t)]++[])) H Q E:=⟨a,C,wd,f,x,st,more,t,rfl,h1,h2,q⟩
local macro_rules | `(tactic| walk_at "rdc")=>`(tactic| ((with_reducible refine' Y6 ?h1 ?h2 ?_);(case h1=>walk_at "fm");(case h2=>omega)))
def yt (sg:List Nat) (lo hi:Int):List (Str × V):=[("signs", .str (T sg)),("least", .int lo),("most", .int hi)]
variable {lo hi:Int}
theorem zDF {sg:List Nat} {m:Str} (h1:m ≠ "signs") (h2:m ≠ "least") (h3:m ≠ "most"):(yt sg lo hi).lookup m=none:=(qF h1).trans ((qF h2).trans ((qF h3).trans rfl))
section
variable {H : Hp} {a C : Addr} {wd : Int} {f : Nat} {x : Str} {st : Bool} {sg : List Nat} {lo hi : Int}
theorem zAO (F:zX K H a C wd f x st (yt sg lo hi)):jv K H a "signs" (.str (T sg)):=F.own (by decide +kernel) yr (mem_cons_self ..)
theorem zA8 (F:zX K H a C wd f x st (yt sg lo hi)):jv K H a "least" (.int lo):=F.own (by decide +kernel) ((qF (by decide +kernel)).trans yr) (mem_cons_of_mem _ (mem_cons_self ..))
theorem zDN (F:zX K H a C wd f x st (yt sg lo hi)):jv K H a "most" (.int hi):=F.own (by decide +kernel) ((qF (by decide +kernel)).trans ((qF (by decide +kernel)).trans yr)) (mem_cons_of_mem _ (mem_cons_of_mem _ (mem_cons_self ..)))
theorem K0 {m:Str} (F:zX K H a C wd f x st (yt sg lo hi)) (h0:m ∉ bns) (h1:m ≠ "signs") (h2:m ≠ "least") (h3:m ≠ "most"):zBc H a C m:=F.meth h0 (zDF h1 h2 h3)
end
local macro_rules | `(tactic| walk_at "fld2")=>`(tactic| first | (exact zAO (by walk_at "fm")) | (exact zA8 (by walk_at "fm")) | (exact zDN (by walk_at "fm")))
local macro_rules | `(tactic| walk_at "ins")=>`(tactic| exact K0 (by walk_at "fm") (by decide +kernel) (by decide +kernel) (by decide +kernel) (by decide +kernel))
include Z in
theorem je:Has P w K mg base "_law_cell_at" 1 ["_law_script", "_law_k"] (yk K):=by
 refine xF Z.kn Z.f0 (l2N (by intros;rfl)) fun fq fd F=>?_
 refine F.ok QJ (fun vs H Q E=>?_) (fun _ _ _ s H vs Q E hr h=>?_)
 ·walk_at "ln"
 obtain ⟨a,ns,k,rfl,hS,hk,q⟩:=h
 refine ⟨_,zC (qD (zS XM (pv 1) (zI Zj Z.ak rfl qJ (zA (pv 0) (zD))) (zU _)) (zF (zP (zR zk (pv 0) (pv 1) (fun _ _=>rfl)))) (zZ))
  (zF (zP (zB))),?_⟩
 walk_at "st"
 walk_at "rd"
 ·rename_i hc
  rw [length_map] at hc
  exact wA hS hk (by rw [length_map];omega) fun x hx=>by
   obtain ⟨v,_,rfl⟩:=List.mem_map.mp (mem_of_getElem? hx)
   exact q v
 ·exact q 0
include Z in
theorem zJ:Has P w K mg base "_law_pick" 1 ["_law_cell", "_law_salt", "_law_many"] (y6 K):=by
 refine xF Z.kn Z.f1 (l3N (by intros;rfl)) fun fq fd F=>?_
 refine F.ok xa (fun vs H Q E=>?_) (fun _ _ _ s H vs Q E hr h=>?_)
 ·walk_at "ln"
 obtain ⟨c,t,m,rfl,ht,hm,q⟩:=h
 refine ⟨_,zC (qD (PW.pt (Zo (zS ko (pv 0) (zCC (k:=1000000000000000000) (by unfold zGl;decide) (by decide +kernel)) (zU _)) (yp (zS ko (zO WM (pv 0) (zO jl (zB) (pv 1))) (zB) (zU _))))) (zF (zP (zO jC (zO jC (zO WM (pv 0) (zO jl (zB) (pv 1))) (zB)) (pv 2)))) (zZ))
  (zC (zK (i:=3) xa.nd rfl (Or.inl rfl) (zO jC (zO zv (zO zv (zO jC (pv 0) (zB)) (zB)) (zO jl (zB) (pv 1))) (zB)))
  (zC (zK (i:=3) xa.nd rfl (Or.inl rfl) (zO jC (zO jl (pv 3) (pv 3)) (zB)))
  (zC (zK (i:=4) xa.nd rfl (Or.inl rfl) (zO jC (zO jl (zO zv (pv 3) (zB)) (zO zv (zO zv (zO qj (pv 3) (zB)) (zB)) (pv 1))) (zB)))
  (zF (zP (zO jC (zO qj (pv 4) (zB)) (pv 2))))))),?_⟩
 walk_at "st"
 have n0 : ∀ a:Int,0<=a % m/\a % m < m:=fun a=>⟨emod_nonneg _ (by omega),emod_lt_of_pos _ hm⟩
 unfold pk pkA at q
 walk_at "rd"
 ·rename_i c1 c2
  rw [if_pos ⟨c1,c2⟩] at q
  exact q (n0 _).1 (n0 _).2
 ·rename_i c1 c2
  rw [if_neg (fun y=>c2 y.2)] at q
  exact q (n0 _).1 (n0 _).2
 ·rename_i c1
  rw [if_neg (fun y=>c1 y.1)] at q
  exact q (n0 _).1 (n0 _).2
include Z in
theorem J3:Has P w K mg base "pads_of" 1 ["length", "width", "side"] (Qn K):=by
 refine xF Z.kn Z.f2 (l3N (by intros;rfl)) fun fq fd F=>?_
 refine F.ok QN (fun vs H Q E=>?_) (fun _ _ _ s H vs Q E hr h=>?_)
 ·walk_at "ln"
 obtain ⟨n,w,x,rfl,hs,h0,hw,q⟩:=h
 refine ⟨_,zC (zK (i:=3) QN.nd rfl (Or.inl rfl) (zI (yY rfl) Z.ao rfl YN (zA (zB) (zA (zO jF (pv 1) (pv 0)) (zD)))))
  (zC (qD (zS qw (pv 2) (zb) (zU _)) (zF (zP (qd (zA (zB) (zA (pv 3) (zD)))))) (zZ))
  (zC (qD (zS qw (pv 2) (zb) (zU _)) (zF (zP (qd (zA (pv 3) (zA (zB) (zD)))))) (zZ))
  (zF (zP (qd (zA (zO qj (pv 3) (zB)) (zA (zO jF (pv 3) (zO qj (pv 3) (zB))) (zD)))))))),?_⟩
 walk_at "st"
 have b:=wZ n w h0 hw
 have e:pB x n w=lk n w - pA x n w:=rfl
 rcases hs with rfl | rfl | rfl
 ·rw [pAl] at q e
  walk_at "rd"
  rename_i k hk p' H' g' e'
  exact q _ _ g' (by rw [e',show k=pB "left" n w by omega])
 ·rw [pAr] at q e
  walk_at "rd"
  rename_i k hk p' H' g' e'
  exact q _ _ g' (by rw [e',show k=lk n w by omega,show pB "right" n w=0 by omega])
 ·rw [pAm] at q e
  walk_at "rd"
  rename_i k hk p' H' g' e'
  exact q _ _ g' (by rw [e',e,show k=lk n w by omega])
include Z in
theorem zAB:Has P w K mg base "padded" 2 ["text", "width", "fill", "side"] (XR K):=by
 refine xF Z.kn Z.f3 (l4N (by intros;rfl)) fun fq fd F=>?_
 refine F.ok Jf (fun vs H Q E=>?_) (fun _ _ _ s H vs Q E hr h=>?_)
 ·walk_at "ln"
 obtain ⟨t,w,f,x,rfl,hs,h0,hw,q⟩:=h
 refine ⟨_,zC (zK (i:=4) Jf.nd rfl (Or.inl rfl) (zG (J3 Z) hr rfl (zA (zI zc Z.ak rfl qJ (zA (pv 0) (zD))) (zA (pv 1) (zA (pv 3) (zD))))))
  (zF (zP (zO zp (zO zp (zO kg (pv 2) (zR zV (pv 4) (zB) (fun _ _=>rfl))) (pv 0)) (zO kg (pv 2) (zR zV (pv 4) (zB) (fun _ _=>rfl)))))),?_⟩
 walk_at "st"
 have b:=xI (n:=t.length) hs (by omega) hw
 have b':=b
 obtain ⟨b1,b2,b3,_⟩:=b'
 have bl:=wZ t.length w (by omega) hw
 walk_at "rd"
 exact q _ (by assumption)
local macro_rules | `(tactic| walk_at "rdc")=>`(tactic| ((with_reducible refine' Vq ?h1 ?h2 ?h3 ?h4 ?_);(case h1|h2|h3|h4=>omega)))
include Z in
theorem QT:Has P w K mg base "power_of" 1 ["base", "times"] (Zf K):=by
 refine xF Z.kn Z.f4 (l2N (by intros;rfl)) fun fq fd F=>?_
 refine F.ok xk (fun vs H Q E=>?_) (fun _ _ _ s H vs Q E hr h=>?_)
 ·walk_at "ln"
 obtain ⟨b,t,rfl,h1,h2,h3,h4,q⟩:=h
 refine ⟨_,zC (zK (i:=2) xk.nd rfl (Or.inl rfl) (zB))
  (zC (yN PassesOwn.never rfl (xU rfl Z.al (zA (pv 1) (zD))) (zf (i:=3) xk.nd rfl (Or.inl rfl)) (zF (zK (i:=2) xk.nd rfl (Or.inl rfl) (zO jl (pv 2) (pv 0)))))
  (zF (zP (pv 2)))),?_⟩
 walk_at "st"
 walk_at "rd"
 refine Zz (by omega) (by omega) (fun i σ H'=>H'=H /\ ∃ r,σ=[some (.int b),some (.int t),some (.int (b ^ i)),r]) ⟨rfl,none,by rw [Int.pow_zero];rfl⟩ ?_ ?_
 ·rintro i σ H' hi ⟨rfl,r,rfl⟩
  have z:=zGr (n:=i) h1 h2 (by omega)
  walk_at "rd"
  exact ⟨rfl,some (.int (0+i)),by rw [Int.pow_succ];rfl⟩
 ·rintro σ H' ⟨rfl,r,rfl⟩
  walk_at "rd"
  exact q
include Z in
theorem wL:Has P w K mg base "parts_of" 1 ["text", "size", "between"] (kF K):=by
 refine xF Z.kn Z.f5 (l3N (by intros;rfl)) fun fq fd F=>?_
 refine F.ok xj (fun vs H Q E=>?_) (fun _ _ _ s H vs Q E hr h=>?_)
 ·walk_at "ln"
 obtain ⟨a,z,g,rfl,h1,h2,h3,h4,h5,q⟩:=h
 refine ⟨_,zC (zK (i:=3) xj.nd rfl (Or.inl rfl) (zr (zD)))
  (zC (zK (i:=4) xj.nd rfl (Or.inl rfl) (zI zc Z.ak rfl qJ (zA (pv 0) (zD))))
  (zC (ZK PassesOwn.never (zS ko (pv 4) (zB) (zU _)) (zC (xE (ki PySem.F.plainAttrs_list PySem.F.slot_list_append PySem.F.type_list_append yI (pv 3) (zA (zi jH (pv 0) (ze (zI (yY rfl) Z.ao rfl YN (zA (zB) (zA (zO jF (pv 4) (pv 1)) (zD))))) (ze (pv 4))) (zD))))
  (zF (zK (i:=4) xj.nd rfl (Or.inl rfl) (zO jF (zO jF (pv 4) (pv 1)) (pv 2))))))
  (zC (xE (zDx PySem.F.plainAttrs_list PySem.F.slot_list_reverse PySem.F.type_list_reverse VE (pv 3)))
  (zF (zP (pv 3)))))),?_⟩
 walk_at "st"
 refine zEq (zEc (zEA (zEm (zCd (by decide) fun l hl=>?_))))
 walk_at "rd"
 refine JY (fun k σ H'=>∃ (e:Int) (ps:List (List Nat)),σ=[some (.str (T a)),some (.int z),some (.int g),some (.ref l),some (.int e)]/\H'=upd H l (.lst (ps.map fun l=>V.str (T l)))/\k=e.toNat/\ps.length+e.toNat<=a.length/\e<=a.length/\pcs a z.toNat g.toNat a.length=pcs a z.toNat g.toNat e.toNat++ps.reverse) ⟨_,a.length,[],rfl,rfl,rfl,by simp,Int.le_refl _,by simp⟩ ?_
 rintro k σ H' ⟨e,ps,rfl,rfl,rfl,b1,b2,ep⟩
 walk_at "rd"
 ·rename_i hc k' hk'
  refine JW zQ (qV (by rw [length_map];omega)) ?_
  rw [qX]
  walk_at "rd"
  refine ⟨(e - z - g).toNat,by omega,e - z - g,ps++[(a.take e.toNat).drop k'.toNat],rfl,by rw [map_append];rfl,rfl,by rw [length_append,length_singleton];omega,by omega,?_⟩
  rw [ep,Zv (by omega) (by omega),List.reverse_append,tns (by omega),tns (by omega),show k'.toNat=e.toNat - z.toNat by rw [<- tns (by omega)];omega]
  simp
 ·rename_i hc
  refine Wu zQ ?_
  rw [qX]
  walk_at "rd"
  refine q _ _ (qK (zY.refl _) hl) ?_
  rw [zQ,ep,show e.toNat=0 by omega,j0,List.nil_append,List.map_reverse]
include Z in
theorem Wa:Has P w K mg base "grouped" 2 ["text", "size", "mark"] (Qu K):=by
 refine xF Z.kn Z.f6 (l3N (by intros;rfl)) fun fq fd F=>?_
 refine F.ok VD (fun vs H Q E=>?_) (fun _ _ _ s H vs Q E hr h=>?_)
 ·walk_at "ln"
 obtain ⟨a,z,m,rfl,h1,h2,h5,q⟩:=h
 refine ⟨_,zC (qD (zS qw (pv 1) (zB) (zU _)) (zF (zP (pv 0))) (zZ))
  (zF (zP (ki PySem.F.plainAttrs_str PySem.F.slot_str_join PySem.F.type_str_join JK (pv 2) (zA (zG (wL Z) hr rfl (zA (pv 0) (zA (pv 1) (zA (zB) (zD))))) (zD))))),?_⟩
 walk_at "st"
 have bd:=fun hz:0 < z.toNat=>Yt (a:=a) (g:=0) hz a.length a.length (Nat.le_refl _)
 walk_at "rd"
 ·rename_i hc
  subst hc
  have q':=q _ (zY.refl _)
  rw [show Int.toNat 0=0 from rfl,k9] at q'
  exact q'
 ·rename_i hc p' H' g' e'
  have b:=bd (by omega)
  refine X6 e' (by rw [QG,length_singleton,show Int.toNat 0=0 from rfl];omega) ?_
  rw [QG,show Int.toNat 0=0 from rfl,zGo (by omega)]
  exact q _ g'
include Z in
theorem Ze:Has P w K mg base "ends_of" 1 ["style", "below"] (QM K):=by
 have sty:Sty w K jf:=Z.aD
 refine xF Z.kn Z.f7 (l2N (by intros;rfl)) fun fq fd F=>?_
 refine F.ok Vo (fun vs H Q E=>?_) (fun _ _ _ s H vs Q E hr h=>?_)
 ·walk_at "ln"
 obtain ⟨x,b,rfl,hx,q⟩:=h
 refine ⟨_,zC (qD (xQ (pv 1)) (zF (zP (zR zV (zR zEL (y7 rfl Z.az (v:=.ref jf) rfl) (pv 0) (fun _ _=>rfl)) (zB) (fun _ _=>rfl)))) (zZ))
  (zF (zP (zR zV (zR zEL (y7 rfl Z.az (v:=.ref jf) rfl) (pv 0) (fun _ _=>rfl)) (zB) (fun _ _=>rfl)))),?_⟩
 walk_at "st"
 obtain ⟨p,a,c,kd,sq⟩:=sty x hx
 cases b with
 | true =>
  walk_at "rd"
  refine zEv kd ?_
  walk_at "rd"
  exact zDX (sq H).1 rfl (q _ (sq H).2.2)
 | false =>
  walk_at "rd"
  refine zEv kd ?_
  walk_at "rd"
  exact zDX (sq H).1 rfl (q _ (sq H).2.1)
include Z in
theorem zAx:Has P w K mg base "signed" 2 ["body", "style", "below"] (Jn K):=by
 refine xF Z.kn Z.f8 (l3N (by intros;rfl)) fun fq fd F=>?_
 refine F.ok XD (fun vs H Q E=>?_) (fun _ _ _ s H vs Q E hr h=>?_)
 ·walk_at "ln"
 obtain ⟨l,x,b,rfl,hx,hl,q⟩:=h
 refine ⟨_,zC (zK (i:=3) XD.nd rfl (Or.inl rfl) (zG (Ze Z) hr rfl (zA (pv 1) (zA (pv 2) (zD)))))
  (zF (zP (zO zp (zO zp (zR zV (pv 3) (zB) (fun _ _=>rfl)) (pv 0)) (zR zV (pv 3) (zB) (fun _ _=>rfl))))),?_⟩
 walk_at "st"
 have ln:=Qj hx b
 walk_at "rd"
 exact q
include Z in
theorem xO:Has P w K mg base "stands_between_figures" 1 ["body"] (qg K):=by
 refine xF Z.kn Z.f9 (l1N (by intros;rfl)) fun fq fd F=>?_
 refine F.ok xH (fun vs H Q E=>?_) (fun _ _ _ s H vs Q E hr h=>?_)
 ·walk_at "ln"
 obtain ⟨l,rfl,al,hl,q1,q2⟩:=h
 refine ⟨_,zF (zP (XH (jW Xk (pv 0) (qS (l:=[]) (by decide +kernel)) (zU _)) (XH (jW Ko (zR jo (pv 0) (zB) (fun _ _=>rfl)) (y7 rfl Z.aA (v:=.str "0123456789abcdef") ⟨_,rfl⟩) (by with_unfolding_all rfl)) (YQ (jW Ko (zR jo (pv 0) (wY xy (zB)) (fun _ _=>rfl)) (y7 rfl Z.aA (v:=.str "0123456789abcdef") ⟨_,rfl⟩) (by with_unfolding_all rfl)))))),?_⟩
 walk_at "st"
 unfold Fg at q1 q2
 rcases Nat.eq_zero_or_pos l.length with p | p
 ·have e:=List.eq_nil_of_length_eq_zero p
  subst e
  walk_at "rd"
  exact q2 fun z=>z.1 rfl
 ·have c0:=Yx al (i:=0) p
  have c1:=Yx al (i:=l.length - 1) (by omega)
  have ne:l≠[]:=List.length_pos_iff.mp p
  walk_at "rd"
  ·rename_i h1 h2
   by_cases h3:0<=fv (l.getD (l.length - 1) 0)
   ·rw [decide_eq_true h3];exact q1 ⟨ne,h2,h3⟩
   ·rw [decide_eq_false h3];exact q2 fun z=>h3 z.2.2
  ·rename_i h1 h2
   exact q2 fun z=>h2 z.2.1
  ·rename_i h1
   exact absurd h1 (by rw [decide_eq_false ne];decide)
include Z in
theorem Y7:zEr P w K mg base "unsigned" 3 ["core", "style"] (YK K):=by
 have JG:Nm K "NoCore" qL:=Z.bI
 refine xF Z.kn Z.aO (l2N (by intros;rfl)) fun fq fd F=>?_
 refine F.okX xi (fun vs H Q E=>?_) (fun _ _ _ s H vs Q E hr h tk=>?_)
 ·walk_at "ln"
 refine ⟨_,zC (yN PassesOwn.leaving rfl (zFg (qd (zA (YB) (zA (YB) (zD))))) (zf (i:=2) xi.nd rfl (Or.inl rfl)) (zC (zK (i:=3) xi.nd rfl (Or.inl rfl) (zG (Ze Z) hr rfl (zA (pv 1) (zA (pv 2) (zD)))))
  (zC (zK (i:=4) xi.nd rfl (Or.inl rfl) (zi jH (pv 0) (ze (zI zc Z.ak rfl qJ (zA (zR zV (pv 3) (zB) (fun _ _=>rfl)) (zD)))) (ze (zO jF (zI zc Z.ak rfl qJ (zA (pv 0) (zD))) (zI zc Z.ak rfl qJ (zA (zR zV (pv 3) (zB) (fun _ _=>rfl)) (zD)))))))
  (zF (qD (PW.pt (Zo (xQ (zG (xO Z) hr rfl (zA (pv 4) (zD)))) (yp (zS qw (zG (zAx Z) hr rfl (zA (pv 4) (zA (pv 1) (zA (pv 2) (zD))))) (pv 0) (zU _))))) (zF (zP (qd (zA (pv 2) (zA (pv 4) (zD)))))) (zZ))))))
  (zF (yW tk rfl Z.bE rfl Z.af (zA (zb) (zD)))),?_⟩
 obtain ⟨t,x,rfl,hx,al,hl,q1,q2⟩:=h
 all_goals walk_at "st"
 have q2':=fun n0 n1 H' g=>q2 n0 n1 qL H' JG g
 walk_at "rd"
 rename_i p0 H0 g0 e0
 refine zCa (SqT.of e0) (fun i σ H'=>H'=H0/\(1<=i -> ¬ Sgd x false t)/\(2<=i -> ¬ Sgd x true t) /\ ∃ r1 r2 r3:Option V,σ=[some (.str (T t)),some (.str x),r1,r2,r3]) ⟨rfl,fun z=>absurd z (by omega),fun z=>absurd z (by omega),none,none,none,rfl⟩ (fun i σ H' _ z=>by rw [z.1];exact SqT.of e0) ?_ ?_
 ·rintro i y σ H' hi ⟨rfl,n0,n1,r1,r2,r3,rfl⟩
  have hm:=mem_of_getElem? hi
  simp only [mem_cons,not_mem_nil,or_false] at hm
  have hy : ∃ b:Bool,y = .bl b/\(b=false↔i=0)/\(b=true↔i=1):=by
   match i,hi with
   | 0,hi=>cases hi;exact ⟨false,rfl,by simp,by simp⟩
   | 1,hi=>cases hi;exact ⟨true,rfl,by simp,by simp⟩
   | i+2,hi=>cases hi
  obtain ⟨b,rfl,hb0,hb1⟩:=hy
  have sl:=Qj hx b
  have nxt : ¬ Sgd x b t->(1<=i+1 -> ¬ Sgd x false t)/\(2<=i+1 -> ¬ Sgd x true t):=fun h=>by
   cases b
   ·have:=hb0.mp rfl;subst this
    exact ⟨fun _=>h,fun z=>absurd z (by omega)⟩
   ·have:=hb1.mp rfl;subst this
    exact ⟨fun _=>n0 (by omega),fun _=>h⟩
  have ab:Asc (bod x b t):=zCQ al
  have lb:=zCD (x:=x) (b:=b) (t:=t)
  rcases Nat.eq_zero_or_pos t.length with tz | tz
  ·have e:=List.eq_nil_of_length_eq_zero tz
   subst e
   have nb : ¬ Sgd x b []:=fun z=>by
    have:=List.length_pos_iff.mpr z.1.1
    rw [lb] at this;simp at this
   have anil:Asc []:=Asc.nil
   walk_at "rd"
   ·rename_i fg _ _ _ _ _
    exact absurd rfl fg.1
   ·rename_i fg _
    exact absurd rfl fg.1
   ·exact ⟨rfl,(nxt nb).1,(nxt nb).2,_,_,_,rfl⟩
  ·have eb:(t.take ((t.length:Int) - (stT x b).length).toNat).drop ((stL x b).length:Int).toNat=bod x b t:=by
    unfold bod;rw [toNat_natCast,show ((t.length:Int) - (stT x b).length).toNat=t.length - (stT x b).length by omega]
   walk_at "rd"
   rw [eb]
   walk_at "rd"
   ·rename_i fg hc p1 H1 g1 e1
    exact q1 b ⟨fg,hc⟩ _ _ (g0.trans g1) e1
   ·rename_i fg hc
    have n:=nxt fun z=>hc z.2
    exact ⟨rfl,n.1,n.2,_,_,_,rfl⟩
   ·rename_i fg
    have n:=nxt fun z=>fg z.1
    exact ⟨rfl,n.1,n.2,_,_,_,rfl⟩
 ·rintro σ H' ⟨rfl,n0,n1,r1,r2,r3,rfl⟩
  walk_at "rd"
  exact ⟨qY (by decide),q2' (n0 (by decide)) (n1 (by decide)) _ g0⟩
include Z in
theorem QU:Has P w K mg base "is_whole" 1 ["thing"] (Zq K):=by
 refine xF Z.kn Z.aP (l1N (by intros;rfl)) fun fq fd F=>?_
 refine F.ok YI (fun vs H Q E=>?_) (fun _ _ _ s H vs Q E hr h=>?_)
 ·walk_at "ln"
 obtain ⟨i,rfl,q⟩:=h
 refine ⟨_,zF (zP (XH (zI ZH Z.am rfl jh (zA (pv 0) (zA (JS rfl Z.aq Wo (v:=.ty "int") rfl) (zD)))) (YQ (zFQ (zI ZH Z.am rfl jh (zA (pv 0) (zA (JS rfl Z.ar zDo (v:=.ty "bool") rfl) (zD)))))))),?_⟩
 walk_at "st"
 walk_at "rd"
 exact q
include Z in
theorem w9:Has P w K mg base "common_divisor" 1 ["one", "other"] (xV K):=by
 refine xF Z.kn Z.aQ (l2N (by intros;rfl)) fun fq fd F=>?_
 refine F.ok qA (fun vs H Q E=>?_) (fun _ _ _ s H vs Q E hr h=>?_)
 ·walk_at "ln"
 obtain ⟨a,b,rfl,q⟩:=h
 refine ⟨_,zC (zK (i:=2) qA.nd rfl (Or.inl rfl) (zI kG Z.au rfl Yr (zA (pv 0) (zD))))
  (zC (zK (i:=3) qA.nd rfl (Or.inl rfl) (zI kG Z.au rfl Yr (zA (pv 1) (zD))))
  (zC (ZK PassesOwn.never (zS Xk (pv 3) (zB) (zU _)) (zC (zK (i:=4) qA.nd rfl (Or.inl rfl) (zO jC (pv 2) (pv 3)))
  (zC (zK (i:=2) qA.nd rfl (Or.inl rfl) (pv 3))
  (zF (zK (i:=3) qA.nd rfl (Or.inl rfl) (pv 4))))))
  (zF (zP (pv 2))))),?_⟩
 walk_at "st"
 walk_at "rd"
 rename_i k1 hk1 k2 hk2
 have ha:=zC6 hk1 hk2
 refine JY (fun m σ H'=>H'=H /\ ∃ (g l:Int) (r:Option V),σ=[some (.int a),some (.int b),some (.int g),some (.int l),r]/\0<=g/\0<=l/\Int.gcd g l=Int.gcd a b/\m=l.toNat) ⟨_,rfl,_,_,_,rfl,ha.1,ha.2.1,ha.2.2,rfl⟩ ?_
 rintro m σ H' ⟨rfl,g,l,r,rfl,hg,hl,hgl,rfl⟩
 walk_at "rd"
 ·rename_i hc
  have:l=0:=by omega
  subst this
  have e:g=((Int.gcd a b:Nat):Int):=by rw [<- hgl];simp;omega
  rw [e];exact q
 ·rename_i hc
  have hc':0 < l:=by omega
  have h1:=emod_nonneg g (show l≠0 by omega)
  have h2:=emod_lt_of_pos g hc'
  exact ⟨_,by omega,rfl,_,_,_,rfl,by omega,h1,by rw [zAk hg hc'];exact hgl,rfl⟩
include Z in
theorem YJ:zCb P w K mg base "ungrouped" 3 ["text", "size", "mark"] (Xa K):=by
 have wD:Nm K "NoGroups" zn:=Z.bG
 refine xF Z.kn Z.aR (l3N (by intros;rfl)) fun fq fd F=>?_
 refine F.okX2 wK (fun vs H Q E=>?_) (fun _ _ _ s H vs Q E hr h tk=>?_)
 ·walk_at "ln"
 refine ⟨_,zC (zK (i:=3) wK.nd rfl (Or.inl rfl) (YO (zS qw (pv 1) (zB) (zU _)) (pv 0) (ki PySem.F.plainAttrs_str PySem.F.slot_str_join PySem.F.type_str_join JK (qS (l:=[]) (by decide +kernel)) (zA (zG (wL Z) hr rfl (zA (pv 0) (zA (pv 1) (zA (zB) (zD))))) (zD)))))
  (zC (qD (PW.pt (X2 (yT (Q5 Vs Vs (zB) (zI zc Z.ak rfl qJ (zA (pv 3) (zD))) (y7 rfl Z.aB (v:=.int 40) ⟨_,rfl⟩))) (Zr (zS Xk (zG (Wa Z) hr rfl (zA (pv 3) (zA (pv 1) (zA (pv 2) (zD))))) (pv 0) (zU _))))) (zF (yW tk rfl Z.bC rfl Z.ad (zA (zb) (zD)))) (zZ))
  (zF (zP (pv 3)))),?_⟩
 obtain ⟨t,z,m,rfl,h1,h2,h3,q1,q2⟩:=h
 all_goals walk_at "st"
 have lu:=zFH (z:=z.toNat) (t:=t)
 have q2':=fun b H' g=>q2 b zn H' wD g
 rcases Decidable.em (z=0) with hz | hz
 ·subst hz
  have e:ug (Int.toNat 0) t=t:=rfl
  have eg:gr (Int.toNat 0) m t=t:=k9
  unfold GG at q1 q2'
  rw [e,eg] at q1 q2'
  walk_at "rd"
  ·exact q1 ⟨by omega,by omega,rfl⟩ _ (by assumption)
  all_goals exact ⟨qY (by decide),q2' (fun z=>by have:=z.1;have:=z.2.1;omega) _ (zY.refl _)⟩
 ·have bd:=Yt (a:=t) (g:=1) (show 0 < z.toNat by omega) t.length t.length (Nat.le_refl _)
  walk_at "rd"
  rename_i p' H' g' e'
  refine X6 e' (by rw [QG,length_nil,show Int.toNat 1=1 from rfl];omega) ?_
  rw [QG,zBl,show Int.toNat 1=1 from rfl,zEw (by omega)]
  walk_at "rd"
  ·exact q1 ⟨by omega,by omega,by assumption⟩ _ (by walk_at "sm")
  ·rename_i hc
   exact ⟨qY (by decide),q2' (fun z=>hc z.2.2) _ (by walk_at "sm")⟩
  all_goals exact ⟨qY (by decide),q2' (fun z=>by have:=z.1;have:=z.2.1;omega) _ (by walk_at "sm")⟩
include Z in
theorem X0:zCb P w K mg base "number_of" 1 ["text", "base"] (Jc K):=by
 have y9:Nm K "NoFigures" zg:=Z.bF
 refine xF Z.kn Z.aS (l2N (by intros;rfl)) fun fq fd F=>?_
 refine F.okX2 jP (fun vs H Q E=>?_) (fun _ _ _ s H vs Q E hr h tk=>?_)
 ·walk_at "ln"
 refine ⟨_,zC (qD (PW.pt (X2 (yT (xQ (zI ZH Z.am rfl jh (zA (pv 0) (zA (JS rfl Z.an zBL (v:=.ty "str") rfl) (zD)))))) (Zr (yT (Q5 Vs Vs (zB) (zI zc Z.ak rfl qJ (zA (pv 0) (zD))) (y7 rfl Z.aC (v:=.int 240) ⟨_,rfl⟩)))))) (zF (yW tk rfl Z.bB rfl Z.ac (zA (zb) (zD)))) (zZ))
  (zC (zK (i:=2) jP.nd rfl (Or.inl rfl) (zB))
  (zC (yN PassesOwn.leaving rfl (YC (pv 0)) (zf (i:=3) jP.nd rfl (Or.inl rfl)) (zC (zK (i:=4) jP.nd rfl (Or.inl rfl) (ki PySem.F.plainAttrs_str PySem.F.slot_str_find PySem.F.type_str_find zAb (y7 rfl Z.aA (v:=.str "0123456789abcdef") ⟨_,rfl⟩) (zA (pv 3) (zD))))
  (zC (qD (PW.pt (X2 (zS XM (pv 4) (zB) (zU _)) (Zr (zS zBD (pv 4) (pv 1) (zU _))))) (zF (yW tk rfl Z.bB rfl Z.ac (zA (zb) (zD)))) (zZ))
  (zF (zK (i:=2) jP.nd rfl (Or.inl rfl) (zO zv (zO jl (pv 2) (pv 1)) (pv 4)))))))
  (zF (zP (pv 2))))),?_⟩
 obtain ⟨l,b,rfl,al,h1,h2,h3,h4,q1,q2⟩:=h
 all_goals walk_at "st"
 have q2':=fun n=>q2 n zg y9
 walk_at "rd"
 refine zDI (fun i σ H'=>H'=H/\jy b (l.take i) /\ ∃ r1 r2:Option V,σ=[some (.str (T l)),some (.int b),some (.int (val b (l.take i))),r1,r2]) ⟨rfl,by rw [List.take_zero];exact fun _ z=>(nomatch z),none,none,rfl⟩ ?_ ?_
 ·rintro i c σ H' hi ⟨rfl,hf,r1,r2,rfl⟩
  have hm:=mem_of_getElem? hi
  have hc1:=al c hm
  walk_at "rd"
  ·exact ⟨qY (by decide),q2' (fun z=>by have:=(z c hm).2.1;omega)⟩
  ·exact ⟨qY (by decide),q2' (fun z=>by have:=(z c hm).2.2;omega)⟩
  ·refine ⟨rfl,hf.snoc hi hc1 (by omega) (by omega),some (.str (T [c])),some (.int (fv c)),?_⟩
   rw [take_succ,hi,show (some c).toList=[c] from rfl,kr];rfl
 ·rintro σ H' ⟨rfl,hf,r1,r2,rfl⟩
  rw [take_length] at hf
  walk_at "rd"
  rw [take_length];exact q1 hf
include Z in
theorem Xf:zEr P w K mg base "whole_end" 1 ["body", "places", "point"] (Jh K):=by
 have yX:Nm K "NoBody" qE:=Z.bH
 refine xF Z.kn Z.aT (l3N (by intros;rfl)) fun fq fd F=>?_
 refine F.okX wR (fun vs H Q E=>?_) (fun _ _ _ s H vs Q E hr h tk=>?_)
 ·walk_at "ln"
 refine ⟨_,zC (qD (zS qw (pv 1) (zB) (zU _)) (zF (zP (zI zc Z.ak rfl qJ (zA (pv 0) (zD))))) (zZ))
  (zC (zK (i:=3) wR.nd rfl (Or.inl rfl) (zO jF (zO jF (zI zc Z.ak rfl qJ (zA (pv 0) (zD))) (pv 1)) (zB)))
  (zC (qD (PW.pt (X2 (zS XM (pv 3) (zB) (zU _)) (Zr (zS Xk (zR jo (pv 0) (pv 3) (fun _ _=>rfl)) (pv 2) (zU _))))) (zF (yW tk rfl Z.bD rfl Z.ae (zA (zb) (zD)))) (zZ))
  (zF (zP (pv 3))))),?_⟩
 obtain ⟨t,p,pt,rfl,h1,h2,h3,q1,q2⟩:=h
 all_goals walk_at "st"
 have q2':=fun n=>q2 n qE yX
 walk_at "rd"
 ·rename_i hc
  subst hc
  exact q1 (.inl rfl)
 ·exact ⟨qY (by decide),q2' (fun h=>h.elim (fun h=>by omega) fun h=>by have:=h.1;omega)⟩
 ·rename_i hc
  have e1:((t.length:Int) - p - 1).toNat=t.length - p.toNat - 1:=by omega
  rw [e1] at hc
  have e2:((qx p.toNat t).length:Int)=(t.length:Int) - p - 1:=by unfold qx;rw [if_neg (by omega),length_take];omega
  have q':=q1 (.inr ⟨by omega,by simpa using hc⟩)
  rw [e2] at q';exact q'
 ·rename_i hc
  have e1:((t.length:Int) - p - 1).toNat=t.length - p.toNat - 1:=by omega
  rw [e1] at hc
  exact ⟨qY (by decide),q2' (fun h=>h.elim (fun h=>by omega) fun h=>hc (by rw [h.2]))⟩
include Z in
theorem YM:zEr P w K mg base "number_in" 4 ["body", "base", "places", "point", "size", "mark"] (J7 K):=by
 have wD:Nm K "NoGroups" zn:=Z.bG
 have y9:Nm K "NoFigures" zg:=Z.bF
 have yX:Nm K "NoBody" qE:=Z.bH
 have xg:W.exmAny K (.ref zn) [.ref zn,.ref zg]=some true:=Z.xg
 have xf:W.exmAny K (.ref zg) [.ref zn,.ref zg]=some true:=Z.xf
 refine xF Z.kn Z.aU (l6N (by intros;rfl)) fun fq fd F=>?_
 refine F.okX xB (fun vs H Q E=>?_) (fun _ _ _ s H vs Q E hr h tk=>?_)
 ·walk_at "ln"
 refine ⟨_,zC (zK (i:=6) xB.nd rfl (Or.inl rfl) (zAG (Xf Z) Jb hr rfl (zA (pv 0) (zA (pv 2) (zA (pv 3) (zD))))))
  (zC (zDS rfl rfl rfl Z.bD zCk (fun _=>PassesOwnAt.leaving) rfl Z.ad rfl Z.ac rfl Z.ae (fun _ _ _=>zC (zK (i:=7) xB.nd rfl (Or.inl rfl) (J2 (YJ Z) hr rfl (zA (zi jH (pv 0) (qQ) (ze (pv 6))) (zA (pv 4) (zA (pv 5) (zD))))))
  (zF (zK (i:=8) xB.nd rfl (Or.inl rfl) (J2 (X0 Z) hr rfl (zA (zO zp (pv 7) (zi jH (pv 0) (ze (zO zv (pv 6) (zB))) (qQ))) (zA (pv 1) (zD))))))))
  (zC (qD (PW.pt (Zo (zS ko (zI zc Z.ak rfl qJ (zA (pv 7) (zD))) (zB) (zU _)) (yp (zS qw (zR jo (pv 7) (zB) (fun _ _=>rfl)) (qS (l:=[48]) (by decide +kernel)) (zU _))))) (zF (yW tk rfl Z.bD rfl Z.ae (zA (zb) (zD)))) (zZ))
  (zF (zP (pv 8))))),?_⟩
 obtain ⟨t,b,p,z,pt,m,rfl,h1,h2,h3,h4,h5,h6,h7,h8,q1,q2⟩:=h
 all_goals walk_at "st"
 have q2':=fun n H' g=>q2 n qE H' yX g
 walk_at "rd"
 refine ⟨t,p,pt,rfl,h3,h4,h7,fun we=>?_,fun nw C nC=>?_⟩
 ·have t1:t.take ((qx p.toNat t).length:Int).toNat=qx p.toNat t:=by rw [toNat_natCast];exact Vg
  have t2:t.drop (((qx p.toNat t).length:Int)+1).toNat=kE p.toNat t:=by rw [show (((qx p.toNat t).length:Int)+1).toNat=(qx p.toNat t).length+1 by omega];exact Vu we
  have wl:=Wf (p:=p.toNat) (t:=t)
  have rl:=Ja we
  have pa:=zAC (p:=p.toNat) (z:=z.toNat) h8
  walk_at "rd"
  refine zEe [some (.str (T t)),some (.int b),some (.int p),some (.str (T [pt])),some (.int z),some (.str (T [m])),some (.int (qx p.toNat t).length),none,none] ?_
  walk_at "rd"
  rw [t1]
  refine ⟨qx p.toNat t,z,m,rfl,h5,h6,by omega,fun gg H1 g1=>?_,fun ng C H1 nC g1=>?_⟩
  ·have g2:=gg.1;have g3:=gg.2.1
   walk_at "rd"
   rw [t2]
   walk_at "rd"
   refine ⟨_,b,rfl,pa,by rw [length_append];omega,by rw [length_append];omega,h1,h2,fun fb=>?_,fun nf C nC=>?_⟩
   ·walk_at "rd"
    ·rename_i c1 c2
     exact ⟨qY (by decide),q2' (fun h=>h.2.2.2 ⟨by omega,by simpa using c2⟩) _ g1⟩
    ·rename_i c1 c2
     exact q1 ⟨we,gg,fb,fun h=>c2 (by rw [show Int.toNat 0=0 from rfl,h.2])⟩ _ g1
    ·rename_i c1
     exact q1 ⟨we,gg,fb,fun h=>c1 (by have:=h.1;omega)⟩ _ g1
   ·have:=Nm.eq nC y9
    subst this
    exact ⟨_,rfl,xf,q2' (fun h=>nf h.2.2.1) _ g1⟩
  ·have:=Nm.eq nC wD
   subst this
   exact ⟨_,rfl,xg,q2' (fun h=>ng h.2.1) _ g1⟩
 ·have:=Nm.eq nC yX
  subst this
  exact q2' (fun h=>nw h.1) _ (zY.refl _)
def X1 (L:Addr):List (Str × V):=[("names", .ref L)]
def wns:List Str:=["signs", "least", "most"]
def cns:List Str:=["names"]
theorem zCx {L:Addr} {m:Str} (h1:m ≠ "names"):(X1 L).lookup m=none:=(qF h1).trans rfl
section
variable {H : Hp} {a C L : Addr} {wd : Int} {f : Nat} {x : Str} {st : Bool}
theorem zAZ (F:zX K H a C wd f x st (X1 L)):jv K H a "names" (.ref L):=F.own (by decide +kernel) yr (mem_cons_self ..)
theorem KL {m:Str} (F:zX K H a C wd f x st (X1 L)) (h0:m ∉ bns) (h1:m ≠ "names"):zBc H a C m:=F.meth h0 (zCx h1)
end
local macro_rules | `(tactic| walk_at "fld2")=>`(tactic| (exact zAZ (by walk_at "fm")))
local macro_rules | `(tactic| walk_at "ins")=>`(tactic| exact KL (by walk_at "fm") (by decide +kernel) (by decide +kernel))
def wX (K:W.Frag):Sp:=fun vs H Q _=>∃ (C a dx:Addr) (wd:Int) (f:Nat) (x:Str) (st:Bool),vs=[.ref a,.int wd,.str (T [f]),.str x,.bl st]/\Cls K C/\qZ K C bns/\H a=some (.ins C dx [])/\Q .non (upd H a (.ins C dx (bfs wd f x st [])))
include Z in
theorem ju:zGD P w K mg base CX0 kJ "__init__" 1 ["self", "width", "fill", "side", "strict"] (wX K):=by
 refine zHn Z.aV (l5N (by intros;rfl)) fun fq fd F=>?_
 refine F.ok ZD (fun vs H Q E=>?_) (fun _ _ _ s H vs Q E hr h=>?_)
 ·walk_at "ln"
 obtain ⟨C,a,dx,wd,f,x,st,rfl,cl,na,e0,q⟩:=h
 refine ⟨_,zC (ja (pv 0) (pv 1) rfl)
  (zC (ja (pv 0) (pv 2) rfl)
  (zC (ja (pv 0) (pv 3) rfl)
  (zF (ja (pv 0) (pv 4) rfl)))),?_⟩
 walk_at "st"
 walk_at "rd"
 refine jc e0 cl (na.at (by decide +kernel)) (by decide) ?_
 rw [qO]
 walk_at "rd"
 refine jc zQ cl (na.at (by decide +kernel)) (by show 1 < 1000;decide) ?_
 rw [qX,za (by decide +kernel),qO]
 walk_at "rd"
 refine jc zQ cl (na.at (by decide +kernel)) (by show 2 < 1000;decide) ?_
 rw [qX,za (by decide +kernel),za (by decide +kernel),qO]
 walk_at "rd"
 refine jc zQ cl (na.at (by decide +kernel)) (by show 3 < 1000;decide) ?_
 rw [qX,za (by decide +kernel),za (by decide +kernel),za (by decide +kernel),qO]
 walk_at "rd"
 exact q
def yf (K:W.Frag) (C:Addr):Sp:=fun vs H Q _=>∃ (a dx:Addr) (sg:List Nat) (lo hi wd:Int) (f:Nat) (x:Str) (st:Bool),vs=[.ref a,.str (T sg),.int lo,.int hi,.int wd,.str (T [f]),.str x,.bl st]/\H a=some (.ins C dx [])/\Q .non (upd H a (.ins C dx (bfs wd f x st (yt sg lo hi))))
include Z in
theorem yx:Gx P w K mg base CX0 "__init__" [zL] 2 ["self", "signs", "least", "most", "width", "fill", "side", "strict"] (yf K zL):=by
 have cl:Cls K zL:=Z.bM
 have na:qZ K zL (bns++wns):=Z.bN
 refine zCK Z.aW (l4N fun _ _ _ _=>l8N fun _ _ _ _ _ _ _ _ _ _ _ _ _ _ _=>⟨_,rfl,rfl⟩) fun fq fd F=>?_
 refine F.ok ye (fun vs H Q E=>?_) (fun _ _ _ s H vs Q E hr h=>?_)
 ·walk_at "ln"
 obtain ⟨a,dx,sg,lo,hi,wd,f,x,st,rfl,e0,q⟩:=h
 refine ⟨_,zC (xE (Zc (ju Z) jg hr rfl Z.ag (zA (pv 0) (zA (pv 4) (zA (pv 5) (zA (pv 6) (zA (pv 7) (zD))))))))
  (zC (ja (pv 0) (pv 1) rfl)
  (zC (ja (pv 0) (pv 2) rfl)
  (zF (ja (pv 0) (pv 3) rfl)))),?_⟩
 walk_at "st"
 have na0:qZ K zL bns:=⟨na.1,na.2.1,na.2.2.1,na.2.2.2.1,trivial⟩
 walk_at "rd"
 refine ⟨zL,a,dx,wd,f,x,st,rfl,cl,na0,e0,?_⟩
 walk_at "rd"
 refine jc zQ cl (na.at (by decide +kernel)) (by show 4 < 1000;decide) ?_
 rw [qX,jZ (by decide +kernel),qO]
 walk_at "rd"
 refine jc zQ cl (na.at (by decide +kernel)) (by show 5 < 1000;decide) ?_
 rw [qX,jZ (by decide +kernel),za (by decide +kernel),qO]
 walk_at "rd"
 refine jc zQ cl (na.at (by decide +kernel)) (by show 6 < 1000;decide) ?_
 rw [qX,jZ (by decide +kernel),za (by decide +kernel),za (by decide +kernel),qO]
 walk_at "rd"
 exact q
def x6 (K:W.Frag) (C:Addr):Sp:=fun vs H Q _=>∃ (a dx p:Addr) (ns:List (List Nat)) (wd:Int) (f:Nat) (x:Str) (st:Bool),vs=[.ref a,.ref p,.int wd,.str (T [f]),.str x,.bl st]/\H a=some (.ins C dx [])/\H p=some (.lst (tsV ns)) /\
 ∀ L H',SB a H H'->H L=none->H' L=some (.lst (tsV ns))->H' a=some (.ins C dx (bfs wd f x st (X1 L)))->Q .non H'
include Z in
theorem yV:Gx P w K mg base CX0 "__init__" [zM] 2 ["self", "names", "width", "fill", "side", "strict"] (x6 K zM):=by
 have cl:Cls K zM:=Z.bP
 have na:qZ K zM (bns++cns):=Z.bQ
 refine zCK Z.aX (l4N fun _ _ _ _=>l6N fun _ _ _ _ _ _ _ _ _ _ _ _ _=>⟨_,rfl,rfl⟩) fun fq fd F=>?_
 refine F.ok x0 (fun vs H Q E=>?_) (fun _ _ _ s H vs Q E hr h=>?_)
 ·walk_at "ln"
 obtain ⟨a,dx,p,ns,wd,f,x,st,rfl,e0,hp,q⟩:=h
 refine ⟨_,zC (xE (Zc (ju Z) jg hr rfl Z.ag (zA (pv 0) (zA (pv 2) (zA (pv 3) (zA (pv 4) (zA (pv 5) (zD))))))))
  (zF (ja (pv 0) (yD yy rfl Z.av X7 (zA (pv 1) (zD))) rfl)),?_⟩
 walk_at "st"
 have na0:qZ K zM bns:=⟨na.1,na.2.1,na.2.2.1,na.2.2.2.1,trivial⟩
 walk_at "rd"
 refine ⟨zM,a,dx,wd,f,x,st,rfl,cl,na0,e0,?_⟩
 walk_at "rd"
 have nap:p≠a:=fun z=>by rw [z,e0] at hp;cases hp
 refine Yz (SqL.of (show upd H a (.ins zM dx (bfs wd f x st [])) p=some (.lst (tsV ns)) by rw [qB nap];exact hp)) fun l H1 g1 n1 e1=>?_
 have nla:l≠a:=fun z=>by rw [z,zQ] at n1;cases n1
 rw [qB nla] at n1
 walk_at "rd"
 refine jc (g1.at zQ) cl (na.at (by decide +kernel)) (by show 4 < 1000;decide) ?_
 rw [jZ (by decide +kernel),qO]
 walk_at "rd"
 refine q l _ (fun b o hb e=>?_) n1 (by rw [qB nla];exact e1) zQ
 rw [qB hb]
 exact g1.at (by rw [qB hb];exact e)
def x3 (K:W.Frag) (C:Addr):Sp:=fun vs H Q _=>∃ (a dx:Addr) (fg pl b:Int) (sn:Str) (z:Int) (m pt:Nat) (wy:Str) (wd:Int) (f:Nat) (x:Str) (st:Bool),vs=[.ref a,.int fg,.int pl,.int b,.str sn,.int z,.str (T [m]),.str (T [pt]),.str wy,.int wd,.str (T [f]),.str x,.bl st]/\H a=some (.ins C dx [])/\Q .non (upd H a (.ins C dx (bfs wd f x st (jK fg pl b sn z m pt wy))))
include Z in
theorem yS:Gx P w K mg base CX0 "__init__" [zH] 2 ["self", "figures", "places", "base", "sign", "size", "mark", "point", "way", "width", "fill", "side", "strict"] (x3 K zH):=by
 have cl:Cls K zH:=Z.bJ
 have na:qZ K zH (bns++nns):=Z.bK
 refine zCK Z.aY (zHV fun _ _ _ _ _ _ _ _ _ _=>zHl fun _ _ _ _ _ _ _ _ _ _ _ _ _ _ _ _ _ _ _ _=>⟨_,rfl,rfl⟩) fun fq fd F=>?_
 refine F.ok x8 (fun vs H Q E=>?_) (fun _ _ _ s H vs Q E hr h=>?_)
 ·walk_at "ln"
 obtain ⟨a,dx,fg,pl,b,sn,z,m,pt,wy,wd,f,x,st,rfl,e0,q⟩:=h
 refine ⟨_,zC (xE (Zc (ju Z) jg hr rfl Z.ag (zA (pv 0) (zA (pv 9) (zA (pv 10) (zA (pv 11) (zA (pv 12) (zD))))))))
  (zC (ja (pv 0) (pv 1) rfl)
  (zC (ja (pv 0) (pv 2) rfl)
  (zC (ja (pv 0) (pv 3) rfl)
  (zC (ja (pv 0) (pv 4) rfl)
  (zC (ja (pv 0) (pv 5) rfl)
  (zC (ja (pv 0) (pv 6) rfl)
  (zC (ja (pv 0) (pv 7) rfl)
  (zF (ja (pv 0) (pv 8) rfl))))))))),?_⟩
 walk_at "st"
 walk_at "rd"
 refine ⟨zH,a,dx,wd,f,x,st,rfl,cl,⟨na.1,na.2.1,na.2.2.1,na.2.2.2.1,trivial⟩,e0,?_⟩
 walk_at "rd"
 refine jc zQ cl (na.at (by decide +kernel)) (by show 4 < 1000;decide) ?_
 rw [qX,jZ (by decide +kernel),qO]
 walk_at "rd"
 refine jc zQ cl (na.at (by decide +kernel)) (by show 5 < 1000;decide) ?_
 rw [qX,jZ (by decide +kernel),za (by decide +kernel),qO]
 walk_at "rd"
 refine jc zQ cl (na.at (by decide +kernel)) (by show 6 < 1000;decide) ?_
 rw [qX,jZ (by decide +kernel),za (by decide +kernel),za (by decide +kernel),qO]
 walk_at "rd"
 refine jc zQ cl (na.at (by decide +kernel)) (by show 7 < 1000;decide) ?_
 rw [qX,jZ (by decide +kernel),za (by decide +kernel),za (by decide +kernel),za (by decide +kernel),qO]
 walk_at "rd"
 refine jc zQ cl (na.at (by decide +kernel)) (by show 8 < 1000;decide) ?_
 rw [qX,jZ (by decide +kernel),za (by decide +kernel),za (by decide +kernel),za (by decide +kernel),za (by decide +kernel),qO]
 walk_at "rd"
 refine jc zQ cl (na.at (by decide +kernel)) (by show 9 < 1000;decide) ?_
 rw [qX,jZ (by decide +kernel),za (by decide +kernel),za (by decide +kernel),za (by decide +kernel),za (by decide +kernel),za (by decide +kernel),qO]
 walk_at "rd"
 refine jc zQ cl (na.at (by decide +kernel)) (by show 10 < 1000;decide) ?_
 rw [qX,jZ (by decide +kernel),za (by decide +kernel),za (by decide +kernel),za (by decide +kernel),za (by decide +kernel),za (by decide +kernel),za (by decide +kernel),qO]
 walk_at "rd"
 refine jc zQ cl (na.at (by decide +kernel)) (by show 11 < 1000;decide) ?_
 rw [qX,jZ (by decide +kernel),za (by decide +kernel),za (by decide +kernel),za (by decide +kernel),za (by decide +kernel),za (by decide +kernel),za (by decide +kernel),za (by decide +kernel),qO]
 walk_at "rd"
 exact q
include Z in
theorem xK:Gx P w K mg base CX0 "is_too_great" [zH] 2 ["self", "number"] (qW K zH):=by
 refine W4 Z.aZ (l2N (by intros;rfl)) fun fq fd F=>?_
 refine F.ok jw (fun vs H Q E=>?_) (fun _ _ _ s H vs Q E hr h=>?_)
 ·walk_at "ln"
 obtain ⟨a,fg,pl,b,sn,z,m,pt,wy,wd,f,x,st,n,rfl,F0,ok,q⟩:=h
 refine ⟨_,zF (zP (jW zBD (pv 1) (zG (QT Z) hr rfl (zA (jb (pv 0) rfl) (zA (zO zv (jb (pv 0) rfl) (jb (pv 0) rfl)) (zD)))) (zU _))),?_⟩
 walk_at "st"
 have o1:=ok.fg1;have o2:=ok.fg2;have o3:=ok.pl1;have o4:=ok.pl2;have o5:=ok.b1;have o6:=ok.b2
 walk_at "rd"
 exact q
theorem JX {pt:Nat} {f:Nat} (ok:QF fg pl b sn z m pt wy wd f x) (h:k.natAbs < b.toNat ^ (fg+pl).toNat):zHS k.natAbs b pl/\Sgd sn (decide (k < 0)) (x5 pl b sn z m pt k)/\Asc (x5 pl b sn z m pt k)/\(x5 pl b sn z m pt k).length<=400:=by
 have o1:=ok.fg1;have o2:=ok.fg2;have o3:=ok.pl1;have o4:=ok.pl2;have o5:=ok.b1;have o6:=ok.b2
 have e1:b.toNat ^ (fg+pl).toNat<=b.toNat ^ (40+pl.toNat):=Nat.pow_le_pow_right (by omega) (by omega)
 have nb:zHS k.natAbs b pl:=⟨by omega,o5,o6,o3,o4,by omega⟩
 have bs:=Yl (z:=z.toNat) (b:=b.toNat) (p:=pl.toNat) (n:=(k.natAbs:Int).toNat) (by omega) (by omega) (by omega) nb.2.2.2.2.2 ok.pt ok.m
 have e:bod sn (decide (k < 0)) (x5 pl b sn z m pt k)=bdI k.natAbs b pl pt z m:=WD
 have sl:=zEg ok.sn (decide (k < 0)) (bdI k.natAbs b pl pt z m)
 have sa:=We ok.sn (decide (k < 0))
 refine ⟨nb,⟨by rw [e];exact bs.1,by rw [e];rfl⟩,(sa.1.app bs.2.1).app sa.2,?_⟩
 have:=bs.2.2
 unfold x5
 unfold bdI at sl ⊢
 omega
include Z in
theorem qM:Gx P w K mg base CX0 "is_too_wide" [zH,zL,zM] 1 ["self", "core"] (jU K):=by
 refine W4 Z.a0 (l2N (by intros;rfl)) fun fq fd F=>?_
 refine F.ok y1 (fun vs H Q E=>?_) (fun _ _ _ s H vs Q E hr h=>?_)
 ·walk_at "ln"
 obtain ⟨a,C,wd,f,x,st,more,t,rfl,F0,h0,q⟩:=h
 refine ⟨_,zF (zP (XH (jb (pv 0) rfl) (YQ (jW ko (zI zc Z.ak rfl qJ (zA (pv 1) (zD))) (jb (pv 0) rfl) (zU _))))),?_⟩
 walk_at "st"
 walk_at "rd"
 ·rename_i hc;rw [hc] at q;exact q
 ·rename_i hc;rw [hc] at q;exact q
def QE (ld t:List Nat) (wd:Int) (f:Nat) (x:Str):List Nat:=if x = "inside" then ld++pad (t.drop ld.length) (wd - ld.length) f "right" else pad t wd f x
theorem Yw (h:yg x):x ≠ "inside" := by
 rcases h with rfl | rfl | rfl <;> decide +kernel
def jp (K:W.Frag) (C:Addr):Sp:=fun vs H Q _=>∃ (a:Addr) (sg:List Nat) (lo hi wd:Int) (f:Nat) (x:Str) (st:Bool) (t:List Nat),vs=[.ref a,.str (T t)]/\zX K H a C wd f x st (yt sg lo hi)/\t.length<=400 /\ ∀ H',zY H H'->Q (.bl (decide (Isw sg lo hi t))) H'
theorem Ww {a:Addr} {sg:List Nat} {f:Nat} {t:List Nat} (h1:zX K H a C wd f x st (yt sg lo hi)) (h2:t.length<=400) (q : ∀ H',zY H H'->Q (.bl (decide (Isw sg lo hi t))) H'):jp K C (.ref a::([.str (T t)]++[])) H Q E:=⟨a,sg,lo,hi,wd,f,x,st,t,rfl,h1,h2,q⟩
local macro_rules | `(tactic| walk_at "rdc")=>`(tactic| ((with_reducible refine' Ww ?h1 ?h2 ?_);(case h1=>walk_at "fm");(case h2=>omega);intro H' g'))
include Z in
theorem kT:Gx P w K mg base CX0 "is_word" [zL] 1 ["self", "thing"] (jp K zL):=by
 refine W4 Z.a1 (l2N (by intros;rfl)) fun fq fd F=>?_
 refine F.ok yw (fun vs H Q E=>?_) (fun _ _ _ s H vs Q E hr h=>?_)
 ·walk_at "ln"
 obtain ⟨a,sg,lo,hi,wd,f,x,st,t,rfl,F0,h0,q⟩:=h
 refine ⟨_,zC (qD (PW.pt (X2 (yT (xQ (zI ZH Z.am rfl jh (zA (pv 1) (zA (JS rfl Z.an zBL (v:=.ty "str") rfl) (zD)))))) (Zr (yT (Q5 Vs Vs (jb (pv 0) rfl) (zI zc Z.ak rfl qJ (zA (pv 1) (zD))) (jb (pv 0) rfl)))))) (zF (zP (YB))) (zZ))
  (zF (zP (zI (WA rfl) Z.ax rfl zD4 (zA (jk (cl:=[("self", s.heap.objs.size+1+0)]) (fr:=["self"]) (is:=[0]) rfl rfl ⟨rfl,trivial⟩ rfl ⟨⟨rfl,rfl,Or.inl rfl⟩,trivial⟩ (by decide) (by decide +kernel) rfl (by decide +kernel) rfl (YC (pv 1)) (fun _ _ _ _=>j6) (fun _ _ _ _=>jW Ko (pv 0) (xn (K:=K) rfl (pv 1) rfl) (by with_unfolding_all rfl))) (zD))))),?_⟩
 walk_at "st"
 walk_at "rd"
 ·rename_i c1 c2
  refine JU (Nat.le_of_lt (qV (by omega))) (fun i ys H'=>H'=H/\ys=((t.take i).map fun c=>decide (c ∈ sg)).map V.bl) ⟨rfl,rfl⟩ (fun i ys H' hi z=>by rw [z.2];simp;omega) ?_ ?_
  ·rintro i c ys H' hc hi ⟨rfl,rfl⟩
   walk_at "rd"
   refine nxC hi ⟨rfl,?_⟩
   rw [take_succ,hc,map_append,map_append];rfl
  ·rintro ys H' ⟨rfl,rfl⟩ p H2 g2 e2
   rw [take_length] at e2
   walk_at "rd"
   have e:(t.map fun c=>decide (c ∈ sg)).all id=decide (Isw sg lo hi t):=by
    rw [Bool.eq_iff_iff,List.all_eq_true,decide_eq_true_iff]
    constructor
    ·intro h
     exact ⟨⟨c1,c2⟩,fun c hc=>of_decide_eq_true (h _ (List.mem_map.mpr ⟨c,hc,rfl⟩))⟩
    ·rintro h b hb
     obtain ⟨c,hc,rfl⟩:=List.mem_map.mp hb
     exact decide_eq_true (h.2 c hc)
   rw [e]
   exact q _ g2
 ·rename_i c1 c2
  have q':=q _ (zY.refl _)
  rw [decide_eq_false (fun z=>c2 z.1.2)] at q';exact q'
 ·rename_i c1
  have q':=q _ (zY.refl _)
  rw [decide_eq_false (fun z=>c1 z.1.1)] at q';exact q'
structure WdS (sg:List Nat) (lo hi wd:Int) (f:Nat) (x:Str):Prop where
 s1:1<=sg.length
 s2:sg.length<=200
 lo1:0<=lo
 lo2:lo<=hi
 hi2:hi<=24
 wd1:0<=wd
 wd2:wd<=40
 x:yg x
 sa:Asc sg
 f:f < 127
structure ChS (ns:Ce) (wd:Int) (f:Nat) (x:Str):Prop where
 n1:1<=ns.length
 n2:ns.length<=12
 len : ∀ t ∈ ns,t.length<=13
 wd1:0<=wd
 wd2:wd<=40
 x:yg x
 ta : ∀ t ∈ ns,Asc t
 nd:ns.Nodup
 f:f < 127
inductive VC (K:W.Frag) (H:Hp) (o cN cW cC:Addr) (wd:Int) (f:Nat) (x:Str) (st:Bool):Fd->Prop
 | num {fg pl b:Int} {sn:Str} {z:Int} {m pt:Nat} {wy:Str} (F:zX K H o cN wd f x st (jK fg pl b sn z m pt wy)) (ok:QF fg pl b sn z m pt wy wd f x):VC K H o cN cW cC wd f x st (.num fg pl b sn z m pt wy)
 | word {sg:List Nat} {lo hi:Int} (F:zX K H o cW wd f x st (yt sg lo hi)) (ok:WdS sg lo hi wd f x):VC K H o cN cW cC wd f x st (.word sg lo hi)
 | cho {L:Addr} {ns:Ce} (F:zX K H o cC wd f x st (X1 L)) (e:H L=some (.lst (tsV ns))) (ok:ChS ns wd f x):VC K H o cN cW cC wd f x st (.cho ns)
variable {o cN cW cC:Addr} {d:Fd}
theorem VC.same {f:Nat} (g:zY H H') (h:VC K H o cN cW cC wd f x st d):VC K H' o cN cW cC wd f x st d:=by
 cases h with
 | num F ok=>exact .num (F.same g) ok
 | word F ok=>exact .word (F.same g) ok
 | cho F e ok=>exact .cho (F.same g) (g.at e) ok
theorem VC.bd {f:Nat} (h:VC K H o cN cW cC wd f x st d) : ∃ C more,zX K H o C wd f x st more/\XY x/\0<=wd/\wd<=40:=by
 cases h with
 | num F ok=>exact ⟨_,_,F,ok.x,ok.wd1,ok.wd2⟩
 | word F ok=>exact ⟨_,_,F,.inl ok.x,ok.wd1,ok.wd2⟩
 | cho F e ok=>exact ⟨_,_,F,.inl ok.x,ok.wd1,ok.wd2⟩
def ZP (K:W.Frag):Sp:=fun vs H Q _=>∃ (t:List Nat) (w:Int) (f:Nat) (x:Str),vs=[.str (T t),.int w,.str (T [f]),.str x]/\yg x/\t.length<=400/\w<=40 /\ -1000<=w /\ ∀ p H',zY H H'->H p=none->H' p=some (.lst (tsV (qR t w f x)))->Q (.ref p) H'
theorem Vm {t:List Nat} {w:Int} {f:Nat} (h1:yg x) (h2:t.length<=400) (h3:w<=40) (h4 : -1000<=w) (q : ∀ p H',zY H H'->H p=none->H' p=some (.lst (tsV (qR t w f x)))->Q (.ref p) H'):ZP K ([.str (T t),.int w,.str (T [f]),.str x]++[]) H Q E:=⟨t,w,f,x,rfl,h1,h2,h3,h4,q⟩
local macro_rules | `(tactic| walk_at "rdc")=>`(tactic| ((with_reducible refine' Vm ?h1 ?h2 ?h3 ?h4 ?_);(case h1=>first | assumption | exact .inl rfl | exact .inr (.inl rfl) | exact .inr (.inr rfl));(case h2=>walk_at "tl");(case h3|h4=>omega);intro p' H' g' n' e'))
local macro_rules | `(tactic| walk_at "rdc")=>`(tactic| ((with_reducible refine' Zp ?hz ?_);(case hz=>exact qY (by simp only [length_cons,length_nil];decide));intro p' H' g' n' e'))
local macro_rules | `(tactic| walk_at "rd1")=>`(tactic| ((with_reducible refine' Zp ?hz ?_);(case hz=>exact qY (by simp only [length_cons,length_nil];decide));intro p' H' g' n' e'))
include Z in
theorem Qa:Has P w K mg base "stripped" 3 ["text", "width", "fill", "side"] (ZP K):=by
 refine xF Z.kn Z.a2 (l4N (by intros;rfl)) fun fq fd F=>?_
 refine F.ok jm (fun vs H Q E=>?_) (fun _ _ _ s H vs Q E hr h=>?_)
 ·walk_at "ln"
 obtain ⟨t,w,f,x,rfl,hs,h0,hw,hw1,q⟩:=h
 refine ⟨_,zC (qD (zS ko (zI zc Z.ak rfl qJ (zA (pv 0) (zD))) (pv 1) (zU _)) (zF (zP (zr (zA (pv 0) (zD))))) (zZ))
  (zC (zK (i:=4) jm.nd rfl (Or.inl rfl) (zr (zD)))
  (zC (yN PassesOwn.never rfl (xU rfl Z.al (zA (zO zv (pv 1) (zB)) (zD))) (zf (i:=5) jm.nd rfl (Or.inl rfl)) (zC (zK (i:=6) jm.nd rfl (Or.inl rfl) (zR zV (zG (J3 Z) hr rfl (zA (pv 5) (zA (pv 1) (zA (pv 3) (zD))))) (zB) (fun _ _=>rfl)))
  (zC (zK (i:=7) jm.nd rfl (Or.inl rfl) (zi jH (pv 0) (ze (pv 6)) (ze (zO zv (pv 6) (pv 5)))))
  (zF (qD (zS qw (zG (zAB Z) hr rfl (zA (pv 7) (zA (pv 1) (zA (pv 2) (zA (pv 3) (zD)))))) (pv 0) (zU _)) (zF (xE (ki PySem.F.plainAttrs_list PySem.F.slot_list_append PySem.F.type_list_append yI (pv 4) (zA (pv 7) (zD))))) (zZ))))))
  (zF (zP (pv 4))))),?_⟩
 walk_at "st"
 walk_at "rd"
 ·rename_i hc p' H' g' n' e'
  exact q _ _ g' n' (by rw [e',y0 hc];rfl)
 ·rename_i hc p' H0 g' n' e'
  refine Zz (by omega) (by omega) (fun i σ H2=>zY H H2 /\ ∃ (r1 r2 r3:Option V),H2 p'=some (.lst (tsV (((List.range i).filter (gd t w f x)).map (sl t w x))))/\σ=[some (.str (T t)),some (.int w),some (.str (T [f])),some (.str x),some (.ref p'),r1,r2,r3]) ⟨g',none,none,none,by rw [e'];rfl,rfl⟩ ?_ ?_
  ·rintro i σ H2 hi ⟨gg,r1,r2,r3,e2,rfl⟩
   obtain ⟨b1,b2,b3,_⟩:=xI (n:=(i:Int)) hs (by omega) hw
   have bl:=wZ (i:Int) w (by omega) hw
   rw [show (0+(i:Int))=(i:Int) by omega]
   have hl:(((List.range i).filter (gd t w f x)).map (sl t w x)).length<=i:=by
    rw [length_map];exact le_trans (length_filter_le _ _) (by rw [length_range];exact Nat.le_refl _)
   walk_at "rd"
   ·rename_i p1 H1 g1 e1 H3 g3 hc3
    refine JW (g3.at (g1.at e2)) (qV (by rw [length_map];omega)) ?_
    refine ⟨qK (gg.trans (g1.trans g3)) n',_,_,_,?_,rfl⟩
    rw [zQ,range_succ,filter_append,filter_cons,if_pos (show gd t w f x i=true from decide_eq_true hc3),filter_nil,map_append]
    unfold tsV
    rw [map_append];rfl
   ·rename_i p1 H1 g1 e1 H3 g3 hc3
    refine ⟨gg.trans (g1.trans g3),_,_,_,?_,rfl⟩
    rw [g3.at (g1.at e2),range_succ,filter_append,filter_cons,if_neg (show ¬ gd t w f x i=true from fun z=>hc3 (of_decide_eq_true z)),filter_nil,append_nil]
  ·rintro σ H2 ⟨gg,r1,r2,r3,e2,rfl⟩
   walk_at "rd"
   refine q _ _ gg n' ?_
   rw [e2];unfold qR;rw [if_neg hc]
theorem zFe {t:List Nat} {w:Int}:(sl t w x n).length<=t.length/\(Asc t->Asc (sl t w x n)):=by
 unfold sl
 exact ⟨by rw [length_drop,length_take];omega,fun h=>(h.take _).drop _⟩
theorem yC {t:List Nat} {w:Int} {f:Nat} : ∀ c ∈ qR t w f x,c.length<=t.length/\(Asc t->Asc c):=fun c hc=>by
 unfold qR at hc
 split at hc
 ·rw [List.mem_singleton.mp hc];exact ⟨Nat.le_refl _,id⟩
 ·obtain ⟨n,_,rfl⟩:=List.mem_map.mp hc
  exact zFe
theorem kZ {t:List Nat} {w:Int} {f:Nat} (h:w<=40):(qR t w f x).length<=41:=by
 unfold qR
 split
 ·simp
 ·rw [length_map]
  refine le_trans (length_filter_le _ _) ?_
  rw [length_range];omega
def nwd (wd:Int) (st:Bool) (c:List Nat):Bool:=!(st && decide (wd < (c.length:Int)))
def ucs (t:List Nat) (wd:Int) (f:Nat) (x:Str) (st:Bool):List (List Nat):=(qR t wd f x).filter (nwd wd st)
theorem Yy {t:List Nat} {f:Nat} (h:wd<=40):(ucs t wd f x st).length<=41 /\ ∀ c ∈ ucs t wd f x st,c.length<=t.length/\(Asc t->Asc c):=
 ⟨le_trans (length_filter_le _ _) (kZ h),fun c hc=>yC c (List.mem_filter.mp hc).1⟩
theorem YU {α:Type} {p:α->Bool} {cs:List α} {i:Nat} {c:α} (hc:cs[i]? = some c):(cs.take (i+1)).filter p=(cs.take i).filter p++[c].filter p:=by rw [take_succ,hc,filter_append];rfl
inductive UnA (K:W.Frag) (H:Hp) (a cN cW cC:Addr) (wd:Int) (f:Nat) (x:Str) (st:Bool):Prop
 | num {fg pl b:Int} {sn:Str} {z:Int} {m pt:Nat} {wy:Str} (F:zX K H a cN wd f x st (jK fg pl b sn z m pt wy)):UnA K H a cN cW cC wd f x st
 | word {sg:List Nat} {lo hi:Int} (F:zX K H a cW wd f x st (yt sg lo hi)):UnA K H a cN cW cC wd f x st
 | cho {L:Addr} (F:zX K H a cC wd f x st (X1 L)):UnA K H a cN cW cC wd f x st
def xz (K:W.Frag) (cN cW cC:Addr):Sp:=fun vs H Q _=>∃ (a:Addr) (wd:Int) (f:Nat) (x:Str) (st:Bool) (t:List Nat),vs=[.ref a,.str (T t)]/\UnA K H a cN cW cC wd f x st/\yg x/\t.length<=400/\0<=wd/\wd<=40 /\ ∀ l H',zY H H'->H' l=some (.lst (tsV (ucs t wd f x st)))->Q (.ref l) H'
theorem km {a:Addr} {f:Nat} {t:List Nat} (h1:UnA K H a cN cW cC wd f x st) (h2:yg x) (h3:t.length<=400) (h4:0<=wd) (h5:wd<=40) (q : ∀ l H',zY H H'->H' l=some (.lst (tsV (ucs t wd f x st)))->Q (.ref l) H'):xz K cN cW cC (.ref a::([.str (T t)]++[])) H Q E:=⟨a,wd,f,x,st,t,rfl,h1,h2,h3,h4,h5,q⟩
include Z in
theorem jt:Gx P w K mg base CX0 "unfilled" [zH,zM,zL] 4 ["self", "text"] (xz K zH zL zM):=by
 refine W4 Z.a3 (l2N (by intros;rfl)) fun fq fd F=>?_
 refine F.ok ZE (fun vs H Q E=>?_) (fun _ _ _ s H vs Q E hr h=>?_)
 ·walk_at "ln"
 obtain ⟨a,wd,f,x,st,t,rfl,D0,hs,h3,w0,w1,q⟩:=h
 refine ⟨_,zF (zP (jk (cl:=[("self", s.heap.objs.size+1+0)]) (fr:=["self"]) (is:=[0]) rfl rfl ⟨rfl,trivial⟩ rfl ⟨⟨rfl,rfl,Or.inl rfl⟩,trivial⟩ (by decide) (by decide +kernel) rfl (by decide +kernel) rfl (jX (zG (Qa Z :) hr rfl (zA (pv 1) (zA (jb (pv 0) rfl) (zA (jb (pv 0) rfl) (zA (jb (pv 0) rfl) (zD))))))) (fun _ _ _ _=>yb (yT (xQ (Y1 (qN (Xc (qM Z) in0 :) Z.bJ jg hr (pv 1) (zA (pv 0) (zD))) (Y1 (qN (Xc (qM Z) in1 :) Z.bM jg hr (pv 1) (zA (pv 0) (zD))) (qN (Xc (qM Z) in2 :) Z.bP jg hr (pv 1) (zA (pv 0) (zD)))))))) (fun _ _ _ _=>pv 0))),?_⟩
 walk_at "st"
 have sl:=kZ (t:=t) (f:=f) (x:=x) w1
 have sb:=yC (t:=t) (w:=wd) (f:=f) (x:=x)
 cases D0 with
 | num F0 =>
  walk_at "rd"
  rename_i l1 H1 g1 n1 e1
  have F1:=F0.same g1
  refine qP (SqL.of e1) (qY (by rw [zd];omega)) (fun i ys H'=>zY H1 H'/\ys=tsV (((qR t wd f x).take i).filter (nwd wd st))) ⟨zY.refl _,rfl⟩ (fun i ys H' hi h=>⟨SqL.of (h.1.at e1),by rw [h.2,zd];exact le_trans (length_filter_le _ _) (by rw [length_take];omega)⟩) ?_ ?_
  ·rintro i v ys H2 hv hi ⟨g2,rfl⟩
   obtain ⟨c,hc,rfl⟩:=yP hv
   have F2:=F1.same g2
   have cb:=sb c (mem_of_getElem? hc)
   walk_at "rd"
   refine zAe ?_
   walk_at "rd"
   ·rename_i hk
    refine nxC hi ⟨g2,?_⟩
    rw [YU hc,filter_cons_of_pos (show nwd wd st c=true from hk),<- jJ];rfl
   ·rename_i hk
    refine nxC hi ⟨g2,?_⟩
    rw [YU hc,filter_cons_of_neg (show ¬ nwd wd st c=true by unfold nwd;rw [hk];decide),filter_nil,append_nil]
  ·rintro ys H2 ⟨g2,rfl⟩ p2 H3 g3 n3 e3
   rw [take_of_length_le (by rw [zd];exact Nat.le_refl _)] at e3
   exact q _ _ (g1.trans (g2.trans g3)) e3
 | word F0 =>
  walk_at "rd"
  rename_i l1 H1 g1 n1 e1
  have F1:=F0.same g1
  refine qP (SqL.of e1) (qY (by rw [zd];omega)) (fun i ys H'=>zY H1 H'/\ys=tsV (((qR t wd f x).take i).filter (nwd wd st))) ⟨zY.refl _,rfl⟩ (fun i ys H' hi h=>⟨SqL.of (h.1.at e1),by rw [h.2,zd];exact le_trans (length_filter_le _ _) (by rw [length_take];omega)⟩) ?_ ?_
  ·rintro i v ys H2 hv hi ⟨g2,rfl⟩
   obtain ⟨c,hc,rfl⟩:=yP hv
   have F2:=F1.same g2
   have cb:=sb c (mem_of_getElem? hc)
   walk_at "rd"
   refine VN (zAe ?_)
   walk_at "rd"
   ·rename_i hk
    refine nxC hi ⟨g2,?_⟩
    rw [YU hc,filter_cons_of_pos (show nwd wd st c=true from hk),<- jJ];rfl
   ·rename_i hk
    refine nxC hi ⟨g2,?_⟩
    rw [YU hc,filter_cons_of_neg (show ¬ nwd wd st c=true by unfold nwd;rw [hk];decide),filter_nil,append_nil]
  ·rintro ys H2 ⟨g2,rfl⟩ p2 H3 g3 n3 e3
   rw [take_of_length_le (by rw [zd];exact Nat.le_refl _)] at e3
   exact q _ _ (g1.trans (g2.trans g3)) e3
 | cho F0 =>
  walk_at "rd"
  rename_i l1 H1 g1 n1 e1
  have F1:=F0.same g1
  refine qP (SqL.of e1) (qY (by rw [zd];omega)) (fun i ys H'=>zY H1 H'/\ys=tsV (((qR t wd f x).take i).filter (nwd wd st))) ⟨zY.refl _,rfl⟩ (fun i ys H' hi h=>⟨SqL.of (h.1.at e1),by rw [h.2,zd];exact le_trans (length_filter_le _ _) (by rw [length_take];omega)⟩) ?_ ?_
  ·rintro i v ys H2 hv hi ⟨g2,rfl⟩
   obtain ⟨c,hc,rfl⟩:=yP hv
   have F2:=F1.same g2
   have cb:=sb c (mem_of_getElem? hc)
   walk_at "rd"
   refine VN (VN ?_)
   walk_at "rd"
   ·rename_i hk
    refine nxC hi ⟨g2,?_⟩
    rw [YU hc,filter_cons_of_pos (show nwd wd st c=true from hk),<- jJ];rfl
   ·rename_i hk
    refine nxC hi ⟨g2,?_⟩
    rw [YU hc,filter_cons_of_neg (show ¬ nwd wd st c=true by unfold nwd;rw [hk];decide),filter_nil,append_nil]
  ·rintro ys H2 ⟨g2,rfl⟩ p2 H3 g3 n3 e3
   rw [take_of_length_le (by rw [zd];exact Nat.le_refl _)] at e3
   exact q _ _ (g1.trans (g2.trans g3)) e3
def ZS (K:W.Frag):Sp:=fun vs H Q _=>∃ t b:Int,vs=[.int t,.int b]/\0 < b/\b < 10000000000000000000000000000000000000000000000000000000000000000000000000000000000000000000000000000000000000000000000000000000000000000000000000000000000000000000000000000000000000000000000 /\ ∀ p H',zY H H'->H' p=some (.tup [.int (QR t b),.int (Z5 t b)])->Q (.ref p) H'
theorem VF (h1:0 < b) (h2:b < 10000000000000000000000000000000000000000000000000000000000000000000000000000000000000000000000000000000000000000000000000000000000000000000000000000000000000000000000000000000000000000000000) (q : ∀ p H',zY H H'->H' p=some (.tup [.int (QR t b),.int (Z5 t b)])->Q (.ref p) H'):ZS K ([.int t,.int b]++[]) H Q E:=⟨t,b,rfl,h1,h2,q⟩
include Z in
theorem Vh:Has P w K mg base "fraction" 2 ["top", "bottom"] (ZS K):=by
 refine xF Z.kn Z.a4 (l2N (by intros;rfl)) fun fq fd F=>?_
 refine F.ok yu (fun vs H Q E=>?_) (fun _ _ _ s H vs Q E hr h=>?_)
 ·walk_at "ln"
 obtain ⟨t,b,rfl,hb,h1,q⟩:=h
 refine ⟨_,zC (qD (PW.pt (X2 (yT (xQ (zG (QU Z) hr rfl (zA (pv 0) (zD))))) (Zr (yT (xQ (zG (QU Z) hr rfl (zA (pv 1) (zD)))))))) (zF (Yo)) (zZ))
  (zC (qD (zS qw (pv 1) (zB) (zU _)) (zF (Yo)) (zZ))
  (zC (zK (i:=2) yu.nd rfl (Or.inl rfl) (zG (w9 Z) hr rfl (zA (pv 0) (zA (pv 1) (zD)))))
  (zC (qD (zS XM (pv 1) (zB) (zU _)) (zF (zK (i:=2) yu.nd rfl (Or.inl rfl) (wY xy (pv 2)))) (zZ))
  (zF (zP (qd (zA (zO qj (pv 0) (pv 2)) (zA (zO qj (pv 1) (pv 2)) (zD))))))))),?_⟩
 walk_at "st"
 have e0:0 < (Int.gcd t b:Int):=by have:=Int.gcd_pos_of_ne_zero_right t (show b≠0 by omega);omega
 have e1:(Int.gcd t b:Int)<=b.natAbs:=by have:=Int.gcd_le_natAbs_right (a:=t) (b:=b) (by omega);omega
 walk_at "rd"
 refine q _ _ (by walk_at "sm") ?_
 unfold QR Z5 YS;rw [if_neg (show ¬ b < 0 by omega),Int.fdiv_eq_ediv_of_nonneg _ (Int.le_of_lt e0),Int.fdiv_eq_ediv_of_nonneg _ (Int.le_of_lt e0)];assumption
local macro_rules | `(tactic| walk_at "rdc")=>`(tactic| ((with_reducible refine' VF ?h1 ?h2 ?_);(case h1|h2=>omega);intro p' H' g' e'))
def kK (K:W.Frag):Sp:=fun vs H Q _=>∃ k c t:Int,vs=[.int k,.int c,.int t]/\2<=c/\c<=16/\0<=t/\t<=6 /\ ∀ p H',zY H H'->H' p=some (.tup [.int (QR k (c ^ t.toNat)),.int (Z5 k (c ^ t.toNat))])->Q (.ref p) H'
theorem Jg (h1:2<=c) (h2:c<=16) (h3:0<=t) (h4:t<=6) (q : ∀ p H',zY H H'->H' p=some (.tup [.int (QR k (c ^ t.toNat)),.int (Z5 k (c ^ t.toNat))])->Q (.ref p) H'):kK K ([.int k,.int c,.int t]++[]) H Q E:=⟨k,c,t,rfl,h1,h2,h3,h4,q⟩
include Z in
theorem XO:Has P w K mg base "grid_value" 3 ["k", "base", "places"] (kK K):=by
 refine xF Z.kn Z.a5 (l3N (by intros;rfl)) fun fq fd F=>?_
 refine F.ok JN (fun vs H Q E=>?_) (fun _ _ _ s H vs Q E hr h=>?_)
 ·walk_at "ln"
 obtain ⟨k,c,t,rfl,h1,h2,h3,h4,q⟩:=h
 refine ⟨_,zF (zP (zG (Vh Z) hr rfl (zA (pv 0) (zA (zG (QT Z) hr rfl (zA (pv 1) (zA (pv 2) (zD)))) (zD))))),?_⟩
 walk_at "st"
 have z:=pw6 (t:=t) h1 h2 h4
 walk_at "rd"
 exact q _ _ (by walk_at "sm") (by assumption)
local macro_rules | `(tactic| walk_at "rdc")=>`(tactic| ((with_reducible refine' Jg ?h1 ?h2 ?h3 ?h4 ?_);(case h1|h2|h3|h4=>omega);intro p' H' g' e'))
theorem Xm {X:Cx} (e:X.K=K):IxR X (zBK K):=e ▸ zV
open Classical in
noncomputable def z8 (fg pl b:Int) (sn:Str) (z:Int) (m pt:Nat) (bl:Bool) (t:List Nat):Option Int:=
 if Sgd sn bl t/\IsB b pl.toNat pt z.toNat m (bod sn bl t)/\VY b pl.toNat z.toNat (bod sn bl t) < b ^ (fg+pl).toNat/\(bl=true->0 < VY b pl.toNat z.toNat (bod sn bl t)) then some (if bl=true then -VY b pl.toNat z.toNat (bod sn bl t) else VY b pl.toNat z.toNat (bod sn bl t)) else none
def oV:Option Int->V
 | some k=>.int k
 | none=>.non
def qb (K:W.Frag) (C:Addr):Sp:=fun vs H Q _=>∃ (a:Addr) (fg pl b:Int) (sn:Str) (z:Int) (m pt:Nat) (wy:Str) (wd:Int) (f:Nat) (x:Str) (st:Bool) (t:List Nat) (bl:Bool),vs=[.ref a,.str (T t),.bl bl]/\zX K H a C wd f x st (jK fg pl b sn z m pt wy)/\QF fg pl b sn z m pt wy wd f x/\Asc t/\t.length<=400 /\ ∀ H',zY H H'->Q (oV (z8 fg pl b sn z m pt bl t)) H'
include Z in
theorem xM:Gx P w K mg base CX0 "number_with" [zH] 5 ["self", "core", "below"] (qb K zH):=by
 have JG:Nm K "NoCore" qL:=Z.bI
 have yX:Nm K "NoBody" qE:=Z.bH
 have xc:W.exmAny K (.ref qL) [.ref qL,.ref qE]=some true:=Z.xc
 have xb:W.exmAny K (.ref qE) [.ref qL,.ref qE]=some true:=Z.xb
 refine W4 Z.a6 (l3N (by intros;rfl)) fun fq fd F=>?_
 refine F.ok qI (fun vs H Q E=>?_) (fun _ _ _ s H vs Q E hr h=>?_)
 ·walk_at "ln"
 obtain ⟨a,fg,pl,b,sn,z,m,pt,wy,wd,f,x,st,t,bl,rfl,F0,ok,at',ht,q⟩:=h
 refine ⟨_,zC (zCB rfl rfl (fun _ _ _=>zC (zK (i:=3) qI.nd rfl (Or.inl rfl) (Yg (Y7 Z) hr rfl (zA (pv 1) (zA (xn (K:=K) rfl (pv 0) rfl) (zD)))))
  (zF (zK (i:=4) qI.nd rfl (Or.inl rfl) (Yg (YM Z) hr rfl (zA (zR (Xm (K:=K) rfl) (pv 3) (zB) (fun _ _=>rfl)) (zA (xn (K:=K) rfl (pv 0) rfl) (zA (xn (K:=K) rfl (pv 0) rfl) (zA (xn (K:=K) rfl (pv 0) rfl) (zA (xn (K:=K) rfl (pv 0) rfl) (zA (xn (K:=K) rfl (pv 0) rfl) (zD))))))))))) (zBF rfl Z.af rfl Z.ae (fun _=>zF (zP (QX)))))
  (zC (qD (PW.pt (X2 (zS Xk (zR zV (pv 3) (zB) (fun _ _=>rfl)) (pv 2) (zU _)) (Zr (xQ (qN (Xc (xK Z) in0) Z.bJ jg hr (pv 0) (zA (pv 4) (zD))))))) (zF (zP (QX))) (zZ))
  (zC (qD (yT (xQ (pv 2))) (zF (zP (pv 4))) (zZ))
  (zF (zP (YO (zS ko (pv 4) (zB) (zU _)) (wY xy (pv 4)) (QX)))))),?_⟩
 walk_at "st"
 have o1:=ok.fg1;have o2:=ok.fg2;have o3:=ok.pl1;have o4:=ok.pl2;have o5:=ok.b1;have o6:=ok.b2;have o9:=ok.z1;have o10:=ok.z2
 walk_at "rd"
 refine zEY [some (.ref a),some (.str (T t)),some (.bl bl),none,none] ?_
 walk_at "rd"
 refine ⟨t,sn,rfl,ok.sn,at',by omega,fun b' sd p1 H1 g1 e1=>?_,fun n0 n1 C H1 nC g1=>?_⟩
 ·have F1:=F0.same g1
  have hl:(bod sn b' t).length<=t.length:=by unfold bod;rw [length_drop,length_take];omega
  have ha:Asc (bod sn b' t):=(at'.take _).drop _
  walk_at "rd"
  refine ⟨bod sn b' t,b,pl,z,pt,m,rfl,o5,o6,o3,o4,o9,o10,by omega,ha,fun ib H2 g2=>?_,fun ni C H2 nC g2=>?_⟩
  ·have F2:=F1.same g2
   have e2:=g2.at e1
   have fin : ∀ o,z8 fg pl b sn z m pt bl t=o->Q (oV o) H2:=fun o h=>h ▸ q _ (g1.trans g2)
   walk_at "rd"
   rcases Decidable.em (b'=bl) with rfl | hb
   ·refine zEu ?_
    rw [decide_eq_true rfl]
    generalize hn:VY b pl.toNat z.toNat (bod sn b' t)=n
    walk_at "rd"
    ·rename_i hc
     refine fin none ?_
     unfold z8
     rw [hn]
     exact if_neg fun h=>by have:=h.2.2.1;omega
    ·rename_i h1 h2
     have hb:b'=false:=by cases b' <;> simp_all
     subst hb
     refine fin (some n) ?_
     unfold z8
     rw [hn,if_pos ⟨sd,ib,by omega,fun h=>by cases h⟩,if_neg Bool.false_ne_true]
    ·rename_i h1 h2 h3
     have hb:b'=true:=by cases b' <;> simp_all
     subst hb
     refine fin (some (-n)) ?_
     unfold z8
     rw [hn,if_pos ⟨sd,ib,by omega,fun h=>h3⟩,if_pos rfl]
    ·rename_i h1 h2 h3
     have hb:b'=true:=by cases b' <;> simp_all
     subst hb
     refine fin none ?_
     unfold z8
     rw [hn]
     exact if_neg fun h=>h3 (h.2.2.2 rfl)
   ·refine zEu ?_
    rw [decide_eq_false hb]
    walk_at "rd"
    refine fin none ?_
    unfold z8
    refine if_neg fun h=>?_
    cases bl <;> cases b'
    ·exact hb rfl
    ·exact Z0 ok.sn h.1 sd
    ·exact Z0 ok.sn sd h.1
    ·exact hb rfl
  ·have:=Nm.eq nC yX
   subst this
   refine ⟨_,rfl,zHT xb ?_⟩
   walk_at "rd"
   have q':=q _ (g1.trans g2)
   rw [show z8 fg pl b sn z m pt bl t=none from ?_] at q'
   ·exact q'
   ·unfold z8
    refine if_neg fun h=>ni ?_
    obtain rfl:bl=b':=by
     cases bl <;> cases b'
     ·rfl
     ·exact (Z0 ok.sn h.1 sd).elim
     ·exact (Z0 ok.sn sd h.1).elim
     ·rfl
    exact h.2.1
 ·have:=Nm.eq nC JG
  subst this
  refine ⟨_,rfl,zHT xc ?_⟩
  walk_at "rd"
  have q':=q _ g1
  rw [show z8 fg pl b sn z m pt bl t=none from ?_] at q'
  ·exact q'
  ·unfold z8
   refine if_neg fun h=>?_
   cases bl
   ·exact n0 h.1
   ·exact n1 h.1
variable {bl:Bool}
theorem JC {a:Addr} {pt:Nat} {f:Nat} {t:List Nat} (h1:zX K H a C wd f x st (jK fg pl b sn z m pt wy)) (h2:QF fg pl b sn z m pt wy wd f x) (h3:Asc t) (h4:t.length<=400) (q : ∀ H',zY H H'->Q (oV (z8 fg pl b sn z m pt bl t)) H'):qb K C (.ref a::([.str (T t),.bl bl]++[])) H Q E:=⟨a,fg,pl,b,sn,z,m,pt,wy,wd,f,x,st,t,bl,rfl,h1,h2,h3,h4,q⟩
def RT (H:Hp) (S:Int) (v:V) (k:Int):Prop:=∃ p,v = .ref p/\H p=some (.tup [.int (QR k S),.int (Z5 k S)])
theorem RT.same {S:Int} (g:zY H H') (h:RT H S v k):RT H' S v k:=let ⟨p,e,k⟩:=h;⟨p,e,g.at k⟩
theorem two_ways {pt:Nat} (hs:yd sn) (cs:List (List Nat)):(cs.filterMap (z8 fg pl b sn z m pt false)).length+(cs.filterMap (z8 fg pl b sn z m pt true)).length<=cs.length:=by
 induction cs with
 | nil=>exact Nat.le_refl _
 | cons c cs ih =>
  rw [filterMap_cons,filterMap_cons,length_cons]
  cases h0:z8 fg pl b sn z m pt false c with
  | none =>
   cases h1:z8 fg pl b sn z m pt true c with
   | none=>dsimp only;omega
   | some k=>dsimp only;rw [length_cons];omega
  | some j =>
   cases h1:z8 fg pl b sn z m pt true c with
   | none=>dsimp only;rw [length_cons];omega
   | some k =>
    exfalso
    unfold z8 at h0 h1
    split at h0
    ·rename_i a0
     split at h1
     ·rename_i a1
      exact Z0 hs a0.1 a1.1
     ·cases h1
    ·cases h0
def XC (t l:List Nat) (w:Int) (f:Nat):List (List Nat):=if t.take l.length=l then qR (t.drop l.length) (w - l.length) f "right" else []
def j9 (K:W.Frag):Sp:=fun vs H Q _=>∃ (t l:List Nat) (w:Int) (f:Nat),vs=[.str (T t),.str (T l),.int w,.str (T [f])]/\t.length<=1000/\l.length<=400/\t.length - l.length<=400/\w<=40/\0<=w /\ ∀ p H',zY H H'->H p=none->H' p=some (.lst (tsV (XC t l w f)))->Q (.ref p) H'
theorem wC {t l:List Nat} {w:Int} {f:Nat} (h1:t.length<=1000) (h2:l.length<=400) (h5:t.length - l.length<=400) (h3:w<=40) (h4:0<=w) (q : ∀ p H',zY H H'->H p=none->H' p=some (.lst (tsV (XC t l w f)))->Q (.ref p) H'):j9 K ([.str (T t),.str (T l),.int w,.str (T [f])]++[]) H Q E:=⟨t,l,w,f,rfl,h1,h2,h5,h3,h4,q⟩
local macro_rules | `(tactic| walk_at "rdc")=>`(tactic| ((with_reducible refine' wC ?h1 ?h2 ?h5 ?h3 ?h4 ?_);(case h1|h2|h5=>walk_at "tl");(case h3|h4=>omega);intro p' H' g' n' e'))
include Z in
theorem kv:Has P w K mg base "stripped_inside" 4 ["text", "lead", "width", "fill"] (j9 K):=by
 refine xF Z.kn Z.a7 (l4N (by intros;rfl)) fun fq fd F=>?_
 refine F.ok kL (fun vs H Q E=>?_) (fun _ _ _ s H vs Q E hr h=>?_)
 ·walk_at "ln"
 obtain ⟨t,l,w,f,rfl,h1,h2,h5,h3,h4,q⟩:=h
 refine ⟨_,zC (qD (yT (xQ (ki PySem.F.plainAttrs_str PySem.F.slot_str_startswith PySem.F.type_str_startswith QH (pv 0) (zA (pv 1) (zD))))) (zF (zP (zr (zD)))) (zZ))
  (zF (zP (zG (Qa Z) hr rfl (zA (zi jH (pv 0) (ze (zI zc Z.ak rfl qJ (zA (pv 1) (zD)))) (qQ)) (zA (zO jF (pv 2) (zI zc Z.ak rfl qJ (zA (pv 1) (zD)))) (zA (pv 3) (zA (zb) (zD)))))))),?_⟩
 walk_at "st"
 walk_at "rd"
 ·rename_i hc p' H' g' n' e'
  exact q _ _ g' n' (by rw [e'];unfold XC;rw [if_pos hc,toNat_natCast])
 ·rename_i hc p' H' g' n' e'
  exact q _ _ g' n' (by rw [e'];unfold XC;rw [if_neg hc];rfl)
def cin (t:List Nat) (sn:Str) (bl:Bool) (wd:Int) (f:Nat) (x:Str) (st:Bool):List (List Nat):=if x = "inside" then ((XC t (stL sn bl) wd f).map fun r=>stL sn bl++r).filter (nwd wd st) else ucs t wd f x st
theorem Yq {t l:List Nat} {w:Int} {f:Nat} (h:w<=40):(XC t l w f).length<=41:=by
 unfold XC
 split
 ·exact kZ (by omega)
 ·exact Nat.zero_le _
theorem JP {t:List Nat} {f:Nat} (h:wd<=40):(cin t sn bl wd f x st).length<=41:=by
 unfold cin
 split
 ·exact le_trans (length_filter_le _ _) (by rw [length_map];exact Yq h)
 ·exact (Yy h).1
theorem Jx {α β:Type} {g:α->Option β} {p:α->Bool} : ∀ l:List α,((l.filter p).filterMap g).length<=(l.filterMap g).length
 | []=>Nat.le_refl _
 | a::l=>by
  have ih:=Jx (g:=g) (p:=p) l
  rw [filter_cons]
  split
  ·rw [filterMap_cons,filterMap_cons]
   cases g a <;> simp <;> omega
  ·rw [filterMap_cons]
   cases g a <;> simp <;> omega
variable {u:List Nat}
theorem Yb {pt:Nat} (hL:stL sn false=[]) (h:z8 fg pl b sn z m pt false u=some k):0<=fv (u.getD 0 0):=by
 unfold z8 at h
 split at h
 ·rename_i a
  obtain ⟨⟨ne,h0,_⟩,e⟩:=a.1
  rw [hL,List.nil_append] at e
  have:u.getD 0 0=(bod sn false u).getD 0 0:=by
   conv=>lhs;rw [<- e]
   cases hb:bod sn false u with
   | nil=>exact absurd hb ne
   | cons c r=>rfl
  rw [this];exact h0
 ·cases h
theorem WY {f a b:Nat} {v:List Nat} (h:List.replicate a f++u=List.replicate b f++v) (l:a < b):u.getD 0 0=f/\(List.replicate b f++v).getD 0 0=f:=by
 obtain ⟨d,rfl⟩ : ∃ d,b=a+(d+1):=⟨b - a - 1,by omega⟩
 rw [<- List.replicate_append_replicate,append_assoc] at h
 constructor
 ·rw [append_cancel_left h];rfl
 ·rw [show a+(d+1)=(a+d)+1 from rfl,List.replicate_succ];rfl
theorem zBQ {α β:Type} {g:α->Option β} : ∀ l:List α,l.Nodup->(∀ a ∈ l,∀ b ∈ l,∀ i j,g a=some i->g b=some j->a=b)->(l.filterMap g).length<=1
 | [],_,_=>Nat.zero_le _
 | a::l,nd,h=>by
  obtain ⟨n1,n2⟩:=List.nodup_cons.mp nd
  cases e:g a with
  | none=>rw [List.filterMap_cons_none e];exact zBQ l n2 fun x hx y hy=>h x (.tail _ hx) y (.tail _ hy)
  | some i =>
   rw [List.filterMap_cons_some e,List.filterMap_eq_nil_iff.mpr fun b hb=>?_]
   ·exact Nat.le_refl _
   ·cases e2:g b with
    | none=>rfl
    | some j=>exact absurd (h a (.head _) b (.tail _ hb) i j e e2 ▸ hb) n1
theorem zAw {pt:Nat} {t:List Nat} {f:Nat} (hL:stL sn false=[]) (hw:wd<=40) (hc:fv (t.getD 0 0) < 0):((qR t wd f "right").filterMap (z8 fg pl b sn z m pt false)).length<=1:=by
 have sr:yg "right" := .inr (.inl rfl)
 refine zBQ _ (yU sr hw) fun u hu v hv i j hi hj=>?_
 have eu:=wB sr hw hu
 have ev:=wB sr hw hv
 have fu:=Yb hL hi
 have fv':=Yb hL hj
 unfold pad at eu ev
 have pb : ∀ n:Int,(pB "right" n wd).toNat=0:=fun n=>by unfold pB;rw [pAr,Int.sub_self];rfl
 rw [pb,List.replicate_zero,append_nil] at eu ev
 generalize (pA "right" u.length wd).toNat=a at eu
 generalize (pA "right" v.length wd).toNat=c at ev
 have e:=eu.trans ev.symm
 rcases Nat.lt_trichotomy a c with l | l | l
 ·obtain ⟨x1,x2⟩:=WY e l
  rw [ev] at x2;rw [x2] at hc;rw [x1] at fu
  exact absurd fu (Int.not_le.mpr hc)
 ·rw [l] at e;exact append_cancel_left e
 ·obtain ⟨x1,x2⟩:=WY e.symm l
  rw [eu] at x2;rw [x2] at hc;rw [x1] at fv'
  exact absurd fv' (Int.not_le.mpr hc)
theorem WJ {pt:Nat} {t:List Nat} {f:Nat} (hs:yd sn) (hw:wd<=40):((cin t sn false wd f x st).filterMap (z8 fg pl b sn z m pt false)).length+((cin t sn true wd f x st).filterMap (z8 fg pl b sn z m pt true)).length<=42:=by
 have l0:=le_trans (List.length_filterMap_le (z8 fg pl b sn z m pt false) (cin t sn false wd f x st)) (JP (bl:=false) (f:=f) (x:=x) (st:=st) (t:=t) (sn:=sn) hw)
 have l1:=le_trans (List.length_filterMap_le (z8 fg pl b sn z m pt true) (cin t sn true wd f x st)) (JP (bl:=true) (f:=f) (x:=x) (st:=st) (t:=t) (sn:=sn) hw)
 by_cases hx:x = "inside"
 ·have same:stL sn false=stL sn true->((cin t sn false wd f x st).filterMap (z8 fg pl b sn z m pt false)).length+((cin t sn true wd f x st).filterMap (z8 fg pl b sn z m pt true)).length<=42:=fun e=>by
   have e2:cin t sn true wd f x st=cin t sn false wd f x st:=by unfold cin;rw [e]
   rw [e2]
   have tw:=two_ways (fg:=fg) (pl:=pl) (b:=b) (z:=z) (m:=m) (pt:=pt) hs (cin t sn false wd f x st)
   have:=JP (bl:=false) (f:=f) (x:=x) (st:=st) (t:=t) (sn:=sn) hw
   omega
  have zero : ∀ bl c,stL sn bl=[c]->t.take 1≠[c]->cin t sn bl wd f x st=[]:=fun bl c e h=>by
   unfold cin
   rw [if_pos hx,e]
   unfold XC
   rw [if_neg (show ¬ t.take [c].length=[c] from h)];rfl
  have apart : ∀ c d,stL sn false=[c]->stL sn true=[d]->c≠d->((cin t sn false wd f x st).filterMap (z8 fg pl b sn z m pt false)).length+((cin t sn true wd f x st).filterMap (z8 fg pl b sn z m pt true)).length<=42:=fun c d e0 e1 hn=>by
   by_cases h0:t.take 1=[c]
   ·rw [zero true d e1 (fun h=>hn (List.singleton_inj.mp (h0.symm.trans h))),List.filterMap_nil,length_nil];omega
   ·rw [zero false c e0 h0,List.filterMap_nil,length_nil];omega
  have ahead : ∀ c,stL sn false=[]->stL sn true=[c]->fv c < 0->((cin t sn false wd f x st).filterMap (z8 fg pl b sn z m pt false)).length+((cin t sn true wd f x st).filterMap (z8 fg pl b sn z m pt true)).length<=42:=fun c e0 e1 hc=>by
   by_cases h0:t.take 1=[c]
   ·have ht:t.getD 0 0=c:=by
     cases t with
     | nil=>simp at h0
     | cons d r=>simp at h0;rw [h0];rfl
    have hone:=zAw (fg:=fg) (pl:=pl) (b:=b) (z:=z) (m:=m) (pt:=pt) (t:=t) (wd:=wd) (f:=f) e0 hw (by rw [ht];exact hc)
    have e2:cin t sn false wd f x st=(qR t wd f "right").filter (nwd wd st):=by
     unfold cin
     rw [if_pos hx,e0]
     unfold XC
     rw [if_pos (by simp)]
     simp
    rw [e2]
    have:=Jx (g:=z8 fg pl b sn z m pt false) (p:=nwd wd st) (qR t wd f "right")
    omega
   ·rw [zero true c e1 h0,List.filterMap_nil,length_nil];omega
  rcases hs with rfl | rfl | rfl | rfl | rfl
  ·exact ahead 45 (by decide +kernel) (by decide +kernel) (by decide +kernel)
  ·exact apart 43 45 (by decide +kernel) (by decide +kernel) (by decide)
  ·exact apart 32 45 (by decide +kernel) (by decide +kernel) (by decide)
  ·exact ahead 40 (by decide +kernel) (by decide +kernel) (by decide +kernel)
  ·exact same (by decide +kernel)
 ·have e : ∀ bl,cin t sn bl wd f x st=ucs t wd f x st:=fun bl=>by unfold cin;rw [if_neg hx]
  rw [e,e]
  have tw:=two_ways (fg:=fg) (pl:=pl) (b:=b) (z:=z) (m:=m) (pt:=pt) hs (ucs t wd f x st)
  have:=(Yy (t:=t) (f:=f) (x:=x) (st:=st) hw).1
  omega
theorem zFx {t:List Nat} {f:Nat} (hs:yd sn) : ∀ c ∈ cin t sn bl wd f x st,c.length<=t.length+2/\(Asc t->Asc c):=fun c hc=>by
 unfold cin at hc
 split at hc
 ·have hc:=(List.mem_filter.mp hc).1
  obtain ⟨r,hr,rfl⟩:=List.mem_map.mp hc
  unfold XC at hr
  split at hr
  ·have b:=yC r hr
   have sl:=Qj hs bl
   have sa:=We hs bl
   rw [length_drop] at b
   exact ⟨by rw [length_append];omega,fun h=>sa.1.app (b.2 (h.drop _))⟩
  ·cases hr
 ·have b:=yC c (List.mem_filter.mp hc).1
  exact ⟨by omega,b.2⟩
def x4 (K:W.Frag) (C:Addr):Sp:=fun vs H Q _=>∃ (a:Addr) (fg pl b:Int) (sn:Str) (z:Int) (m pt:Nat) (wy:Str) (wd:Int) (f:Nat) (x:Str) (st:Bool) (t:List Nat) (bl:Bool),vs=[.ref a,.str (T t),.bl bl]/\zX K H a C wd f x st (jK fg pl b sn z m pt wy)/\QF fg pl b sn z m pt wy wd f x/\t.length<=300 /\ ∀ l H',zY H H'->H' l=some (.lst (tsV (cin t sn bl wd f x st)))->Q (.ref l) H'
include Z in
theorem yB:Gx P w K mg base CX0 "cores_in" [zH] 5 ["self", "text", "below"] (x4 K zH):=by
 refine W4 Z.a8 (l3N (by intros;rfl)) fun fq fd F=>?_
 refine F.ok qU (fun vs H Q E=>?_) (fun _ _ _ s H vs Q E hr h=>?_)
 ·walk_at "ln"
 obtain ⟨a,fg,pl,b,sn,z,m,pt,wy,wd,f,x,st,t,bl,rfl,F0,ok,ht,q⟩:=h
 refine ⟨_,zC (qD (zS Xk (jb (pv 0) rfl) (zb) (zU _)) (zF (zP (qN (Xc (jt Z) in0) Z.bJ jg hr (pv 0) (zA (pv 1) (zD))))) (zZ))
  (zC (zK (i:=3) qU.nd rfl (Or.inr rfl) (zR zV (zG (Ze Z) hr rfl (zA (jb (pv 0) rfl) (zA (pv 2) (zD)))) (zB) (fun _ _=>rfl)))
  (zC (wE (cl:=[("lead", s.heap.objs.size+1+1)]) (fr:=["lead"]) (is:=[3]) (i:=4) qU.nd rfl (Or.inl rfl) rfl rfl rfl ⟨rfl,trivial⟩ rfl ⟨⟨rfl,rfl,Or.inl rfl⟩,trivial⟩ (by decide) (by decide +kernel) rfl (by decide +kernel) rfl (jX (zG (kv Z :) hr rfl (zA (pv 1) (zA (pv 3) (zA (jb (pv 0) rfl) (zA (jb (pv 0) rfl) (zD))))))) (fun _ _ _ _=>j6) (fun _ _ _ _=>zO zp (pv 1) (pv 0)))
  (zF (zP (jk (cl:=[("self", s.heap.objs.size+1+0)]) (fr:=["self"]) (is:=[0]) rfl rfl ⟨rfl,trivial⟩ rfl ⟨⟨rfl,rfl,Or.inl rfl⟩,trivial⟩ (by decide) (by decide +kernel) rfl (by decide +kernel) rfl (jX (pv 4)) (fun _ _ _ _=>yb (yT (xQ (qN (Xc (qM Z) in0 :) Z.bJ jg hr (pv 1) (zA (pv 0) (zD)))))) (fun _ _ _ _=>pv 0)))))),?_⟩
 walk_at "st"
 have sl:=Qj ok.sn bl
 have w0:=ok.wd1;have w1:=ok.wd2;have o7:=ok.sn
 have ec : ∀ b:Bool,(x = "inside")->cin t sn bl wd f x st=((XC t (stL sn bl) wd f).map fun r=>stL sn bl++r).filter (nwd wd st):=fun _ h=>by unfold cin;rw [if_pos h]
 walk_at "rd"
 ·rename_i hc p0 s0 l1 H1 g1 n1 e1
  have F1:=F0.same g1
  have sl1:=Yq (t:=t) (l:=stL sn bl) (f:=f) w1
  have sb1 : ∀ r ∈ XC t (stL sn bl) wd f,r.length<=t.length:=fun r hr=>by
   unfold XC at hr
   split at hr
   ·have:=(yC r hr).1
    rw [length_drop] at this
    omega
   ·cases hr
  refine qP (SqL.of e1) (qY (by rw [zd];omega)) (fun i ys H'=>H'=H1/\ys=tsV (((XC t (stL sn bl) wd f).take i).map fun r=>stL sn bl++r)) ⟨rfl,rfl⟩ (fun i ys H' hi h=>⟨h.1 ▸ SqL.of e1,by rw [h.2,zd,length_map,length_take];omega⟩) ?_ ?_
  ·rintro i v ys H2 hv hi ⟨rfl,rfl⟩
   obtain ⟨c,hc2,rfl⟩:=yP hv
   have cb:=sb1 c (mem_of_getElem? hc2)
   walk_at "rd"
   refine nxC hi ⟨rfl,?_⟩
   rw [take_succ,hc2,map_append,<- jJ];rfl
  ·rintro ys H2 ⟨rfl,rfl⟩ p2 H3 g3 n3 e3
   rw [take_of_length_le (by rw [zd];exact Nat.le_refl _)] at e3
   have F3:=F1.same g3
   have g03:=g1.trans g3
   generalize hcs:(XC t (stL sn bl) wd f).map (fun r=>stL sn bl++r)=cs at e3
   have lcs:cs.length<=41:=by rw [<- hcs,length_map];exact sl1
   have bcs : ∀ c ∈ cs,c.length<=400:=fun c hc=>by
    rw [<- hcs] at hc
    obtain ⟨r,hr,rfl⟩:=List.mem_map.mp hc
    have:=sb1 r hr
    rw [length_append];omega
   walk_at "rd"
   refine qP (SqL.of e3) (qY (by rw [zd];omega)) (fun i ys H'=>zY H3 H'/\ys=tsV ((cs.take i).filter (nwd wd st))) ⟨zY.refl _,rfl⟩ (fun i ys H' hi h=>⟨SqL.of (h.1.at e3),by rw [h.2,zd];exact le_trans (length_filter_le _ _) (by rw [length_take];omega)⟩) ?_ ?_
   ·rintro i v ys H4 hv hi ⟨g4,rfl⟩
    obtain ⟨c,hc2,rfl⟩:=yP hv
    have F4:=F3.same g4
    have cb:=bcs c (mem_of_getElem? hc2)
    walk_at "rd"
    ·rename_i hk
     refine nxC hi ⟨g4,?_⟩
     rw [YU hc2,filter_cons_of_pos (show nwd wd st c=true from hk),<- jJ];rfl
    ·rename_i hk
     refine nxC hi ⟨g4,?_⟩
     rw [YU hc2,filter_cons_of_neg (show ¬ nwd wd st c=true by unfold nwd;rw [hk];decide),filter_nil,append_nil]
   ·rintro ys H4 ⟨g4,rfl⟩ p4 H5 g5 n5 e5
    rw [take_of_length_le (by rw [zd];exact Nat.le_refl _)] at e5
    exact q _ _ (g03.trans (g4.trans g5)) (by rw [ec true hc,hcs];exact e5)
 ·rename_i hc
  have sx:yg x:=ok.x.elim id fun z=>absurd z hc
  refine km (.num F0) sx (by omega) w0 w1 fun l1 H1 g1 e1=>?_
  exact q _ _ g1 (by unfold cin;rw [if_neg hc];exact e1)
def qu (K:W.Frag) (C:Addr):Sp:=fun vs H Q _=>∃ (a:Addr) (fg pl b:Int) (sn:Str) (z:Int) (m pt:Nat) (wy:Str) (wd:Int) (f:Nat) (x:Str) (st:Bool) (t:List Nat) (bl:Bool),vs=[.ref a,.str (T t),.bl bl]/\zX K H a C wd f x st (jK fg pl b sn z m pt wy)/\QF fg pl b sn z m pt wy wd f x/\Asc t/\t.length<=300 /\ ∀ l H',zY H H'->H' l=some (.lst (((cin t sn bl wd f x st).filterMap (z8 fg pl b sn z m pt bl)).map V.int))->Q (.ref l) H'
theorem wI {a:Addr} {pt:Nat} {f:Nat} {t:List Nat} (h1:zX K H a C wd f x st (jK fg pl b sn z m pt wy)) (h2:QF fg pl b sn z m pt wy wd f x) (h4:Asc t) (h5:t.length<=300) (q : ∀ l H',zY H H'->H' l=some (.lst (((cin t sn bl wd f x st).filterMap (z8 fg pl b sn z m pt bl)).map V.int))->Q (.ref l) H'):qu K C (.ref a::([.str (T t),.bl bl]++[])) H Q E:=⟨a,fg,pl,b,sn,z,m,pt,wy,wd,f,x,st,t,bl,rfl,h1,h2,h4,h5,q⟩
theorem zGJ (g:List Nat->Option Int) (cs:List (List Nat)):((cs.map fun c=>oV (g c)).filter fun v=>decide (v ≠ .non))=(cs.filterMap g).map V.int:=by
 induction cs with
 | nil=>rfl
 | cons c cs ih =>
  rw [map_cons,filterMap_cons]
  cases h:g c with
  | none=>rw [filter_cons_of_neg (by simp [oV]),ih]
  | some k=>rw [filter_cons_of_pos (by simp [oV]),ih];rfl
include Z in
theorem qz:Gx P w K mg base CX0 "numbers_in" [zH] 6 ["self", "text", "below"] (qu K zH):=by
 refine W4 Z.a9 (l3N (by intros;rfl)) fun fq fd F=>?_
 refine F.ok qk (fun vs H Q E=>?_) (fun _ _ _ s H vs Q E hr h=>?_)
 ·walk_at "ln"
 obtain ⟨a,fg,pl,b,sn,z,m,pt,wy,wd,f,x,st,t,bl,rfl,F0,ok,at',ht,q⟩:=h
 refine ⟨_,zC (wE (cl:=[("self", s.heap.objs.size+1+0),("below", s.heap.objs.size+1+1)]) (fr:=["below", "self"]) (is:=[2,0]) (i:=3) qk.nd rfl (Or.inl rfl) rfl rfl rfl ⟨rfl,⟨rfl,trivial⟩⟩ rfl ⟨⟨rfl,rfl,Or.inl rfl⟩,⟨⟨rfl,rfl,Or.inl rfl⟩,trivial⟩⟩ (by decide) (by decide +kernel) rfl (by decide +kernel) rfl (jX (qN (Xc (yB Z) in0 :) Z.bJ jg hr (pv 0) (zA (pv 1) (zA (pv 2) (zD))))) (fun _ _ _ _=>j6) (fun _ _ _ _=>qN (Xc (xM Z) in0 :) Z.bJ jg hr (pv 2) (zA (pv 0) (zA (pv 1) (zD)))))
  (zF (zP (jk (cl:=[]) (fr:=[]) (is:=[]) rfl rfl trivial rfl trivial (by decide) (by decide +kernel) rfl (by decide +kernel) rfl (jX (pv 3)) (fun _ _ _ _=>yb (zS zAi (pv 0) (QX) (zU _))) (fun _ _ _ _=>pv 0)))),?_⟩
 walk_at "st"
 have ul:=JP (t:=t) (sn:=sn) (bl:=bl) (f:=f) (x:=x) (st:=st) ok.wd2
 have ub:=zFx (t:=t) (bl:=bl) (wd:=wd) (f:=f) (x:=x) (st:=st) ok.sn
 walk_at "rd"
 refine ⟨a,fg,pl,b,sn,z,m,pt,wy,wd,f,x,st,t,bl,rfl,F0,ok,ht,fun l1 H1 g1 e1=>?_⟩
 have F1:=F0.same g1
 refine qP (SqL.of e1) (qY (by rw [zd];omega)) (fun i ys H'=>zY H1 H'/\ys=((cin t sn bl wd f x st).take i).map fun c=>oV (z8 fg pl b sn z m pt bl c)) ⟨zY.refl _,rfl⟩ (fun i ys H' hi h=>⟨SqL.of (h.1.at e1),by rw [h.2,length_map,length_take];omega⟩) ?_ ?_
 ·rintro i v ys H2 hv hi ⟨g2,rfl⟩
  obtain ⟨c,hc,rfl⟩:=yP hv
  have F2:=F1.same g2
  have cb:=ub c (mem_of_getElem? hc)
  walk_at "rd"
  refine JC F2 ok (cb.2 at') (by omega) fun H3 g3=>nxC hi ⟨g2.trans g3,?_⟩
  rw [take_succ,hc,map_append];rfl
 ·rintro ys H2 ⟨g2,rfl⟩ p2 H3 g3 n3 e3
  rw [take_of_length_le (by rw [zd];exact Nat.le_refl _)] at e3
  have g03:=g1.trans (g2.trans g3)
  walk_at "rd"
  generalize hks:(cin t sn bl wd f x st).map (fun c=>oV (z8 fg pl b sn z m pt bl c))=ks at e3
  have lk:ks.length<=41:=by rw [<- hks,length_map];exact ul
  refine qP (SqL.of e3) (qY (by omega)) (fun i ys H'=>zY H3 H'/\ys=(ks.take i).filter fun v=>decide (v ≠ .non)) ⟨zY.refl _,rfl⟩ (fun i ys H' hi h=>⟨SqL.of (h.1.at e3),by rw [h.2];exact le_trans (length_filter_le _ _) (by rw [length_take];omega)⟩) ?_ ?_
  ·rintro i v ys H4 hv hi ⟨g4,rfl⟩
   have hm:v ∈ (cin t sn bl wd f x st).map fun c=>oV (z8 fg pl b sn z m pt bl c):=hks ▸ mem_of_getElem? hv
   obtain ⟨c,_,hov⟩:=List.mem_map.mp hm
   cases ho:z8 fg pl b sn z m pt bl c with
   | none =>
    have hov:V.non=v:=by rw [ho] at hov;exact hov
    subst hov
    walk_at "rd"
    refine ⟨rfl,?_⟩
    rw [decide_eq_true rfl]
    walk_at "rd"
    refine nxC hi ⟨g4,?_⟩
    rw [YU hv,filter_cons_of_neg (by simp),filter_nil,append_nil]
   | some k =>
    have hov:V.int k=v:=by rw [ho] at hov;exact hov
    subst hov
    walk_at "rd"
    refine zDc ?_
    walk_at "rd"
    refine nxC hi ⟨g4,?_⟩
    rw [YU hv,filter_cons_of_pos (by simp),filter_nil]
  ·rintro ys H4 ⟨g4,rfl⟩ p4 H5 g5 n5 e5
   rw [take_length,<- hks,zGJ] at e5
   exact q _ _ (g03.trans (g4.trans g5)) e5
noncomputable def nks (fg pl b:Int) (sn:Str) (z:Int) (m pt:Nat) (wd:Int) (f:Nat) (x:Str) (st:Bool) (t:List Nat):List Int:=(cin t sn false wd f x st).filterMap (z8 fg pl b sn z m pt false)++(cin t sn true wd f x st).filterMap (z8 fg pl b sn z m pt true)
def qv (K:W.Frag) (C:Addr):Sp:=fun vs H Q _=>∃ (a:Addr) (fg pl b:Int) (sn:Str) (z:Int) (m pt:Nat) (wy:Str) (wd:Int) (f:Nat) (x:Str) (st:Bool) (t:List Nat),vs=[.ref a,.str (T t)]/\zX K H a C wd f x st (jK fg pl b sn z m pt wy)/\QF fg pl b sn z m pt wy wd f x/\Asc t/\t.length<=300 /\ ∀ l H' us ms,zY H H'->H l=none->H' l=some (.lst us)->ms.Perm (nks fg pl b sn z m pt wd f x st t)->ms.Pairwise (· <= ·)->Al (RT H' (b ^ pl.toNat)) us ms->Q (.ref l) H'
include Z in
theorem xm:Gx P w K mg base CX0 "values_for" [zH] 7 ["self", "text"] (qv K zH):=by
 refine W4 Z.ba (l2N (by intros;rfl)) fun fq fd F=>?_
 refine F.ok qm (fun vs H Q E=>?_) (fun _ _ _ s H vs Q E hr h=>?_)
 ·walk_at "ln"
 obtain ⟨a,fg,pl,b,sn,z,m,pt,wy,wd,f,x,st,t,rfl,F0,ok,at',ht,q⟩:=h
 refine ⟨_,zC (zK (i:=2) qm.nd rfl (Or.inl rfl) (zO WO (qN (Xc (qz Z) in0) Z.bJ jg hr (pv 0) (zA (pv 1) (zA (YB) (zD)))) (qN (Xc (qz Z) in0) Z.bJ jg hr (pv 0) (zA (pv 1) (zA (YB) (zD))))))
  (zF (zP (jk (cl:=[("self", s.heap.objs.size+1+0)]) (fr:=["self"]) (is:=[0]) rfl rfl ⟨rfl,trivial⟩ rfl ⟨⟨rfl,rfl,Or.inl rfl⟩,trivial⟩ (by decide) (by decide +kernel) rfl (by decide +kernel) rfl (jX (zI X8 Z.ay rfl ZY (zA (pv 2) (zD)))) (fun _ _ _ _=>j6) (fun _ _ _ _=>zG (XO Z :) hr rfl (zA (pv 0) (zA (xn (K:=K) rfl (pv 1) rfl) (zA (xn (K:=K) rfl (pv 1) rfl) (zD)))))))),?_⟩
 walk_at "st"
 have tw:=WJ (fg:=fg) (pl:=pl) (b:=b) (z:=z) (m:=m) (pt:=pt) (t:=t) (f:=f) (x:=x) (st:=st) ok.sn ok.wd2
 have o3:=ok.pl1;have o4:=ok.pl2;have o5:=ok.b1;have o6:=ok.b2
 walk_at "rd"
 refine wI F0 ok at' ht fun l1 H1 g1 e1=>?_
 have F1:=F0.same g1
 walk_at "rd"
 refine wI F1 ok at' ht fun l2 H2 g2 e2=>?_
 have F2:=F1.same g2
 have e12:=g2.at e1
 generalize hA:(cin t sn false wd f x st).filterMap (z8 fg pl b sn z m pt false)=A at *
 generalize hB:(cin t sn true wd f x st).filterMap (z8 fg pl b sn z m pt true)=Bs at *
 walk_at "rd"
 refine zG4 e12 e2 (qY (by rw [length_map,length_map];omega)) fun l3 H3 g3 e3=>?_
 rw [<- map_append] at e3
 have F3:=F2.same g3
 walk_at "rd"
 refine zA1 (SqL.of e3) (by rw [length_append];omega) fun ms l4 H4 pm ps g4 e4=>?_
 have F4:=F3.same g4
 have lm:ms.length<=42:=by rw [pm.length_eq,length_append];omega
 refine qP (SqL.of e4) (qY (by rw [length_map];omega)) (fun i ys H'=>zY H4 H'/\Al (RT H' (b ^ pl.toNat)) ys (ms.take i)) ⟨zY.refl _,.nil⟩ (fun i ys H' hi h=>⟨SqL.of (h.1.at e4),by rw [h.2.len,length_take];omega⟩) ?_ ?_
 ·rintro i v ys H5 hv hi ⟨g5,al⟩
  obtain ⟨k,hk,rfl⟩ : ∃ k,ms[i]? = some k/\v = .int k:=by
   rw [getElem?_map] at hv
   cases hc:ms[i]? with
   | none=>rw [hc] at hv;cases hv
   | some c=>rw [hc] at hv;cases hv;exact ⟨c,rfl,rfl⟩
  have F5:=F4.same g5
  walk_at "rd"
  rename_i p6 H6 g6 e6
  refine nxC hi ⟨g5.trans g6,?_⟩
  rw [take_succ,hk]
  exact (al.imp fun _ _ h=>h.same g6).app (.one ⟨p6,rfl,e6⟩)
 ·rintro ys H5 ⟨g5,al⟩ p6 H6 g6 n6 e6
  rw [take_of_length_le (by rw [length_map];exact Nat.le_refl _)] at al
  refine q _ _ _ ms (by walk_at "sm") (none_of (by walk_at "sm") n6) e6 ?_ ps (al.imp fun _ _ h=>h.same g6)
  unfold nks
  rw [hA,hB]
  exact pm
theorem zFY {X:Cx} (e:X.K=K):OpR X (compareOp .In) (rIn K false):=e ▸ Kr
def cvs (ns:List (List Nat)) (t:List Nat) (wd:Int) (f:Nat) (x:Str) (st:Bool):List (List Nat):=ns.filter fun n=>decide (n ∈ ucs t wd f x st)
def qp (K:W.Frag) (C:Addr):Sp:=fun vs H Q _=>∃ (a L:Addr) (ns:List (List Nat)) (wd:Int) (f:Nat) (x:Str) (st:Bool) (t:List Nat),vs=[.ref a,.str (T t)]/\zX K H a C wd f x st (X1 L)/\H L=some (.lst (tsV ns))/\ns.length<=40/\yg x/\0<=wd/\wd<=40/\t.length<=400 /\ ∀ l H',zY H H'->H l=none->H' l=some (.lst (tsV (cvs ns t wd f x st)))->Q (.ref l) H'
include Z in
theorem xl:Gx P w K mg base CX0 "values_for" [zM] 5 ["self", "text"] (qp K zM):=by
 refine W4 Z.bb (l2N (by intros;rfl)) fun fq fd F=>?_
 refine F.ok qt (fun vs H Q E=>?_) (fun _ _ _ s H vs Q E hr h=>?_)
 ·walk_at "ln"
 obtain ⟨a,L,ns,wd,f,x,st,t,rfl,F0,e0,nl,hs,w0,w1,ht,q⟩:=h
 refine ⟨_,zC (zK (i:=2) qt.nd rfl (Or.inr rfl) (qN (Xc (jt Z) in1) Z.bP jg hr (pv 0) (zA (pv 1) (zD))))
  (zF (zP (jk (cl:=[("cores", s.heap.objs.size+1+0)]) (fr:=["cores"]) (is:=[2]) rfl rfl ⟨rfl,trivial⟩ rfl ⟨⟨rfl,rfl,Or.inl rfl⟩,trivial⟩ (by decide) (by decide +kernel) rfl (by decide +kernel) rfl (jX (jb (pv 0) rfl)) (fun _ _ _ _=>yb (zS (zFY (K:=K) rfl) (pv 0) (pv 1) (by with_unfolding_all rfl))) (fun _ _ _ _=>pv 0)))),?_⟩
 walk_at "st"
 walk_at "rd"
 refine km (.cho F0) hs ht w0 w1 fun l1 H1 g1 e1=>?_
 have F1:=F0.same g1
 have e01:=g1.at e0
 walk_at "rd"
 refine qP (SqL.of e01) (qY (by rw [zd];omega)) (fun i ys H'=>zY H1 H'/\ys=tsV ((ns.take i).filter fun n=>decide (n ∈ ucs t wd f x st))) ⟨zY.refl _,rfl⟩ (fun i ys H' hi h=>⟨SqL.of (h.1.at e01),by rw [h.2,zd];exact le_trans (length_filter_le _ _) (by rw [length_take];omega)⟩) ?_ ?_
 ·rintro i v ys H2 hv hi ⟨g2,rfl⟩
  obtain ⟨c,hc,rfl⟩:=yP hv
  have e12:=g2.at e1
  walk_at "rd"
  ·rename_i hk
   refine nxC hi ⟨g2,?_⟩
   rw [YU hc,filter_cons_of_pos (p:=fun n=>decide (n ∈ ucs t wd f x st)) (decide_eq_true hk),<- jJ];rfl
  ·rename_i hk
   refine nxC hi ⟨g2,?_⟩
   rw [YU hc,filter_cons_of_neg (p:=fun n=>decide (n ∈ ucs t wd f x st)) (by simpa using hk),filter_nil,append_nil]
 ·rintro ys H2 ⟨g2,rfl⟩ p2 H3 g3 n3 e3
  rw [take_of_length_le (by rw [zd];exact Nat.le_refl _)] at e3
  exact q _ _ (g1.trans (g2.trans g3)) (none_of (g1.trans g2) n3) e3
def wvs (sg:List Nat) (lo hi:Int) (t:List Nat) (wd:Int) (f:Nat) (x:Str) (st:Bool):List (List Nat):=(ucs t wd f x st).filter fun c=>decide (Isw sg lo hi c)
def jI (K:W.Frag) (C:Addr):Sp:=fun vs H Q _=>∃ (a:Addr) (sg:List Nat) (lo hi:Int) (wd:Int) (f:Nat) (x:Str) (st:Bool) (t:List Nat),vs=[.ref a,.str (T t)]/\zX K H a C wd f x st (yt sg lo hi)/\yg x/\0<=wd/\wd<=40/\t.length<=400 /\ ∀ l H' ds,zY H H'->H l=none->H' l=some (.lst (tsV ds))->ds.Perm (wvs sg lo hi t wd f x st)->SrT ds->Q (.ref l) H'
include Z in
theorem yK:Gx P w K mg base CX0 "values_for" [zL] 5 ["self", "text"] (jI K zL):=by
 refine W4 Z.bc (l2N (by intros;rfl)) fun fq fd F=>?_
 refine F.ok x9 (fun vs H Q E=>?_) (fun _ _ _ s H vs Q E hr h=>?_)
 ·walk_at "ln"
 obtain ⟨a,sg,lo,hi,wd,f,x,st,t,rfl,F0,hs,w0,w1,ht,q⟩:=h
 refine ⟨_,zF (zP (zI Q7 Z.ay rfl ZY (zA (jk (cl:=[("self", s.heap.objs.size+1+0)]) (fr:=["self"]) (is:=[0]) rfl rfl ⟨rfl,trivial⟩ rfl ⟨⟨rfl,rfl,Or.inl rfl⟩,trivial⟩ (by decide) (by decide +kernel) rfl (by decide +kernel) rfl (jX (qN (Xc (jt Z) in2 :) Z.bM jg hr (pv 0) (zA (pv 1) (zD)))) (fun _ _ _ _=>yb (xQ (qN (Xc (kT Z) in0 :) Z.bM jg hr (pv 1) (zA (pv 0) (zD))))) (fun _ _ _ _=>pv 0)) (zD)))),?_⟩
 walk_at "st"
 obtain ⟨ul,ub⟩:=Yy (t:=t) (f:=f) (x:=x) (st:=st) w1
 walk_at "rd"
 refine km (.word F0) hs ht w0 w1 fun l1 H1 g1 e1=>?_
 have F1:=F0.same g1
 refine qP (SqL.of e1) (qY (by rw [zd];omega)) (fun i ys H'=>zY H1 H'/\ys=tsV (((ucs t wd f x st).take i).filter fun c=>decide (Isw sg lo hi c))) ⟨zY.refl _,rfl⟩ (fun i ys H' hi h=>⟨SqL.of (h.1.at e1),by rw [h.2,zd];exact le_trans (length_filter_le _ _) (by rw [length_take];omega)⟩) ?_ ?_
 ·rintro i v ys H2 hv hi' ⟨g2,rfl⟩
  obtain ⟨c,hc,rfl⟩:=yP hv
  have F2:=F1.same g2
  have cb:=(ub c (mem_of_getElem? hc)).1
  walk_at "rd"
  ·rename_i H3 g3 hk
   refine nxC hi' ⟨g2.trans g3,?_⟩
   rw [YU hc,filter_cons_of_pos (p:=fun c=>decide (Isw sg lo hi c)) (by simpa using hk),<- jJ];rfl
  ·rename_i H3 g3 hk
   refine nxC hi' ⟨g2.trans g3,?_⟩
   rw [YU hc,filter_cons_of_neg (p:=fun c=>decide (Isw sg lo hi c)) (by simpa using hk),filter_nil,append_nil]
 ·rintro ys H2 ⟨g2,rfl⟩ p2 H3 g3 n3 e3
  rw [take_of_length_le (by rw [zd];exact Nat.le_refl _)] at e3
  walk_at "rd"
  refine Vw e3 (Nat.lt_of_le_of_lt (length_filter_le _ _) (by omega)) fun ds l4 H4 pm so g4 n4 e4=>?_
  exact q _ _ _ (g1.trans (g2.trans (g3.trans g4))) (none_of (g1.trans (g2.trans g3)) n4) e4 pm so
def k7 (pl b:Int) (sn:Str) (z:Int) (m pt:Nat) (k:Int):List Nat:=bdI k.natAbs b pl pt z m++stT sn (decide (k < 0))
theorem zF4 {n:Int} (o1:1<=fg) (o2:fg<=12) (o3:0<=pl) (o4:pl<=6) (o5:2<=b) (o6:b<=16) (h0:0<=n) (h:Xi fg pl b n):n < 1766847064778384329583297500742918515827483896875618958121606201292619776:=by
 unfold Xi at h
 have a:=zGr (b:=b) (n:=(fg+pl).toNat) o5 o6 (by omega)
 have e:((b.toNat ^ (fg+pl).toNat:Nat):Int)=b ^ (fg+pl).toNat:=by rw [Int.natCast_pow,Int.toNat_of_nonneg (by omega)]
 omega
inductive VlA (H:Hp) (v:V):Fd->List Nat->List Nat->Prop
 | num {p:Addr} {fg pl b:Int} {sn:Str} {z:Int} {m pt:Nat} {wy:Str} {k:Int} (hv:v = .ref p) (hp:H p=some (.tup [.int (QR k (b ^ pl.toNat)),.int (Z5 k (b ^ pl.toNat))])) (lim:Xi fg pl b k):VlA H v (.num fg pl b sn z m pt wy) (stL sn (decide (k < 0))) (k7 pl b sn z m pt k)
 | word {sg:List Nat} {lo hi:Int} {t:List Nat} (hv:v = .str (T t)) (iw:Isw sg lo hi t):VlA H v (.word sg lo hi) [] t
 | cho {ns:Ce} {t:List Nat} (hv:v = .str (T t)) (hm:t ∈ ns):VlA H v (.cho ns) [] t
variable {ld rs:List Nat}
theorem VlA.same (g:zY H H') (h:VlA H v d ld rs):VlA H' v d ld rs:=by
 cases h with
 | num hv hp lim=>exact .num hv (g.at hp) lim
 | word hv iw=>exact .word hv iw
 | cho hv hm=>exact .cho hv hm
def okS (wd:Int) (f:Nat) (x:Str):Fd->Prop
 | .num fg pl b sn z m pt wy=>QF fg pl b sn z m pt wy wd f x
 | .word sg lo hi=>WdS sg lo hi wd f x
 | .cho ns=>ChS ns wd f x
theorem VC.okS {f:Nat} (h:VC K H o cN cW cC wd f x st d):okS wd f x d:=by
 cases h <;> assumption
theorem VlA.ok {f:Nat} (D:okS wd f x d) (h:VlA H v d ld rs):ld.length<=2/\rs.length<=200/\Asc ld/\Asc rs:=by
 cases h with
 | @num q fg pl b sn z m pt wy k hv hp lim =>
  have ok:QF fg pl b sn z m pt wy wd f x:=D
  obtain ⟨nb,n2,n3,n4⟩:=JX ok lim
  have sl:=Qj ok.sn (decide (k < 0))
  have sa:=We ok.sn (decide (k < 0))
  have bs:=Yl (z:=z.toNat) (b:=b.toNat) (p:=pl.toNat) (n:=(k.natAbs:Int).toNat) (by have:=ok.b1;omega) (by have:=ok.b2;omega) (by have:=ok.pl2;omega) nb.2.2.2.2.2 ok.pt ok.m
  refine ⟨by omega,?_,sa.1,?_⟩
  ·unfold k7 bdI;rw [length_append];have:=bs.2.2;omega
  ·unfold k7 bdI;exact bs.2.1.app sa.2
 | @word sg lo hi t hv iw =>
  have ok:WdS sg lo hi wd f x:=D
  have h1:=iw.1.2;have h2:=ok.hi2
  exact ⟨by decide,by omega,Asc.nil,fun c hc=>ok.sa c (iw.2 c hc)⟩
 | @cho ns t hv hm =>
  have ok:ChS ns wd f x:=D
  exact ⟨by decide,le_trans (ok.len _ hm) (by decide),Asc.nil,ok.ta _ hm⟩
theorem zAf {b p pt z:Nat} (h2:2<=b) (h16:b<=16) (hp:p<=6) (h:n < b ^ (40+p)):IsB b p pt z m (bdy b p pt z m n)/\VY b p z (bdy b p pt z m n)=n:=by
 obtain ⟨d1,d2,d3,d4,d5⟩:=ZG h2 h16 hp h
 have ul:(whl b p n).length=(dgs b p n).length - p:=by unfold whl;rw [length_take];omega
 have rl:(rst b p n).length=p:=by unfold rst;rw [length_drop];omega
 have ur:whl b p n++rst b p n=dgs b p n:=List.take_append_drop _ _
 generalize hu:whl b p n=u at *
 generalize hr:rst b p n=r at *
 generalize dgs b p n=D at *
 have key:WE p pt (bdy b p pt z m n)/\qx p (bdy b p pt z m n)=gr z m u/\kE p (bdy b p pt z m n)=r:=by
  unfold bdy WE qx kE
  rw [hu,hr]
  rcases Nat.eq_zero_or_pos p with e | e
  ·subst e
   rw [if_pos rfl]
   exact ⟨.inl rfl,rfl,(List.length_eq_zero_iff.mp rl).symm⟩
  ·rw [if_neg (by omega),if_neg (by omega),if_neg (by omega)]
   have tl:(gr z m u++[pt]++r).length=(gr z m u).length+1+p:=by rw [length_append,length_append,rl];rfl
   rw [tl]
   have e1:(gr z m u).length+1+p - p - 1=(gr z m u).length:=by omega
   have e2:(gr z m u).length+1+p - p=(gr z m u++[pt]).length:=by rw [length_append,length_singleton];omega
   refine ⟨.inr ⟨by omega,?_⟩,?_,?_⟩
   ·rw [e1,append_assoc,getD_eq_getElem?_getD,List.getElem?_append_right (Nat.le_refl _),Nat.sub_self];rfl
   ·rw [e1,append_assoc,take_left]
   ·rw [e2,drop_left]
 obtain ⟨k1,k2,k3⟩:=key
 unfold IsB VY
 rw [k2,k3,zAK,ur]
 refine ⟨⟨k1,⟨by rw [zAK];omega,by rw [zAK];omega,by rw [zAK]⟩,d1,?_⟩,d2⟩
 rintro ⟨a,c⟩
 have:D.getD 0 0=48:=by rw [<- ur,getD_eq_getElem?_getD,List.getElem?_append_left (by omega),<- getD_eq_getElem?_getD];exact c
 have:=d5 this
 omega
variable {B:List Nat}
theorem WD:bod sn bl (sg sn bl B)=B:=by
 unfold bod sg
 rw [length_append,Nat.add_sub_cancel,take_left,drop_left]
theorem xZ {pt:Nat}:x5 pl b sn z m pt k=stL sn (decide (k < 0))++k7 pl b sn z m pt k:=by unfold x5 sg k7;rw [append_assoc]
theorem VR {pt:Nat} {f:Nat} (ok:QF fg pl b sn z m pt wy wd f x) (h:Xi fg pl b k):z8 fg pl b sn z m pt (decide (k < 0)) (x5 pl b sn z m pt k)=some k:=by
 obtain ⟨nb,n2,n3,n4⟩:=JX ok h
 obtain ⟨B,rfl⟩:=eq_ofNat_of_zero_le (show 0<=b by have:=ok.b1;omega)
 have o5:=ok.b1;have o6:=ok.b2;have o4:=ok.pl2;have o3:=ok.pl1
 have nb6:=nb.2.2.2.2.2
 rw [toNat_natCast,toNat_natCast] at nb6
 obtain ⟨i1,i2⟩:=zAf (b:=B) (p:=pl.toNat) (pt:=pt) (z:=z.toNat) (m:=m) (n:=k.natAbs) (by omega) (by omega) (by omega) nb6
 have eb:bod sn (decide (k < 0)) (x5 pl B sn z m pt k)=bdy B pl.toNat pt z.toNat m k.natAbs:=by
  unfold x5;rw [WD];unfold bdI;rw [toNat_natCast,toNat_natCast]
 have pe:((B ^ (fg+pl).toNat:Nat):Int)=(B:Int) ^ (fg+pl).toNat:=Int.natCast_pow ..
 unfold Xi at h
 rw [toNat_natCast] at h
 unfold z8
 rw [eb,i2,if_pos ⟨n2,i1,by omega,fun e=>by have:=of_decide_eq_true e;omega⟩]
 by_cases e:k < 0
 ·rw [if_pos (decide_eq_true e)];congr 1;omega
 ·rw [if_neg (by simpa using e)];congr 1;omega
theorem KB {f:Nat} (hf:f < 127):Asc (List.replicate n f):=fun c hc=>by rw [(List.mem_replicate.mp hc).2];exact hf
theorem Ks {t:List Nat} {f:Nat} (h:Asc t) (hf:f < 127):Asc (pad t wd f x):=((KB hf).app h).app (KB hf)
theorem zDD {f:Nat} (sx:XY x) (w0:0<=wd) (hw:wd<=40) (hf:f < 127) (l1:ld.length<=2) (l2:rs.length<=200) (a1:Asc ld) (a2:Asc rs):Asc (QE ld (ld++rs) wd f x)/\(QE ld (ld++rs) wd f x).length<=250:=by
 unfold QE
 split
 ·rw [drop_left]
  have pl:=JM (f:=f) (xI (x:="right") (n:=rs.length) (w:=wd - ld.length) (.inr (.inl rfl)) (by omega) (by omega))
  have b2:=wZ rs.length (wd - ld.length) (by omega) (by omega)
  exact ⟨a1.app (Ks a2 hf),by rw [length_append];omega⟩
 ·rename_i hc
  have sx':yg x:=sx.elim id fun z=>absurd z hc
  have pl:=JM (f:=f) (xI (x:=x) (n:=(ld++rs).length) (w:=wd) sx' (by omega) hw)
  have b2:=wZ (ld++rs).length wd (by omega) hw
  rw [length_append] at pl b2
  exact ⟨Ks (a1.app a2) hf,by omega⟩
def sD (t:List Nat):PyData:=.str (T t)
def rD (S k:Int):PyData:=.tuple [.int (QR k S),.int (Z5 k S)]
theorem Xp {t:List Nat} {f:Nat} (sx:yg x) (hw:wd<=40) {c:List Nat}:c ∈ ucs t wd f x st↔pad c wd f x=t/\nwd wd st c=true:=by
 unfold ucs
 rw [mem_filter,kj sx hw]
theorem J8 {t:List Nat} {f:Nat} (sx:yg x) (hw:wd<=40):(ucs t wd f x st).Nodup:=List.Pairwise.filter _ (yU sx hw)
theorem xW {pt:Nat} {f:Nat} {c:List Nat} (ok:QF fg pl b sn z m pt wy wd f x) (h:z8 fg pl b sn z m pt bl c=some k):Xi fg pl b k/\decide (k < 0)=bl/\c=x5 pl b sn z m pt k:=by
 have o1:=ok.fg1;have o2:=ok.fg2;have o3:=ok.pl1;have o4:=ok.pl2;have o5:=ok.b1;have o6:=ok.b2
 obtain ⟨B,rfl⟩:=eq_ofNat_of_zero_le (show 0<=b by omega)
 unfold z8 at h
 split at h
 ·rename_i a
  obtain ⟨sd,ib,lt,pos⟩:=a
  obtain ⟨v0,v1,v2⟩:=zAg (b:=B) (p:=pl.toNat) (by omega) (by omega) (by omega) ib
  have pe:((B ^ (fg+pl).toNat:Nat):Int)=(B:Int) ^ (fg+pl).toNat:=Int.natCast_pow ..
  generalize hv:VY (B:Int) pl.toNat z.toNat (bod sn bl c)=v at *
  have fin:decide (k < 0)=bl/\k.natAbs=v.toNat:=by
   cases bl with
   | true =>
    have p:=pos rfl
    rw [if_pos rfl] at h
    have:k = -v:=by cases h;rfl
    exact ⟨decide_eq_true (by omega),by omega⟩
   | false =>
    rw [if_neg (by decide)] at h
    have:k=v:=by cases h;rfl
    exact ⟨decide_eq_false (by omega),by omega⟩
  refine ⟨by unfold Xi;rw [toNat_natCast,fin.2];omega,fin.1,?_⟩
  unfold x5 bdI
  rw [fin.1,toNat_natCast,toNat_natCast,fin.2,v2]
  exact sd.2.symm
 ·cases h
theorem Wv {t:List Nat} {f:Nat} (sx:XY x) (hw:wd<=40):stL sn bl++rs ∈ cin t sn bl wd f x st↔QE (stL sn bl) (stL sn bl++rs) wd f x=t/\nwd wd st (stL sn bl++rs)=true:=by
 unfold cin QE
 split
 ·rw [drop_left,mem_filter]
  refine and_congr ?_ Iff.rfl
  rw [mem_map]
  unfold XC
  constructor
  ·rintro ⟨r,hr,e⟩
   rw [append_cancel_left e] at hr
   split at hr
   ·rename_i ht
    rw [kj (.inr (.inl rfl)) (by omega)] at hr
    rw [hr]
    conv=>rhs;rw [<- List.take_append_drop (stL sn bl).length t,ht]
   ·cases hr
  ·intro e
   refine ⟨rs,?_,rfl⟩
   rw [if_pos (by rw [<- e,take_left]),kj (.inr (.inl rfl)) (by omega),<- e,drop_left]
 ·rename_i hx
  exact Xp (sx.elim id fun z=>absurd z hx) hw
theorem Kf {pt:Nat} {f:Nat} {t:List Nat} (ok:QF fg pl b sn z m pt wy wd f x):k ∈ nks fg pl b sn z m pt wd f x st t↔Xi fg pl b k/\nwd wd st (x5 pl b sn z m pt k)=true/\QE (stL sn (decide (k < 0))) (x5 pl b sn z m pt k) wd f x=t:=by
 have half : ∀ bl,k ∈ (cin t sn bl wd f x st).filterMap (z8 fg pl b sn z m pt bl)↔decide (k < 0)=bl/\Xi fg pl b k/\nwd wd st (x5 pl b sn z m pt k)=true/\QE (stL sn (decide (k < 0))) (x5 pl b sn z m pt k) wd f x=t:=fun bl=>by
  rw [List.mem_filterMap]
  constructor
  ·rintro ⟨c,hc,hn⟩
   obtain ⟨l,e,rfl⟩:=xW ok hn
   rw [xZ,e] at hc
   have:=(Wv ok.x ok.wd2).mp hc
   rw [<- e,<- xZ] at this
   exact ⟨e,l,this.2,this.1⟩
  ·rintro ⟨e,l,h1,h2⟩
   refine ⟨x5 pl b sn z m pt k,?_,by rw [<- e];exact VR ok l⟩
   rw [xZ,e]
   refine (Wv ok.x ok.wd2).mpr ?_
   rw [<- e,<- xZ]
   exact ⟨h2,h1⟩
 unfold nks
 rw [List.mem_append,half,half]
 constructor
 ·rintro (h | h) <;> exact h.2
 ·intro h
  cases e:decide (k < 0)
  ·rw [e] at h;exact .inl ⟨rfl,h⟩
  ·rw [e] at h;exact .inr ⟨rfl,h⟩
theorem Kv {t:List Nat} {f:Nat} (sx:XY x) (hw:wd<=40):(cin t sn bl wd f x st).Nodup:=by
 unfold cin
 split
 ·refine List.Pairwise.filter _ ?_
  refine List.pairwise_map.mpr ?_
  unfold XC
  split
  ·exact (yU (.inr (.inl rfl)) (by omega)).imp fun h e=>h (append_cancel_left e)
  ·exact List.Pairwise.nil
 ·rename_i hx
  exact J8 (sx.elim id fun z=>absurd z hx) hw
theorem K3 {pt:Nat} {f:Nat} {t:List Nat} (ok:QF fg pl b sn z m pt wy wd f x):(nks fg pl b sn z m pt wd f x st t).Nodup:=by
 unfold nks
 have half : ∀ bl,((cin t sn bl wd f x st).filterMap (z8 fg pl b sn z m pt bl)).Nodup:=fun bl=>by
  refine List.pairwise_filterMap.mpr ((Kv ok.x ok.wd2).imp ?_)
  intro a a' hne k hk k' hk' e
  subst e
  exact hne ((xW ok hk).2.2.trans (xW ok hk').2.2.symm)
 refine List.nodup_append.mpr ⟨half false,half true,fun k hk k' hk' e=>?_⟩
 subst e
 obtain ⟨c,_,h1⟩:=List.mem_filterMap.mp hk
 obtain ⟨c',_,h2⟩:=List.mem_filterMap.mp hk'
 have:=(xW ok h1).2.1.symm.trans (xW ok h2).2.1
 cases this
theorem Al.map {α β:Type} {R:V->β->Prop} {g:α->β} {vs:List V} {as:List α} (h:Al (fun v a=>R v (g a)) vs as):Al R vs (as.map g):=by
 induction h with
 | nil=>exact .nil
 | cons h _ ih=>exact .cons h ih
theorem VG {c:List Nat}:nwd wd st c=true↔(st && decide (wd < (c.length:Int)))=false:=by
 unfold nwd;cases (st && decide (wd < (c.length:Int))) <;> simp
inductive Vc where
 | n (k:Int)
 | t (t:List Nat)
def VcN (H:Hp) (v:V):Fd->Vc->Prop
 | .num _ pl b _ _ _ _ _,.n k=>∃ p,v = .ref p/\H p=some (.tup [.int (QR k (b ^ pl.toNat)),.int (Z5 k (b ^ pl.toNat))])
 | .word _ _ _,.t t=>v = .str (T t)
 | .cho _,.t t=>v = .str (T t)
 | _,_=>False
def Vok:Fd->Vc->Prop
 | .num fg pl b _ _ _ _ _,.n k=>Xi fg pl b k
 | .word sg lo hi,.t t=>Isw sg lo hi t
 | .cho ns,.t t=>t ∈ ns
 | _,_=>False
def pr:Fd->Vc->List Nat × List Nat
 | .num _ pl b sn z m pt _,.n k=>(stL sn (decide (k < 0)),k7 pl b sn z m pt k)
 | _,.t t=>([],t)
 | _,_=>([],[])
def Tld (wd:Int) (f:Nat) (x:Str) (st:Bool) (t:List Nat) (d:Fd) (c:Vc):Prop:=Vok d c/\(st && decide (wd < (((pr d c).1++(pr d c).2).length:Int)))=false/\QE (pr d c).1 ((pr d c).1++(pr d c).2) wd f x=t
def Ris:Fd->Vc->Vc->Prop
 | .num _ _ _ _ _ _ _ _,.n k,.n k'=>k < k'
 | .word _ _ _,.t t,.t t'=>t < t'
 | .cho ns,.t t,.t t'=>∃ a b:Nat,a < b/\ns[a]? = some t/\ns[b]? = some t'
 | _,_,_=>False
theorem VcN.same {c:Vc} (g:zY H H') (h:VcN H v d c):VcN H' v d c:=by
 cases d <;> cases c <;> first | exact h | (obtain ⟨p,e,k⟩:=h;exact ⟨p,e,g.at k⟩)
theorem VcN.vl {c:Vc} (h:VcN H v d c) (o:Vok d c):VlA H v d (pr d c).1 (pr d c).2:=by
 cases d with
 | num fg pl b sn z m pt wy=>cases c with
  | n k=>obtain ⟨p,e,hp⟩:=h;exact .num e hp o
  | t t=>exact h.elim
 | word sg lo hi=>cases c with
  | n k=>exact h.elim
  | t t=>exact .word h o
 | cho ns=>cases c with
  | n k=>exact h.elim
  | t t=>exact .cho h o
theorem Vok.ok {f:Nat} {c:Vc} (D:okS wd f x d) (o:Vok d c):(pr d c).1.length<=2/\(pr d c).2.length<=200/\Asc (pr d c).1/\Asc (pr d c).2:=by
 cases d with
 | num fg pl b sn z m pt wy=>cases c with
  | n k=>exact VlA.ok (H:=fun _=>some (.tup [.int (QR k (b ^ pl.toNat)),.int (Z5 k (b ^ pl.toNat))])) (v:=.ref default) D (.num rfl rfl o)
  | t t=>exact o.elim
 | word sg lo hi=>cases c with
  | n k=>exact o.elim
  | t t=>exact VlA.ok (H:=fun _=>none) (v:=.str (T t)) D (.word rfl o)
 | cho ns=>cases c with
  | n k=>exact o.elim
  | t t=>exact VlA.ok (H:=fun _=>none) (v:=.str (T t)) D (.cho rfl o)
theorem ZI {α:Type} {l:List α} (h:l.Nodup) {i j:Nat} {a:α} (hi:l[i]? = some a) (hj:l[j]? = some a):i=j:=by
 obtain ⟨h1,e1⟩:=List.getElem?_eq_some_iff.mp hi
 obtain ⟨h2,e2⟩:=List.getElem?_eq_some_iff.mp hj
 have pw:=List.pairwise_iff_getElem.mp h
 rcases Nat.lt_trichotomy i j with z | z | z
 ·exact absurd (e1.trans e2.symm) (pw i j h1 h2 z)
 ·exact z
 ·exact absurd (e2.trans e1.symm) (pw j i h2 h1 z)
theorem Ris.asym {f:Nat} (D:okS wd f x d) {c c':Vc} (h:Ris d c c') : ¬ Ris d c' c:=by
 intro h'
 cases d with
 | num fg pl b sn z m pt wy=>cases c <;> cases c' <;> first | exact h.elim | (have h:_ < _:=h;have h':_ < _:=h';omega)
 | word sg lo hi=>cases c <;> cases c' <;> first | exact h.elim | exact (List.not_lt.mpr (List.le_of_lt h)) h'
 | cho ns=>cases c <;> cases c' <;> first | exact h.elim | (
   obtain ⟨a,b,l,e1,e2⟩:=h
   obtain ⟨a',b',l',e1',e2'⟩:=h'
   have nd:ns.Nodup:=(show ChS ns wd f x from D).nd
   have z1:=ZI nd e1 e2'
   have z2:=ZI nd e2 e1'
   omega)
theorem yZ {α:Type} {R:α->α->Prop} (as : ∀ {a b},R a b -> ¬ R b a) : ∀ {l m:List α},l.Pairwise R->m.Pairwise R->(∀ a,a ∈ l↔a ∈ m)->l=m
 | [],[],_,_,_=>rfl
 | [],b::m,_,_,h=>absurd ((h b).mpr (mem_cons_self ..)) (not_mem_nil)
 | a::l,[],_,_,h=>absurd ((h a).mp (mem_cons_self ..)) (not_mem_nil)
 | a::l,b::m,p,q,h=>by
  obtain ⟨p1,p2⟩:=List.pairwise_cons.mp p
  obtain ⟨q1,q2⟩:=List.pairwise_cons.mp q
  have e:a=b:=by
   rcases List.mem_cons.mp ((h a).mp (mem_cons_self ..)) with z | z
   ·exact z
   ·rcases List.mem_cons.mp ((h b).mpr (mem_cons_self ..)) with y | y
    ·exact y.symm
    ·exact absurd (q1 a z) (as (p1 b y))
  subst e
  rw [yZ as p2 q2 fun c=>?_]
  constructor
  ·intro z
   rcases List.mem_cons.mp ((h c).mp (mem_cons_of_mem _ z)) with y | y
   ·subst y;exact absurd (p1 c z) (as (p1 c z))
   ·exact y
  ·intro z
   rcases List.mem_cons.mp ((h c).mpr (mem_cons_of_mem _ z)) with y | y
   ·subst y;exact absurd (q1 c z) (as (q1 c z))
   ·exact y
structure zGE (wd:Int) (f:Nat) (x:Str) (st:Bool) (t:List Nat) (d:Fd) (cs:List Vc):Prop where
 up:cs.Pairwise (Ris d)
 mem : ∀ c,c ∈ cs↔Tld wd f x st t d c
 len:cs.length<=42
theorem zGE.eq {f:Nat} {t:List Nat} {cs cs':List Vc} (D:okS wd f x d) (h:zGE wd f x st t d cs) (h':zGE wd f x st t d cs'):cs=cs':=yZ (Ris.asym D) h.up h'.up fun c=>(h.mem c).trans (h'.mem c).symm
theorem ku {α:Type} {R:α->α->Prop} (tr : ∀ {a b c},R a b->R b c->R a c) : ∀ {l:List α},(∀ i a b,l[i]? = some a->l[i+1]? = some b->R a b)->l.Pairwise R
 | [],_=>.nil
 | [a],_=>List.pairwise_cons.mpr ⟨fun _ h=>absurd h not_mem_nil,.nil⟩
 | a::b::l,h=>by
  have ih:=ku (R:=R) tr (l:=b::l) fun i u v (hu:(b::l)[i]? = some u) (hv:(b::l)[i+1]? = some v)=>h (i+1) u v hu hv
  have ab:=h 0 a b rfl rfl
  refine List.pairwise_cons.mpr ⟨fun c hc=>?_,ih⟩
  rcases List.mem_cons.mp hc with rfl | hc
  ·exact ab
  ·exact tr ab ((List.pairwise_cons.mp ih).1 c hc)
theorem zBs {f:Nat} {t:List Nat} {σ:St} {ta:TE} {tt:TA} (F:VC K H o cN cW cC wd f x st d) (at':Asc t) (tl:t.length<=300)
  (hta : ∀ Q':VK,Q' (.ref o) H->ta σ H Q') (ht : ∀ Q':List V->Hp->Prop,Q' [.str (T t)] H->tt σ H Q') (q : ∀ l H' us cs,zY H H'->H l=none->H' l=some (.lst us)->Al (fun v c=>VcN H' v d c) us cs->zGE wd f x st t d cs->Q (.ref l) H') :
  zEa (VZ cN "values_for" (qv K cN) [] E ta tt) (zEa (VZ cW "values_for" (jI K cW) [] E ta tt) (VZ cC "values_for" (qp K cC) [] E ta tt)) σ H Q:=by
 obtain ⟨_,_,_,sx,w0,w1⟩:=F.bd
 cases F with
 | @num fg pl b sn z m pt wy F ok =>
  refine zAe (Yv (hta _ (JO (Ke F (by decide +kernel) (by decide +kernel)) (ht _ ?_))))
  refine ⟨o,_,_,_,_,_,_,_,_,_,_,_,_,_,rfl,F,ok,at',tl,fun l H' us ms g nl e pm srt al=>?_⟩
  have nd:ms.Nodup:=pm.nodup_iff.mpr (K3 ok)
  have hl:ms.length<=42:=by
   have:=WJ (fg:=fg) (pl:=pl) (b:=b) (z:=z) (m:=m) (pt:=pt) (t:=t) (f:=f) (x:=x) (st:=st) ok.sn ok.wd2
   rw [pm.length_eq];unfold nks;rw [length_append];exact this
  refine q l H' us (ms.map .n) g nl e (Al.map al) ⟨?_,fun c=>?_,by rw [length_map];exact hl⟩
  ·refine List.pairwise_map.mpr ((List.Pairwise.and nd srt).imp ?_)
   intro a b h
   show a < b
   have h1:=h.1;have h2:=h.2
   omega
  ·rw [mem_map]
   constructor
   ·rintro ⟨k,hk,rfl⟩
    obtain ⟨l1,l2,l3⟩:=(Kf ok).mp (pm.mem_iff.mp hk)
    have nc:=xZ (pl:=pl) (b:=b) (sn:=sn) (z:=z) (m:=m) (pt:=pt) (k:=k)
    exact ⟨l1,by show (st && decide (wd < ((stL sn (decide (k < 0))++k7 pl b sn z m pt k).length:Int)))=false;rw [<- nc];exact VG.mp l2,by show QE (stL sn (decide (k < 0))) (stL sn (decide (k < 0))++k7 pl b sn z m pt k) wd f x=t;rw [<- nc];exact l3⟩
   ·rintro ⟨h1,h2,h3⟩
    cases c with
    | t t=>exact h1.elim
    | n k =>
     have nc:=xZ (pl:=pl) (b:=b) (sn:=sn) (z:=z) (m:=m) (pt:=pt) (k:=k)
     have h2:(st && decide (wd < ((stL sn (decide (k < 0))++k7 pl b sn z m pt k).length:Int)))=false:=h2
     have h3:QE (stL sn (decide (k < 0))) (stL sn (decide (k < 0))++k7 pl b sn z m pt k) wd f x=t:=h3
     rw [<- nc] at h2 h3
     exact ⟨k,pm.mem_iff.mpr ((Kf ok).mpr ⟨h1,VG.mpr h2,h3⟩),rfl⟩
 | @word sg lo hi F ok =>
  refine VN (zAe (Yv (hta _ (JO (K0 F (by decide +kernel) (by decide +kernel) (by decide +kernel) (by decide +kernel)) (ht _ ?_)))))
  refine ⟨o,_,_,_,_,_,_,_,_,rfl,F,ok.x,w0,w1,by omega,fun l H' ds g nl e pm so=>?_⟩
  have mi : ∀ c,c ∈ ds↔(pad c wd f x=t/\nwd wd st c=true)/\Isw sg lo hi c:=fun c=>by
   rw [pm.mem_iff];unfold wvs;rw [mem_filter,Xp ok.x w1,decide_eq_true_iff]
  have nd:ds.Nodup:=pm.nodup_iff.mpr (List.Pairwise.filter _ (J8 ok.x w1))
  have hl:ds.length<=42:=by
   have:=(Yy (t:=t) (f:=f) (x:=x) (st:=st) w1).1
   rw [pm.length_eq];exact le_trans (length_filter_le _ _) (by omega)
  have nx:=Yw ok.x
  refine q l H' _ (ds.map .t) g nl e ?_ ⟨?_,fun c=>?_,by rw [length_map];exact hl⟩
  ·refine Al.map ?_
   clear pm nd hl mi e so
   induction ds with
   | nil=>exact .nil
   | cons c ds ih=>exact .cons rfl ih
  ·refine List.pairwise_map.mpr (ku (R:=fun a b:List Nat=>a < b) (fun h k=>List.lt_trans h k) fun i a b ha hb=>Jj so ha hb fun z=>?_)
   have:=ZI nd (z ▸ ha) hb
   omega
  ·rw [mem_map]
   constructor
   ·rintro ⟨c,hc,rfl⟩
    obtain ⟨⟨h1,h2⟩,h3⟩:=(mi _).mp hc
    exact ⟨h3,VG.mp h2,by show QE [] c wd f x=t;unfold QE;rw [if_neg nx];exact h1⟩
   ·rintro ⟨h1,h2,h3⟩
    cases c with
    | n k=>exact h1.elim
    | t c =>
     have h3:QE [] c wd f x=t:=h3
     unfold QE at h3;rw [if_neg nx] at h3
     exact ⟨c,(mi c).mpr ⟨⟨h3,VG.mpr h2⟩,h1⟩,rfl⟩
 | @cho L ns F e0 ok =>
  refine VN (VN (Yv (hta _ (JO (KL F (by decide +kernel) (by decide +kernel)) (ht _ ?_)))))
  refine ⟨o,_,_,_,_,_,_,_,rfl,F,e0,by have:=ok.n2;omega,ok.x,w0,w1,by omega,fun l H' g nl e=>?_⟩
  have nx:=Yw ok.x
  have mi : ∀ c,c ∈ cvs ns t wd f x st↔c ∈ ns/\(pad c wd f x=t/\nwd wd st c=true):=fun c=>by
   unfold cvs;rw [mem_filter,decide_eq_true_iff,Xp ok.x w1]
  have hl:(cvs ns t wd f x st).length<=42:=le_trans (length_filter_le _ _) (by have:=ok.n2;omega)
  have pw:(cvs ns t wd f x st).Pairwise fun t t'=>∃ a b:Nat,a < b/\ns[a]? = some t/\ns[b]? = some t':=
   List.Pairwise.filter _ (List.pairwise_iff_getElem.mpr fun i j hi hj hij=>⟨i,j,hij,getElem?_eq_getElem hi,getElem?_eq_getElem hj⟩)
  refine q l H' _ ((cvs ns t wd f x st).map .t) g nl e ?_ ⟨List.pairwise_map.mpr pw,fun c=>?_,by rw [length_map];exact hl⟩
  ·refine Al.map ?_
   clear hl mi e pw
   generalize cvs ns t wd f x st=ds
   induction ds with
   | nil=>exact .nil
   | cons c ds ih=>exact .cons rfl ih
  ·rw [mem_map]
   constructor
   ·rintro ⟨c,hc,rfl⟩
    obtain ⟨h3,h1,h2⟩:=(mi _).mp hc
    exact ⟨h3,VG.mp h2,by show QE [] c wd f x=t;unfold QE;rw [if_neg nx];exact h1⟩
   ·rintro ⟨h1,h2,h3⟩
    cases c with
    | n k=>exact h1.elim
    | t c =>
     have h3:QE [] c wd f x=t:=h3
     unfold QE at h3;rw [if_neg nx] at h3
     exact ⟨c,(mi c).mpr ⟨h1,h3,VG.mpr h2⟩,rfl⟩
def RP (H:Hp) (P:Addr->Prop) (v:V) (x:Ce × Ce):Prop:=∃ t a b,v = .ref t/\(P t/\P a/\P b)/\H t=some (.tup [.ref a,.ref b])/\H a=some (.lst (tsV x.1))/\H b=some (.lst (tsV x.2))
theorem RL.same {P:Addr->Prop} {cs:Ce} (g:zY H H') (h:RL H P v cs):RL H' P v cs:=let ⟨q,e,p,k⟩:=h;⟨q,e,p,g.at k⟩
theorem RP.same {P:Addr->Prop} {x:Ce × Ce} (g:zY H H') (h:RP H P v x):RP H' P v x:=let ⟨t,a,b,e,p,k,k1,k2⟩:=h;⟨t,a,b,e,p,g.at k,g.at k1,g.at k2⟩
theorem zAL (l:Ce) (n:Nat):(tsV l).take n=tsV (l.take n):=by unfold tsV;rw [List.map_take]
theorem zAu (l:Ce) (n:Nat):(tsV l).drop n=tsV (l.drop n):=by unfold tsV;rw [List.map_drop]
section
variable {K : W.Frag} {H : Hp} {Q : VK}
theorem zCW {c:List Nat} (q : ∀ p H',zY H H'->H p=none->H' p=some (.lst (tsV [c]))->Q (.ref p) H'):zFy Q [.str (T c)] H:=Zp (qY (by simp only [length_cons,length_nil];decide)) fun p H1 g n e=>q p H1 g n e
theorem zDL (q : ∀ p H',zY H H'->H p=none->H' p=some (.lst (tsV []))->Q (.ref p) H'):zFy Q [] H:=Zp (qY (by simp only [length_cons,length_nil];decide)) fun p H1 g n e=>q p H1 g n e
variable {xs:Ce}
theorem zBg {l b:Addr} {zs:Ce} (h1:H l=some (.lst (tsV xs))) (h2:H b=some (.lst (tsV zs))) (hz:xs.length+zs.length<=900) (q : ∀ p H',zY H H'->H p=none->H' p=some (.lst (tsV (xs++zs)))->Q (.ref p) H'):zGn (.ref l) (.ref b) H Q:=
 ⟨l,b,_,_,rfl,rfl,h1,h2,Nat.le_of_lt (qV (by rw [zd,zd];omega)),fun p hp=>q p _ (qK (zY.refl _) hp) hp (by rw [zQ];unfold tsV;rw [map_append])⟩
theorem zE4 {a:Addr} {ys:Ce} {lo hi:Option Int} (h:H a=some (.lst (tsV xs))) (e:(xs.drop (HT.sIx xs.length 0 lo)).take (HT.sIx xs.length xs.length hi - HT.sIx xs.length 0 lo)=ys) (q : ∀ p H',zY H H'->H p=none->H' p=some (.lst (tsV ys))->Q (.ref p) H'):zGA K (.ref a) lo hi H Q:=
 ⟨a,_,rfl,SqL.of h,fun p hp=>q p _ (qK (zY.refl _) hp) hp (by rw [zQ,<- e];unfold V9;rw [zd,zAu,zAL])⟩
theorem Yn {d:Nat} {v:Int} (h:0<=v):HT.sIx n d (some v)=min v.toNat n:=by
 show (if v < 0 then (v+(n:Int)).toNat else min v.toNat n)=_
 rw [if_neg (by omega)]
theorem zFC {a:Addr} {j:Int} (h:H a=some (.lst (tsV xs))) (h1:0<=j) (q : ∀ p H',zY H H'->H p=none->H' p=some (.lst (tsV (xs.take j.toNat)))->Q (.ref p) H'):zGA K (.ref a) none (some j) H Q:=by
 refine zE4 h ?_ q
 rw [HT.sIx_none,Yn h1,List.drop_zero,Nat.sub_zero]
 rcases Nat.le_total j.toNat xs.length with y | y
 ·rw [Nat.min_eq_left y]
 ·rw [Nat.min_eq_right y,take_length,take_of_length_le y]
theorem zAq {a:Addr} (h:H a=some (.lst (tsV xs))) (h0:0<=i) (q : ∀ p H',zY H H'->H p=none->H' p=some (.lst (tsV (xs.drop i.toNat)))->Q (.ref p) H'):zGA K (.ref a) (some i) none H Q:=by
 refine zE4 h ?_ q
 rw [HT.sIx_none,Yn h0]
 rcases Nat.le_total i.toNat xs.length with z | z
 ·rw [Nat.min_eq_left z,take_of_length_le (by rw [length_drop];exact Nat.le_refl _)]
 ·rw [Nat.min_eq_right z,List.drop_of_length_le (Nat.le_refl _),List.drop_of_length_le z,List.take_nil]
end
local macro_rules | `(tactic| walk_at "rd1")=>`(tactic| first | (with_reducible refine zA3 ?_) | fail "none")
local macro_rules | `(tactic| walk_at "rd1")=>`(tactic| first | ((with_reducible refine' Zp ?hz ?_);(case hz=>exact qY (by simp only [length_cons,length_nil];decide));intro p' H' g' n' e') | fail "none")
local macro_rules | `(tactic| walk_at "rd1")=>`(tactic| first | ((with_reducible refine zDL ?_);intro p' H' g' n' e') | fail "none")
local macro_rules | `(tactic| walk_at "rd1")=>`(tactic| first | ((with_reducible refine zCW ?_);intro p' H' g' n' e') | fail "none")
local macro_rules | `(tactic| walk_at "rd1")=>`(tactic| first | ((with_reducible refine' zBg ?h1 ?h2 ?hz ?_);(case h1|h2=>walk_at "hp");(case hz=>walk_at "tl");intro p' H' g' n' e') | fail "none")
local macro_rules | `(tactic| walk_at "rd1")=>`(tactic| first | ((with_reducible refine' r_sl2 ?h ?h0 ?h1 ?_);(case h=>walk_at "hp");(case h0|h1=>omega);intro p' H' g' n' e') | ((with_reducible refine' zFC ?h ?h1 ?_);(case h=>walk_at "hp");(case h1=>omega);intro p' H' g' n' e') | ((with_reducible refine' zAq ?h ?h0 ?_);(case h=>walk_at "hp");(case h0=>omega);intro p' H' g' n' e'))
local macro_rules | `(tactic| walk_at "tl")=>`(tactic| (simp only [length_map,length_append,List.length_replicate,length_cons,length_nil,length_take,length_drop];first | (with_reducible refine le_trans (sub_le _ _) (le_trans (min_le_right _ _) ?_);omega) | (with_reducible refine le_trans (sub_le _ _) ?_;omega) | (with_reducible refine le_trans (min_le_right _ _) ?_;omega) | omega))
local macro_rules | `(tactic| walk_at "fm")=>`(tactic| first | assumption | (refine' zX.same ?s (by assumption);(case s=>walk_at "sm")))
def yE (K:W.Frag):Sp:=fun vs H Q _=>vs=[] /\ ∀ l:List Nat,l.length=94->Asc l->l.Pairwise (· < ·)->Q (.str (T l)) H
theorem Xx (q : ∀ l:List Nat,l.length=94->Asc l->Q (.str (T l)) H):yE K ([]++[]) H Q E:=⟨rfl,fun l h a _=>q l h a⟩
theorem Yu (q : ∀ l:List Nat,l.length=94->Asc l->l.Pairwise (· < ·)->Q (.str (T l)) H):yE K ([]++[]) H Q E:=⟨rfl,q⟩
local macro_rules | `(tactic| walk_at "rdc")=>`(tactic| ((with_reducible refine Xx ?_);intro l' hl' al'))
def Zt (K:W.Frag):Sp:=fun vs H Q _=>∃ n t:Int,vs=[.int n,.int t]/\0<=t /\ ∀ c:Nat,c < 127->Q (.str (T [c])) H
theorem zE9 {n:Int} (h1:0<=t) (q : ∀ c:Nat,c < 127->Q (.str (T [c])) H):Zt K ([.int n,.int t]++[]) H Q E:=⟨n,t,rfl,h1,q⟩
local macro_rules | `(tactic| walk_at "rdc")=>`(tactic| ((with_reducible refine' zE9 ?h1 ?_);(case h1=>omega);intro c' hc'))
inductive yA (H:Hp) (p:Addr) (wd:Int) (f:Nat) (x:Str) (st:Bool):Fd->Prop
 | num {fg pl b:Int} {sn:Str} {z:Int} {m pt:Nat} {wy:Str} (e:H p=some (.tup [.str "number", .int fg,.int pl,.int b,.str sn,.int z,.str (T [m]),.str (T [pt]),.str wy,.int wd,.str (T [f]),.str x,.bl st])) (ok:QF fg pl b sn z m pt wy wd f x):yA H p wd f x st (.num fg pl b sn z m pt wy)
 | word {sg:List Nat} {lo hi:Int} (e:H p=some (.tup [.str "word", .str (T sg),.int lo,.int hi,.int wd,.str (T [f]),.str x,.bl st])) (ok:WdS sg lo hi wd f x):yA H p wd f x st (.word sg lo hi)
 | cho {L:Addr} {ns:Ce} (e:H p=some (.tup [.str "choice", .ref L,.int wd,.str (T [f]),.str x,.bl st])) (eL:H L=some (.lst (tsV ns))) (ok:ChS ns wd f x):yA H p wd f x st (.cho ns)
variable {p:Addr}
theorem yA.same {f:Nat} (g:zY H H') (h:yA H p wd f x st d):yA H' p wd f x st d:=by
 cases h with
 | num e ok=>exact .num (g.at e) ok
 | word e ok=>exact .word (g.at e) ok
 | cho e eL ok=>exact .cho (g.at e) (g.at eL) ok
include Z in
theorem y2:Has P w K mg base "_law_signs" 1 [] (yE K):=by
 refine xF Z.kn Z.bd (l0N (by intros;rfl)) fun fq fd F=>?_
 refine F.ok Jo (fun vs H Q E=>?_) (fun _ _ _ s H vs Q E hr h=>?_)
 ·walk_at "ln"
 obtain ⟨rfl,q⟩:=h
 refine ⟨_,zF (zP (zb)),?_⟩
 walk_at "st"
 walk_at "rd"
 have q':=q (Lt " !\"#$&'()*+,-./0123456789:;<=>?@ABCDEFGHIJKLMNOPQRSTUVWXYZ[\\]^_`abcdefghijklmnopqrstuvwxyz{|}~") (by decide +kernel) (by unfold Asc;decide +kernel) (by decide +kernel)
 rw [zEK] at q'
 exact q'
include Z in
theorem jj:Has P w K mg base "_law_sign" 2 ["_law_cell", "_law_salt"] (Zt K):=by
 refine xF Z.kn Z.be (l2N (by intros;rfl)) fun fq fd F=>?_
 refine F.ok Zg (fun vs H Q E=>?_) (fun _ _ _ s H vs Q E hr h=>?_)
 ·walk_at "ln"
 obtain ⟨n,t,rfl,h0,q⟩:=h
 refine ⟨_,zC (zK (i:=2) Zg.nd rfl (Or.inl rfl) (zb))
  (zC (qD (zS ko (zG (zJ Z) hr rfl (zA (pv 0) (zA (pv 1) (zA (zB) (zD))))) (zB) (zU _)) (zF (zP (zR jo (pv 2) (zG (zJ Z) hr rfl (zA (pv 0) (zA (zO zv (pv 1) (zB)) (zA (zI zc Z.ak rfl qJ (zA (pv 2) (zD))) (zD))))) (fun _ _=>rfl)))) (zZ))
  (zF (zP (zR jo (ZT (y2 Z) hr rfl) (zG (zJ Z) hr rfl (zA (pv 0) (zA (zO zv (pv 1) (zB)) (zA (zB) (zD))))) (fun _ _=>rfl))))),?_⟩
 walk_at "st"
 have l13:(Lt " 0-+(1*)_,.9f").length=13:=by decide +kernel
 have a1 : ∀ c ∈ Lt " 0-+(1*)_,.9f", c < 127:=by decide +kernel
 walk_at "rd"
 ·rename_i c' hc';exact q _ (a1 _ hc')
 ·rename_i l' hl' al' v' h0' h1'
  refine q _ (al' _ ?_)
  rw [getD_eq_getElem?_getD,getElem?_eq_getElem (by omega)]
  exact getElem_mem _
variable {xs:List V}
theorem wF (P:Int->Prop) (e:H p=some (.lst xs)) (h0:0<=i) (h1:i < xs.length) (hx : ∀ v ∈ xs,∃ k,v = .int k/\P k) (q : ∀ k,P k->Q (.int k) H):zBi K (.ref p) (.int i) H Q:=
 wA (SqL.of e) h0 h1 fun x hi=>by
  obtain ⟨k,rfl,hk⟩:=hx x (mem_of_getElem? hi)
  exact q k hk
theorem y3 (P:Str->Prop) (e:H p=some (.lst xs)) (h0:0<=i) (h1:i < xs.length) (hx : ∀ v ∈ xs,∃ k,v = .str k/\P k) (q : ∀ k,P k->Q (.str k) H):zBi K (.ref p) (.int i) H Q:=
 wA (SqL.of e) h0 h1 fun x hi=>by
  obtain ⟨k,rfl,hk⟩:=hx x (mem_of_getElem? hi)
  exact q k hk
theorem zCi : ∀ v ∈ [V.str "minus", V.str "plus", V.str "blank", V.str "brackets", V.str "behind"],∃ k,v = .str k/\yd k:=by
 simp only [mem_cons,not_mem_nil,or_false]
 rintro v (rfl | rfl | rfl | rfl | rfl)
 ·exact ⟨_,rfl,.inl rfl⟩
 ·exact ⟨_,rfl,.inr (.inl rfl)⟩
 ·exact ⟨_,rfl,.inr (.inr (.inl rfl))⟩
 ·exact ⟨_,rfl,.inr (.inr (.inr (.inl rfl)))⟩
 ·exact ⟨_,rfl,.inr (.inr (.inr (.inr rfl)))⟩
theorem zCV : ∀ v ∈ [V.str "down", V.str "up", V.str "cut", V.str "near", V.str "even"],∃ k,v = .str k/\Way k:=by
 simp only [mem_cons,not_mem_nil,or_false]
 rintro v (rfl | rfl | rfl | rfl | rfl)
 ·exact ⟨_,rfl,.inl rfl⟩
 ·exact ⟨_,rfl,.inr (.inl rfl)⟩
 ·exact ⟨_,rfl,.inr (.inr (.inl rfl))⟩
 ·exact ⟨_,rfl,.inr (.inr (.inr (.inl rfl)))⟩
 ·exact ⟨_,rfl,.inr (.inr (.inr (.inr rfl)))⟩
theorem zBA : ∀ v ∈ [V.str "right", V.str "left", V.str "middle", V.str "inside"],∃ k,v = .str k/\XY k:=by
 simp only [mem_cons,not_mem_nil,or_false]
 rintro v (rfl | rfl | rfl | rfl)
 ·exact ⟨_,rfl,.inl (.inr (.inl rfl))⟩
 ·exact ⟨_,rfl,.inl (.inl rfl)⟩
 ·exact ⟨_,rfl,.inl (.inr (.inr rfl))⟩
 ·exact ⟨_,rfl,.inr rfl⟩
theorem Ya : ∀ v ∈ [V.str "left", V.str "right", V.str "middle"],∃ k,v = .str k/\yg k:=by
 simp only [mem_cons,not_mem_nil,or_false]
 rintro v (rfl | rfl | rfl)
 ·exact ⟨_,rfl,.inl rfl⟩
 ·exact ⟨_,rfl,.inr (.inl rfl)⟩
 ·exact ⟨_,rfl,.inr (.inr rfl)⟩
variable {s:Int}
theorem zGm (e:H p=some (.lst [.int a,.int b])) (h:s=1) (q : ∀ k,k=b->Q (.int k) H):zBi K (.ref p) (.int s) H Q:=by
 subst h
 exact wA (SqL.of e) (by decide) (by show (1:Int) < 2;decide) fun y hy=>by cases hy;exact q b rfl
def Sml:Fd->Prop
 | .num fg pl b _ _ _ _ _=>fg<=2/\pl<=1/\(b=10\/b=2\/b=3)
 | .word sg lo hi=>sg.length<=3/\sg.Pairwise (· < ·)/\lo<=2/\hi<=lo+2
 | .cho _=>True
local macro_rules | `(tactic| walk_at "rd1")=>`(tactic| ((with_reducible refine' zGm ?e ?h ?_);(case e=>walk_at "hp");(case h=>assumption);intro k' hk'))
def jz (K:W.Frag):Sp:=fun vs H Q _=>∃ (c o s:Int),vs=[.int c,.int o,.int s]/\s=1 /\ ∀ p H' wd f x st d,zY H H'->yA H' p wd f x st d->Sml d->Q (.ref p) H'
theorem JI {o:Int} (h:s=1) (q : ∀ p H' wd f x st d,zY H H'->yA H' p wd f x st d->Sml d->Q (.ref p) H'):jz K ([.int c,.int o,.int s]++[]) H Q E:=⟨c,o,s,rfl,h,q⟩
include Z in
theorem kh:Has P w K mg base "_law_number_spec" 3 ["_law_cell", "_law_other", "_law_small"] (jz K):=by
 refine xF Z.kn Z.bf (l3N (by intros;rfl)) fun fq fd F=>?_
 refine F.ok zW (fun vs H Q E=>?_) (fun _ _ _ s H vs Q E hr h=>?_)
 ·walk_at "ln"
 obtain ⟨c,o,s0,rfl,hs,q⟩:=h
 refine ⟨_,zC (zK (i:=3) zW.nd rfl (Or.inl rfl) (zO zv (zB) (zG (zJ Z) hr rfl (zA (pv 0) (zA (zB) (zA (zR zk (zr (zA (zB) (zA (zB) (zD)))) (pv 2) (fun _ _=>rfl)) (zD)))))))
  (zC (zK (i:=4) zW.nd rfl (Or.inl rfl) (zG (zJ Z) hr rfl (zA (pv 0) (zA (zB) (zA (zR zk (zr (zA (zB) (zA (zB) (zD)))) (pv 2) (fun _ _=>rfl)) (zD))))))
  (zC (zK (i:=5) zW.nd rfl (Or.inl rfl) (zR zk (zr (zA (zB) (zA (zB) (zA (zR zk (zr (zA (zB) (zA (zB) (zD)))) (pv 2) (fun _ _=>rfl)) (zA (zR zk (zr (zA (zO zv (zB) (zG (zJ Z) hr rfl (zA (pv 0) (zA (zB) (zA (zB) (zD)))))) (zA (zB) (zD)))) (pv 2) (fun _ _=>rfl)) (zD)))))) (zG (zJ Z) hr rfl (zA (pv 0) (zA (zB) (zA (zB) (zD))))) (fun _ _=>rfl)))
  (zC (zK (i:=6) zW.nd rfl (Or.inl rfl) (zR zk (zr (zA (zb) (zA (zb) (zA (zb) (zA (zb) (zA (zb) (zD))))))) (zG (zJ Z) hr rfl (zA (pv 0) (zA (zB) (zA (zB) (zD))))) (fun _ _=>rfl)))
  (zC (zK (i:=7) zW.nd rfl (Or.inl rfl) (zR zk (zr (zA (zB) (zA (zB) (zA (zO zv (zB) (zG (zJ Z) hr rfl (zA (pv 0) (zA (zB) (zA (zB) (zD)))))) (zD))))) (zG (zJ Z) hr rfl (zA (pv 0) (zA (zB) (zA (zB) (zD))))) (fun _ _=>rfl)))
  (zC (zK (i:=8) zW.nd rfl (Or.inl rfl) (zR zk (zr (zA (zb) (zA (zb) (zA (zb) (zA (zb) (zA (zb) (zD))))))) (zG (zJ Z) hr rfl (zA (pv 0) (zA (zB) (zA (zB) (zD))))) (fun _ _=>rfl)))
  (zC (zK (i:=9) zW.nd rfl (Or.inl rfl) (qd (zA (zG (jj Z) hr rfl (zA (pv 1) (zA (zB) (zD)))) (zA (zG (jj Z) hr rfl (zA (pv 1) (zA (zB) (zD)))) (zA (zG (jj Z) hr rfl (zA (pv 1) (zA (zB) (zD)))) (zD))))))
  (zC (zK (i:=10) zW.nd rfl (Or.inl rfl) (zr (zA (zB) (zA (zO zv (zB) (zG (zJ Z) hr rfl (zA (pv 1) (zA (zB) (zA (zR zk (zr (zA (zB) (zA (zB) (zD)))) (pv 2) (fun _ _=>rfl)) (zD)))))) (zA (zO zv (zB) (zG (zJ Z) hr rfl (zA (pv 1) (zA (zB) (zA (zR zk (zr (zA (zB) (zA (zB) (zD)))) (pv 2) (fun _ _=>rfl)) (zD)))))) (zD))))))
  (zC (zK (i:=11) zW.nd rfl (Or.inl rfl) (zR zk (pv 10) (zG (zJ Z) hr rfl (zA (pv 1) (zA (zB) (zA (zB) (zD))))) (fun _ _=>rfl)))
  (zC (zK (i:=12) zW.nd rfl (Or.inl rfl) (zR zk (zr (zA (zb) (zA (zb) (zA (zb) (zA (zb) (zD)))))) (zG (zJ Z) hr rfl (zA (pv 1) (zA (zB) (zA (zB) (zD))))) (fun _ _=>rfl)))
  (zC (zK (i:=13) zW.nd rfl (Or.inl rfl) (jW qw (zG (zJ Z) hr rfl (zA (pv 1) (zA (zB) (zA (zB) (zD))))) (zB) (zU _)))
  (zF (zP (qd (zA (zb) (zA (pv 3) (zA (pv 4) (zA (pv 5) (zA (pv 6) (zA (pv 7) (zA (zR zV (pv 9) (zB) (fun _ _=>rfl)) (zA (zR zV (pv 9) (zB) (fun _ _=>rfl)) (zA (pv 8) (zA (pv 11) (zA (zR zV (pv 9) (zB) (fun _ _=>rfl)) (zA (pv 12) (zA (pv 13) (zD) zu) zu) z6) zu) zu) z6) z6) zu) zu) zu) zu) zu) Zb)))))))))))))),?_⟩
 walk_at "st"
 walk_at "rd"
 rename_i p4 H4 g4 n4 e4 ka hka v3 h03 h13 p3 H3 g3 n3 e3 kb hkb v2 h02 h12 p2 H2 g2 n2 e2 kc hkc v1 h01 h11 p1 H1 g1 n1 e1 kd hkd p0 H0 g0 n0 e0 v0 h00 h10
 refine wF (fun b=>b=10\/b=2\/b=3) e0 (by omega) (by show _ < (4:Int);omega) (by simp only [mem_cons,not_mem_nil,or_false];rintro v (rfl | rfl | rfl | rfl) <;> exact ⟨_,rfl,by omega⟩) fun b hb=>?_
 have gA:zY H H0:=by walk_at "sm"
 clear e0 e1 e2 e3 e4
 walk_at "rd"
 rename_i p5 H5 g5 n5 e5 v5 h05 h15
 refine y3 yd e5 (by omega) (by show _ < (5:Int);omega)  zCi fun sn hsn=>?_
 clear e5
 walk_at "rd"
 rename_i v6 h06 h16 p7 H7 g7 n7 e7 v7 h07 h17
 refine wF (fun z=>0<=z/\z<=9) e7 (by omega) (by show _ < (3:Int);omega) (by simp only [mem_cons,not_mem_nil,or_false];rintro v (rfl | rfl | rfl) <;> exact ⟨_,rfl,by omega,by omega⟩) fun z hz=>?_
 clear e7
 walk_at "rd"
 rename_i p8 H8 g8 n8 e8 v8 h08 h18
 refine y3 Way e8 (by omega) (by show _ < (5:Int);omega)  zCV fun wy hwy=>?_
 clear e8
 walk_at "rd"
 rename_i c3 hc3 c2 hc2 c1 hc1 pA HA gA1 eA pB HB gB nB eB ke hke v9 h09 h19 pC HC gC nC eC kf hkf v10 h010 h110 pD HD gD nD eD v11 h011 h111
 refine wF (fun wd=>0<=wd/\wd<=40) eD (by omega) (by show _ < (3:Int);omega) (by simp only [mem_cons,not_mem_nil,or_false];rintro v (rfl | rfl | rfl) <;> exact ⟨_,rfl,by omega,by omega⟩) fun wd hwd=>?_
 clear eD eC eB
 walk_at "rd"
 rename_i pE HE gE nE eE v12 h012 h112
 refine y3 XY eE (by omega) (by show _ < (4:Int);omega) zBA fun y hy=>?_
 clear eE
 walk_at "rd"
 rename_i v13 h013 h113 pF HF gF eF
 exact q _ _ _ _ _ _ _ (by walk_at "sm") (.num eF ⟨by omega,by omega,by omega,by omega,by omega,by omega,hsn,hz.1,hz.2,by assumption,by assumption,hwy,hwd.1,hwd.2,by assumption,hy⟩) ⟨by omega,by omega,hb⟩
def kM (K:W.Frag) (C:Addr):Sp:=fun vs H Q _=>∃ (p:Addr) (fg pl b:Int) (sn:Str) (z:Int) (m pt:Nat) (wy:Str) (wd:Int) (f:Nat) (x:Str) (st:Bool),vs=[.ref p]/\H p=some (.tup [.str "number", .int fg,.int pl,.int b,.str sn,.int z,.str (T [m]),.str (T [pt]),.str wy,.int wd,.str (T [f]),.str x,.bl st]) /\ ∀ o H',zY H H'->zX K H' o C wd f x st (jK fg pl b sn z m pt wy)->Q (.ref o) H'
theorem Vb {a:Addr} {lo hi:Option Int} (h:H a=some (.tup xs)) (hn:xs.length=n) (hw : ¬ (HT.sIx n 0 lo=0/\HT.sIx n n hi=n)) (q : ∀ p H',zY H H'->H' p=some (.tup (V9 xs lo hi))->Q (.ref p) H'):zGY K (.ref a) lo hi H Q:=⟨a,xs,rfl,SqT.of h,by rw [hn];exact hw,fun p hp=>q p _ (jM hp _) zQ⟩
include Z in
theorem k8:Has P w K mg base "_law_number_form" 4 ["_law_spec_here"] (kM K zH):=by
 have cl:Cls K zH:=Z.bJ
 have na:qZ K zH (bns++nns):=Z.bK
 refine xF Z.kn Z.bg (l1N (by intros;rfl)) fun fq fd F=>?_
 refine F.ok zT (fun vs H Q E=>?_) (fun _ _ _ s H vs Q E hr h=>?_)
 ·walk_at "ln"
 obtain ⟨p,fg,pl,b,sn,z,m,pt,wy,wd,f,x,st,rfl,hp,q⟩:=h
 refine ⟨_,zC (QW (zi QY (pv 0) (ze (zB)) (ze (zB))) (Ql rfl (zw (zf (i:=1) zT.nd rfl (Or.inl rfl)) (zw (zf (i:=2) zT.nd rfl (Or.inl rfl)) (zw (zf (i:=3) zT.nd rfl (Or.inl rfl)) (zw (zf (i:=4) zT.nd rfl (Or.inl rfl)) (zw (zf (i:=5) zT.nd rfl (Or.inl rfl)) (zw (zf (i:=6) zT.nd rfl (Or.inl rfl)) (zw (zf (i:=7) zT.nd rfl (Or.inl rfl)) (kq))))))))))
  (zC (QW (zi QY (pv 0) (ze (zB)) (qQ)) (Ql rfl (zw (zf (i:=8) zT.nd rfl (Or.inl rfl)) (zw (zf (i:=9) zT.nd rfl (Or.inl rfl)) (zw (zf (i:=10) zT.nd rfl (Or.inl rfl)) (zw (zf (i:=11) zT.nd rfl (Or.inl rfl)) (zw (zf (i:=12) zT.nd rfl (Or.inl rfl)) (kq))))))))
  (zF (zP (Q4 (zGz (yS Z) Z.bL) jg hr rfl Z.ah (zA (pv 1) (zA (pv 2) (zA (pv 3) (zA (pv 4) (zA (pv 5) (zA (pv 6) (zA (pv 7) (zA (pv 8) (zA (pv 9) (zA (pv 10) (zA (pv 11) (zA (pv 12) (zD) zu) zu) zu) zu) zu) zu) zu) zu) zu) zu) zu) zu))))),?_⟩
 walk_at "st"
 walk_at "rd"
 refine Vb (n:=13) hp rfl (by decide) fun p1 H1 g1 e1=>?_
 have e1':H1 p1=some (.tup [.int fg,.int pl,.int b,.str sn,.int z,.str (T [m]),.str (T [pt])]):=e1
 clear e1
 walk_at "rd"
 refine Vb (n:=13) (g1.at hp) rfl (by decide) fun p2 H2 g2 e2=>?_
 have e2':H2 p2=some (.tup [.str wy,.int wd,.str (T [f]),.str x,.bl st]):=e2
 clear e2
 walk_at "rd"
 intro o dx no nd ne
 refine ⟨o,dx,fg,pl,b,sn,z,m,pt,wy,wd,f,x,st,rfl,zQ,?_⟩
 have F0:zX K (upd (upd (upd H2 dx (.own o)) o (.ins zH dx [])) o (.ins zH dx (bfs wd f x st (jK fg pl b sn z m pt wy)))) o zH wd f x st (jK fg pl b sn z m pt wy):=⟨⟨dx,zQ⟩,cl,na⟩
 have g3:zY H2 (upd (upd (upd H2 dx (.own o)) o (.ins zH dx [])) o (.ins zH dx (bfs wd f x st (jK fg pl b sn z m pt wy)))):=qK (qK (qK (zY.refl _) nd) no) no
 generalize upd (upd (upd H2 dx (.own o)) o (.ins zH dx [])) o (.ins zH dx (bfs wd f x st (jK fg pl b sn z m pt wy)))=H3 at F0 g3 ⊢
 exact ⟨rfl,q _ _ ((g1.trans g2).trans g3) F0⟩
theorem Q3 {l:List Nat} (h:Asc l) (k:Nat):l.getD k 0 < 127:=by
 rw [getD_eq_getElem?_getD]
 cases e:l[k]? with
 | none=>decide
 | some c=>exact h c (mem_of_getElem? e)
local macro_rules | `(tactic| walk_at "asc")=>`(tactic| first | assumption | exact Asc.nil | exact Asc.one (Q3 (by assumption) _) | exact Asc.one (by decide) | (with_reducible refine Asc.app ?_ ?_ <;> walk_at "asc") | (with_reducible refine Asc.take ?_ _;walk_at "asc") | (with_reducible refine Asc.drop ?_ _;walk_at "asc"))
def xw (K:W.Frag):Sp:=fun vs H Q _=>∃ (c o s:Int),vs=[.int c,.int o,.int s]/\s=1 /\ ∀ p H' wd f x st d,zY H H'->yA H' p wd f x st d->Sml d->Q (.ref p) H'
theorem X4 {o:Int} (h:s=1) (q : ∀ p H' wd f x st d,zY H H'->yA H' p wd f x st d->Sml d->Q (.ref p) H'):xw K ([.int c,.int o,.int s]++[]) H Q E:=⟨c,o,s,rfl,h,q⟩
local macro_rules | `(tactic| walk_at "rdc")=>`(tactic| ((with_reducible refine Yu ?_);intro l' hl' al' pl'))
include Z in
theorem Zh:Has P w K mg base "_law_word_spec" 3 ["_law_cell", "_law_other", "_law_small"] (xw K):=by
 refine xF Z.kn Z.bh (l3N (by intros;rfl)) fun fq fd F=>?_
 refine F.ok zj (fun vs H Q E=>?_) (fun _ _ _ s H vs Q E hr h=>?_)
 ·walk_at "ln"
 obtain ⟨c,o,s0,rfl,hs,q⟩:=h
 refine ⟨_,zC (zK (i:=3) zj.nd rfl (Or.inl rfl) (zG (zJ Z) hr rfl (zA (pv 0) (zA (zB) (zA (zB) (zD))))))
  (zC (zK (i:=4) zj.nd rfl (Or.inl rfl) (zO zv (zB) (zG (zJ Z) hr rfl (zA (pv 0) (zA (zB) (zA (zB) (zD)))))))
  (zC (zK (i:=5) zj.nd rfl (Or.inl rfl) (zi jH (Wm (ZT (y2 Z) hr rfl) (ze (pv 3)) (qQ) (pv 4)) (qQ) (ze (zO zv (zB) (zG (zJ Z) hr rfl (zA (pv 0) (zA (zB) (zA (zR zk (zr (zA (zB) (zA (zB) (zD)))) (pv 2) (fun _ _=>rfl)) (zD)))))))))
  (zC (zK (i:=6) zj.nd rfl (Or.inl rfl) (zG (zJ Z) hr rfl (zA (pv 1) (zA (zB) (zA (zR zk (zr (zA (zB) (zA (zB) (zD)))) (pv 2) (fun _ _=>rfl)) (zD))))))
  (zC (zK (i:=7) zj.nd rfl (Or.inl rfl) (zI (ji rfl) Z.ap rfl Qq (zA (zB) (zA (zO zv (pv 6) (zG (zJ Z) hr rfl (zA (pv 1) (zA (zB) (zA (zR zk (zr (zA (zB) (zA (zB) (zD)))) (pv 2) (fun _ _=>rfl)) (zD)))))) (zD)))))
  (zC (zK (i:=8) zj.nd rfl (Or.inl rfl) (zR zk (zr (zA (zR jo (pv 5) (zB) (fun _ _=>rfl)) (zA (zG (jj Z) hr rfl (zA (pv 1) (zA (zB) (zD)))) (zA (zR jo (pv 5) (wY xy (zB)) (fun _ _=>rfl)) (zD))))) (zG (zJ Z) hr rfl (zA (pv 1) (zA (zB) (zA (zB) (zD))))) (fun _ _=>rfl)))
  (zC (zK (i:=9) zj.nd rfl (Or.inl rfl) (zR zk (zr (zA (zB) (zA (zO zv (zB) (zG (zJ Z) hr rfl (zA (pv 1) (zA (zB) (zA (zR zk (zr (zA (zB) (zA (zB) (zD)))) (pv 2) (fun _ _=>rfl)) (zD)))))) (zA (pv 7) (zD))))) (zG (zJ Z) hr rfl (zA (pv 1) (zA (zB) (zA (zB) (zD))))) (fun _ _=>rfl)))
  (zC (zK (i:=10) zj.nd rfl (Or.inl rfl) (zR zk (zr (zA (zb) (zA (zb) (zA (zb) (zD))))) (zG (zJ Z) hr rfl (zA (pv 1) (zA (zB) (zA (zB) (zD))))) (fun _ _=>rfl)))
  (zF (zP (qd (zA (zb) (zA (pv 5) (zA (pv 6) (zA (pv 7) (zA (pv 9) (zA (pv 8) (zA (pv 10) (zA (jW qw (zG (zJ Z) hr rfl (zA (pv 1) (zA (zB) (zA (zB) (zD))))) (zB) (zU _)) (zD) Y4) zu) zu) zu) zu) zu) zu) Zb))))))))))),?_⟩
 walk_at "st"
 walk_at "rd"
 rename_i v1 h01 h11 v0 h00 h10 l hl al pl
 obtain ⟨p1,p2,p3⟩:=VJ (a:=l) (s:=v1) (st:=1+v0) h01 (by omega) (by omega)
 refine ⟨T l,rfl,by omega,by show l.length<=sizeLine;rw [hl];decide,Nat.le_of_lt (qV (by omega)),fun y hy=>?_⟩
 have hy' : ∃ z:List Nat,y=T z/\0 < z.length/\z.length<=200/\Asc z/\z.Pairwise (· < ·):=by
  rcases hy with rfl | ⟨_,rfl⟩
  ·exact ⟨_,rfl,List.length_pos_iff.mpr p1,by omega,fun c hc=>al c (p2 c hc),zAs h01 (by omega) (by omega) pl⟩
  ·exact ⟨l,rfl,by omega,by omega,al,pl⟩
 obtain ⟨z,rfl,z1,z2,z3,z4⟩:=hy'
 clear hy p1 p2 p3
 walk_at "rd"
 rename_i q3 H3 g3 m3 e3 ka hka v3 h03 h13 q2 H2 g2 m2 e2 kb hkb v2 h02 h12 q1 H1 g1 m1 e1 kc hkc v9 h09 h19 k0 hk0 c0 hc0 qf Hf gf mf ef vf hf0 hf1
 have s1:0 < (z.take (1+v3).toNat).length:=by rw [length_take];omega
 have s2:(z.take (1+v3).toNat).length<=200:=by rw [length_take];omega
 have s3:Asc (z.take (1+v3).toNat):=z3.take _
 have s4:(z.take (1+v3).toNat).Pairwise (· < ·):=z4.sublist (List.take_sublist _ _)
 have s5:(z.take (1+v3).toNat).length<=3:=by rw [length_take];omega
 generalize z.take (1+v3).toNat=sg at ef s1 s2 s3 s4 s5 ⊢
 have sm : ∀ k,k < sg.length->sg.getD k 0 < 127:=fun k hk=>s3 _ (by rw [getD_eq_getElem?_getD,getElem?_eq_getElem hk];exact getElem_mem _)
 refine y3 (fun y=>∃ f:Nat,y=T [f]/\f < 127) ef (by omega) (by show _ < (3:Int);omega) (by simp only [mem_cons,not_mem_nil,or_false];rintro v (rfl | rfl | rfl) <;> exact ⟨_,rfl,_,rfl,by first | assumption | exact Q3 s3 _⟩) fun y hy=>?_
 obtain ⟨f,rfl,hf⟩:=hy
 have g0:zY H Hf:=by walk_at "sm"
 clear ef e1 e2 e3
 walk_at "rd"
 rename_i q8 H8 g8 m8 e8 kd hkd v8 h08 h18 q7 H7 g7 m7 e7 v7 h07 h17
 refine wF (fun wd=>0<=wd/\wd<=40) e7 (by omega) (by show _ < (3:Int);omega) (by simp only [mem_cons,not_mem_nil,or_false];rintro v (rfl | rfl | rfl) <;> exact ⟨_,rfl,by omega,by omega⟩) fun wd hwd=>?_
 clear e7 e8
 walk_at "rd"
 rename_i q6 H6 g6 m6 e6 v6 h06 h16
 refine y3 yg e6 (by omega) (by show _ < (3:Int);omega) Ya fun y hy=>?_
 clear e6
 walk_at "rd"
 rename_i v5 h05 h15 q5 H5 g5 e5
 exact q _ _ _ _ _ _ _ (by walk_at "sm") (.word e5 ⟨by omega,s2,h02,by omega,by omega,hwd.1,hwd.2,hy,s3,hf⟩) ⟨s5,s4,by omega,by omega⟩
local macro_rules | `(tactic| walk_at "rdc")=>`(tactic| ((with_reducible refine Xx ?_);intro l' hl' al'))
def wH (K:W.Frag):Sp:=fun vs H Q _=>∃ (c n:Int),vs=[.int c,.int n]/\1<=n/\n<=12 /\ ∀ L H' ns,zY H H'->H' L=some (.lst (tsV ns))->(ns.length:Int)=n->((∀ t ∈ ns,1<=t.length/\t.length<=13/\Asc t)/\ns.Nodup)->Q (.ref L) H'
theorem zC7 {n:Int} (h1:1<=n) (h2:n<=12) (q : ∀ L H' ns,zY H H'->H' L=some (.lst (tsV ns))->(ns.length:Int)=n->((∀ t ∈ ns,1<=t.length/\t.length<=13/\Asc t)/\ns.Nodup)->Q (.ref L) H'):wH K ([.int c,.int n]++[]) H Q E:=⟨c,n,rfl,h1,h2,q⟩
theorem fl1 : ∀ cs:List Nat,(cs.map fun c=>[c]).flatten=cs
 | []=>rfl
 | c::cs=>by rw [map_cons,List.flatten_cons,fl1 cs];rfl
theorem Kz {H4:Hp} {L:Addr} {ns:Ce} {t:List Nat} (nL:H' L=none) (g4:zY H' H4) (e4:H4 L=some (.lst (tsV ns))) (hz:ns.length<=900) (q : ∀ H5,zY H' H5->H5 L=some (.lst (tsV (ns++[t])))->Q .non H5):Xg (.ref L) [.str (T t)] H4 Q:=
 JW e4 (qV (by rw [zd];omega)) (q _ (qK g4 nL) (by rw [zQ,<- jJ];rfl))
theorem J6 {l:List Nat} (h:Asc l) (k:Nat):l.getD k 0 < 127:=by
 rw [getD_eq_getElem?_getD]
 cases e:l[k]? with
 | none=>decide
 | some c=>exact h c (mem_of_getElem? e)
def Qb (way mn sz st v:Int) (S B:List Nat) (k:Nat):List Nat:=if way=0 then B.take (k+1) else if way=1 then B.take mn.toNat++[S.getD ((v+k*st) % 93).toNat 0]++(B.take sz.toNat).drop (mn+1).toNat else B.take k++[48]
section
variable {way mn sz st v : Int} {S B : List Nat} (hS : S.length = 93) (hB : B.length = 12) (up : S.Pairwise (· < ·)) (m0 : 0 <= mn) (m1 : mn < sz) (z1 : sz <= 12) (t0 : 1 <= st) (t1 : st <= 8)
include hB m0 m1 z1 in
theorem zFs {k:Nat} (hk:k < 12):1<=(Qb way mn sz st v S B k).length/\(Qb way mn sz st v S B k).length<=12:=by
 unfold Qb
 split
 ·rw [length_take,hB];omega
 ·split
  ·simp only [length_append,length_take,length_drop,length_cons,length_nil,hB];omega
  ·simp only [length_append,length_take,length_cons,length_nil,hB];omega
include hS hB up t0 t1 in
theorem Kt {i j:Nat} (hij:i < j) (hj:j < 12):Qb way mn sz st v S B i≠Qb way mn sz st v S B j:=by
 intro e
 unfold Qb at e
 split at e
 ·have:=congrArg List.length e
  rw [length_take,length_take,hB] at this;omega
 ·split at e
  ·rw [append_assoc,append_assoc] at e
   have e2:=(List.cons.injEq .. ▸ append_cancel_left e:_/\_).1
   have a0:=emod_nonneg (v+(i:Int)*st) (show (93:Int)≠0 by decide)
   have a1:=emod_lt_of_pos (v+(i:Int)*st) (show (0:Int) < 93 by decide)
   have b0:=emod_nonneg (v+(j:Int)*st) (show (93:Int)≠0 by decide)
   have b1:=emod_lt_of_pos (v+(j:Int)*st) (show (0:Int) < 93 by decide)
   have ne:(v+(i:Int)*st) % 93≠(v+(j:Int)*st) % 93:=by
    obtain ⟨d,rfl⟩ : ∃ d:Nat,j=i+d:=⟨j - i,by omega⟩
    have ed:((i+d:Nat):Int)*st=(i:Int)*st+(d:Int)*st:=by rw [Int.natCast_add,Int.add_mul]
    have d1:1*1<=(d:Int)*st:=Int.mul_le_mul (by omega) t0 (by decide) (by omega)
    have d2:(d:Int)*st<=11*8:=Int.mul_le_mul (by omega) t1 (by omega) (by decide)
    rw [ed]
    omega
   generalize (v+(i:Int)*st) % 93=a at *
   generalize (v+(j:Int)*st) % 93=b at *
   rw [getD_eq_getElem?_getD,getElem?_eq_getElem (show a.toNat < S.length by omega),getD_eq_getElem?_getD,getElem?_eq_getElem (show b.toNat < S.length by omega)] at e2
   have e3:S[a.toNat]'(by omega)=S[b.toNat]'(by omega):=e2
   have pw:=List.pairwise_iff_getElem.mp up
   rcases Nat.lt_trichotomy a.toNat b.toNat with h | h | h
   ·have:=pw a.toNat b.toNat (by omega) (by omega) h;omega
   ·omega
   ·have:=pw b.toNat a.toNat (by omega) (by omega) h;omega
  ·have:=congrArg List.length e
   simp only [length_append,length_take,length_cons,length_nil,hB] at this
   omega
end
theorem zFA {way mn sz st v:Int} {S:List Nat} (hS:Asc S) (hB:Asc B) {k:Nat}:Asc (Qb way mn sz st v S B k):=by
 unfold Qb
 split
 ·exact hB.take _
 ·split
  ·exact ((hB.take _).app (Asc.one (J6 hS _))).app ((hB.take _).drop _)
  ·exact (hB.take _).app (Asc.one (by decide))
local macro_rules | `(tactic| walk_at "rdc")=>`(tactic| ((with_reducible refine' zDW ?h1 ?h2 ?_);(case h1|h2=>omega);intro h0' h1'))
local macro_rules | `(tactic| walk_at "rdc")=>`(tactic| ((with_reducible refine Yu ?_);intro l' hl' al' pl'))
include Z in
theorem Xw:Has P w K mg base "_law_names" 2 ["_law_cell", "_law_many"] (wH K):=by
 refine xF Z.kn Z.bi (l2N (by intros;rfl)) fun fq fd F=>?_
 refine F.ok zx (fun vs H Q E=>?_) (fun _ _ _ s H vs Q E hr h=>?_)
 ·walk_at "ln"
 obtain ⟨c,n,rfl,h1,h2,q⟩:=h
 refine ⟨_,zC (zK (i:=2) zx.nd rfl (Or.inr rfl) (zi jH (ZT (y2 Z) hr rfl) (ze (zB)) (qQ)))
  (zC (zK (i:=3) zx.nd rfl (Or.inl rfl) (ki PySem.F.plainAttrs_str PySem.F.slot_str_join PySem.F.type_str_join JK (qS (l:=[]) (by decide +kernel)) (zA (jk (cl:=[("_law_signs_here", s.heap.objs.size+1+1),("_law_cell", s.heap.objs.size+1+0)]) (fr:=["_law_cell", "_law_signs_here"]) (is:=[0,2]) rfl rfl ⟨rfl,⟨rfl,trivial⟩⟩ rfl ⟨⟨rfl,rfl,Or.inl rfl⟩,⟨⟨rfl,rfl,Or.inl rfl⟩,trivial⟩⟩ (by decide) (by decide +kernel) rfl (by decide +kernel) rfl (xU rfl Z.al (zA (zB) (zD))) (fun _ _ _ _=>j6) (fun _ _ _ _=>zR jo (pv 2) (zG (zJ Z :) hr rfl (zA (pv 1) (zA (zO zv (zB) (pv 0)) (zA (zB) (zD))))) (fun _ _=>rfl))) (zD))))
  (zC (zK (i:=4) zx.nd rfl (Or.inl rfl) (zG (zJ Z :) hr rfl (zA (pv 0) (zA (zB) (zA (zB) (zD))))))
  (zC (zK (i:=5) zx.nd rfl (Or.inl rfl) (zG (zJ Z :) hr rfl (zA (pv 0) (zA (zB) (zA (zB) (zD))))))
  (zC (zK (i:=6) zx.nd rfl (Or.inl rfl) (zO zv (zB) (zG (zJ Z :) hr rfl (zA (pv 0) (zA (zB) (zA (zB) (zD)))))))
  (zC (zK (i:=7) zx.nd rfl (Or.inl rfl) (zR zk (zr (zA (zB) (zA (zB) (zA (zB) (zA (zB) (zA (zB) (zA (zB) (zD)))))))) (zG (zJ Z :) hr rfl (zA (pv 0) (zA (zB) (zA (zB) (zD))))) (fun _ _=>rfl)))
  (zC (zK (i:=8) zx.nd rfl (Or.inl rfl) (zr (zD)))
  (zC (yN PassesOwn.never rfl (xU rfl Z.al (zA (pv 1) (zD))) (zf (i:=9) zx.nd rfl (Or.inl rfl)) (zC (zK (i:=10) zx.nd rfl (Or.inl rfl) (zR jo (pv 2) (zO jC (zO zv (zG (zJ Z :) hr rfl (zA (pv 0) (zA (zB) (zA (zB) (zD))))) (zO jl (pv 9) (pv 7))) (zB)) (fun _ _=>rfl)))
  (zF (qD (zS qw (pv 4) (zB) (zU _)) (zF (xE (ki PySem.F.plainAttrs_list PySem.F.slot_list_append PySem.F.type_list_append yI (pv 8) (zA (zi jH (pv 3) (qQ) (ze (zO zv (pv 9) (zB)))) (zD))))) (zF (qD (zS qw (pv 4) (zB) (zU _)) (zF (xE (ki PySem.F.plainAttrs_list PySem.F.slot_list_append PySem.F.type_list_append yI (pv 8) (zA (zO zp (zO zp (zi jH (pv 3) (qQ) (ze (zI (ji rfl) Z.ap rfl Qq (zA (pv 5) (zA (zO jF (pv 6) (zB)) (zD)))))) (pv 10)) (zi jH (pv 3) (ze (zO zv (zI (ji rfl) Z.ap rfl Qq (zA (pv 5) (zA (zO jF (pv 6) (zB)) (zD)))) (zB))) (ze (pv 6)))) (zD))))) (zF (xE (ki PySem.F.plainAttrs_list PySem.F.slot_list_append PySem.F.type_list_append yI (pv 8) (zA (zO zp (zi jH (pv 3) (qQ) (ze (pv 9))) (qS (l:=[48]) (by decide +kernel))) (zD)))))))))))
  (zC (zK (i:=11) zx.nd rfl (Or.inl rfl) (zG (zJ Z :) hr rfl (zA (pv 0) (zA (zB) (zA (pv 1) (zD))))))
  (zF (zP (zO WO (zi Wt (pv 8) (ze (pv 11)) (qQ)) (zi Wt (pv 8) (qQ) (ze (pv 11)))))))))))))),?_⟩
 walk_at "st"
 walk_at "rd"
 rename_i l hl al pw
 have lS:(l.drop (Int.toNat 1)).length=93:=by rw [length_drop,hl];rfl
 have aS:Asc (l.drop (Int.toNat 1)):=Asc.drop al _
 have pS:(l.drop (Int.toNat 1)).Pairwise (· < ·):=List.Pairwise.sublist (List.drop_sublist _ _) pw
 generalize l.drop (Int.toNat 1)=S at lS aS pS ⊢
 refine WQ (by decide) (by decide) (Nat.le_of_lt (qV (by decide))) (fun i ys H'=>H'=H /\ ∃ cs:List Nat,cs.length=i/\Asc cs/\ys=tsV (cs.map fun c=>[c])) ⟨rfl,[],rfl,Asc.nil,rfl⟩ (fun i ys H' _ zz=>by obtain ⟨_,cs,h,_,e⟩:=zz;rw [e,zd,length_map];omega) ?_ ?_
 ·rintro i ys H' hi ⟨rfl,cs,c1,c2,rfl⟩
  walk_at "rd"
  refine nxC hi ⟨rfl,cs++[S.getD (pk c (70+(0+(i:Int))) 93).toNat 0],by rw [length_append,c1];rfl,c2.app (.one (J6 aS _)),?_⟩
  rw [map_append,<- jJ];rfl
 ·rintro ys H' ⟨rfl,B,lB,aB,rfl⟩ p1 H1 g1 n1 e1
  have lB':B.length=12:=lB
  walk_at "rd"
  refine X6 e1 (by rw [fl1,length_map];show B.length+B.length*0<=_;omega) ?_
  rw [show Lt (T [])=[] from rfl,zBl,fl1]
  clear e1
  walk_at "rd"
  rename_i w10 w11 w20 w21 w30 w31 p2 H2 g2 n2 e2 w40 w41
  refine wF (fun s=>1<=s/\s<=8) e2 (by omega) (by show _ < (6:Int);omega) (by simp only [mem_cons,not_mem_nil,or_false];rintro v (rfl | rfl | rfl | rfl | rfl | rfl) <;> exact ⟨_,rfl,by omega,by omega⟩) fun s hs=>?_
  have g02:=g1.trans g2
  clear e2
  walk_at "rd"
  rename_i L H3 g3 n3 e3
  have g03:=g02.trans g3
  have nL:H' L=none:=none_of g02 n3
  generalize pk c 83 3=way at *
  generalize pk c 84 12=at0 at *
  obtain ⟨sz,hsz⟩ : ∃ sz:Int,sz=1+pk c 85 12:=⟨_,rfl⟩
  rw [<- hsz]
  obtain ⟨mn,hmn⟩ : ∃ mn:Int,mn=if sz - 1 < at0 then sz - 1 else at0:=⟨_,rfl⟩
  have mn0:0<=mn/\mn < sz:=by rw [hmn];split <;> omega
  have sz1:1<=sz/\sz<=12:=by omega
  refine Zz (by omega) (by omega) (fun i σ H4=>∃ (r1 r2:Option V),zY H' H4/\H4 L=some (.lst (tsV ((List.range i).map (Qb way mn sz s (pk c 87 93) S B))))/\σ=[some (.int c),some (.int n),some (.str (T S)),some (.str (T B)),some (.int way),some (.int at0),some (.int sz),some (.int s),some (.ref L),r1,r2,none]) ⟨none,none,g03,e3,rfl⟩ ?_ ?_
  ·rintro i σ H4 hi ⟨r1,r2,g4,e4,rfl⟩
   have m0:0<=(i:Int)*s:=Int.mul_nonneg (by omega) (by omega)
   have m1:(i:Int)*s<=12*8:=Int.mul_le_mul (by omega) hs.2 (by omega) (by omega)
   have nn:=emod_nonneg (pk c 87 93+(i:Int)*s) (show (93:Int)≠0 by decide)
   have nn2:=emod_lt_of_pos (pk c 87 93+(i:Int)*s) (show (0:Int) < 93 by decide)
   have ln:((List.range i).map (Qb way mn sz s (pk c 87 93) S B)).length<=900:=by rw [length_map,length_range];omega
   walk_at "rd"
   ·rename_i v0 v1 hc
    have e:Qb way mn sz s (pk c 87 93) S B i=B.take (0+(i:Int)+1).toNat:=by
     unfold Qb;rw [if_pos hc,show (0+(i:Int)+1).toNat=i+1 by omega]
    exact Kz nL g4 e4 ln fun H5 g5 e5=>⟨_,_,g5,by rw [e5,range_succ,map_append,map_cons,map_nil,e],rfl⟩
   ·rename_i v0 v1 hc hc2 k1 hk1 k2 hk2
    have e:Qb way mn sz s (pk c 87 93) S B i=B.take k1.toNat++[S.getD ((pk c 87 93+(0+(i:Int))*s) % 93).toNat 0]++(B.take sz.toNat).drop (k2+1).toNat:=by
     unfold Qb;rw [if_neg hc,if_pos hc2,show k1=mn by rw [hmn];split <;> omega,show k2=mn by rw [hmn];split <;> omega,show (0:Int)+(i:Int)=(i:Int) by omega]
    exact Kz nL g4 e4 ln fun H5 g5 e5=>⟨_,_,g5,by rw [e5,range_succ,map_append,map_cons,map_nil,e],rfl⟩
   ·rename_i v0 v1 hc hc2
    have e:Qb way mn sz s (pk c 87 93) S B i=B.take (0+(i:Int)).toNat++[48]:=by
     unfold Qb;rw [if_neg hc,if_neg hc2,show (0+(i:Int)).toNat=i by omega]
    exact Kz nL g4 e4 ln fun H5 g5 e5=>⟨_,_,g5,by rw [e5,range_succ,map_append,map_cons,map_nil,e],rfl⟩
  ·rintro σ H4 ⟨r1,r2,g4,e4,rfl⟩
   walk_at "rd"
   rename_i v50 v51 p5 H5 g5 n5 e5 p6 H6 g6 n6 e6
   have ok:(∀ t ∈ (List.range n.toNat).map (Qb way mn sz s (pk c 87 93) S B),1<=t.length/\t.length<=13/\Asc t)/\((List.range n.toNat).map (Qb way mn sz s (pk c 87 93) S B)).Nodup:=by
    refine ⟨fun t ht=>?_,?_⟩
    ·obtain ⟨k,hk,rfl⟩:=List.mem_map.mp ht
     have:=zFs (way:=way) (st:=s) (v:=pk c 87 93) (S:=S) lB' mn0.1 mn0.2 sz1.2 (k:=k) (by have:=List.mem_range.mp hk;omega)
     exact ⟨this.1,by omega,zFA aS aB⟩
    ·unfold List.Nodup
     rw [List.pairwise_map]
     refine List.Pairwise.imp_of_mem ?_ List.pairwise_lt_range
     intro i j hi hj hij
     exact Kt lS lB' pS hs.1 hs.2 hij (by have:=List.mem_range.mp hj;omega)
   have lN:((List.range n.toNat).map (Qb way mn sz s (pk c 87 93) S B)).length=n.toNat:=by rw [length_map,length_range]
   generalize (List.range n.toNat).map (Qb way mn sz s (pk c 87 93) S B)=N at *
   have pm : ∀ k,(N.drop k++N.take k).Perm N:=fun k=>List.perm_append_comm.trans (by rw [List.take_append_drop])
   refine zBg (g6.at e5) e6 (by rw [length_drop,length_take];omega) fun p7 H7 g7 n7 e7=>?_
   exact q _ _ _ (g4.trans (g5.trans (g6.trans g7))) e7 (by rw [(pm _).length_eq,lN];omega) ⟨fun t h=>ok.1 t ((pm _).mem_iff.mp h),(pm _).nodup_iff.mpr ok.2⟩
local macro_rules | `(tactic| walk_at "rdc")=>`(tactic| ((with_reducible refine' zBO ?h1 ?h2 ?_);(case h1|h2=>omega);intro v' h0' h1'))
local macro_rules | `(tactic| walk_at "rdc")=>`(tactic| ((with_reducible refine Xx ?_);intro l' hl' al'))
local macro_rules | `(tactic| walk_at "rdc")=>`(tactic| first | ((with_reducible refine' zC7 ?h1 ?h2 ?_);(case h1|h2=>omega);intro L' H' ns' g' e' hn' ht') | fail "none")
def j8 (K:W.Frag):Sp:=fun vs H Q _=>∃ (c o s:Int),vs=[.int c,.int o,.int s]/\s=1 /\ ∀ p H' wd f x st d,zY H H'->yA H' p wd f x st d->Sml d->Q (.ref p) H'
theorem Q9 {o:Int} (h:s=1) (q : ∀ p H' wd f x st d,zY H H'->yA H' p wd f x st d->Sml d->Q (.ref p) H'):j8 K ([.int c,.int o,.int s]++[]) H Q E:=⟨c,o,s,rfl,h,q⟩
include Z in
theorem wG:Has P w K mg base "_law_choice_spec" 3 ["_law_cell", "_law_other", "_law_small"] (j8 K):=by
 refine xF Z.kn Z.bj (l3N (by intros;rfl)) fun fq fd F=>?_
 refine F.ok qG (fun vs H Q E=>?_) (fun _ _ _ s H vs Q E hr h=>?_)
 ·walk_at "ln"
 obtain ⟨c,o,s0,rfl,hs,q⟩:=h
 refine ⟨_,zC (zK (i:=3) qG.nd rfl (Or.inl rfl) (zG (Xw Z) hr rfl (zA (pv 0) (zA (zO zv (zB) (zG (zJ Z) hr rfl (zA (pv 1) (zA (zB) (zA (zR zk (zr (zA (zB) (zA (zB) (zD)))) (pv 2) (fun _ _=>rfl)) (zD)))))) (zD)))))
  (zC (zK (i:=4) qG.nd rfl (Or.inl rfl) (zR zk (zr (zA (zR jo (zR zk (pv 3) (zB) (fun _ _=>rfl)) (wY xy (zB)) (fun _ _=>rfl)) (zA (zG (jj Z) hr rfl (zA (pv 1) (zA (zB) (zD)))) (zA (qS (l:=[48]) (by decide +kernel)) (zD))))) (zG (zJ Z) hr rfl (zA (pv 1) (zA (zB) (zA (zB) (zD))))) (fun _ _=>rfl)))
  (zC (zK (i:=5) qG.nd rfl (Or.inl rfl) (zR zk (zr (zA (zB) (zA (zO zv (zB) (zG (zJ Z) hr rfl (zA (pv 1) (zA (zB) (zA (zR zk (zr (zA (zB) (zA (zB) (zD)))) (pv 2) (fun _ _=>rfl)) (zD)))))) (zA (zO zv (zI zc Z.ak rfl qJ (zA (zR zk (pv 3) (wY xy (zB)) (fun _ _=>rfl)) (zD))) (zB)) (zD))))) (zG (zJ Z) hr rfl (zA (pv 1) (zA (zB) (zA (zB) (zD))))) (fun _ _=>rfl)))
  (zC (zK (i:=6) qG.nd rfl (Or.inl rfl) (zR zk (zr (zA (zb) (zA (zb) (zA (zb) (zD))))) (zG (zJ Z) hr rfl (zA (pv 1) (zA (zB) (zA (zB) (zD))))) (fun _ _=>rfl)))
  (zF (zP (qd (zA (zb) (zA (pv 3) (zA (pv 5) (zA (pv 4) (zA (pv 6) (zA (jW qw (zG (zJ Z) hr rfl (zA (pv 1) (zA (zB) (zA (zB) (zD))))) (zB) (zU _)) (zD))))))))))))),?_⟩
 walk_at "st"
 walk_at "rd"
 rename_i p0 H0 g0 n0 e0 ka hka v0 h00 h10 L H1 ns g1 e1 hn ht2
 obtain ⟨ht,nd⟩:=ht2
 have l0:0 < ns.length:=by omega
 have t0:=ht (ns.getD (Int.toNat 0) []) (by rw [getD_eq_getElem?_getD,getElem?_eq_getElem (show Int.toNat 0 < ns.length from l0)];exact getElem_mem _)
 generalize ns.getD (Int.toNat 0) []=t at t0 ⊢
 have g01:=g0.trans g1
 clear e0
 walk_at "rd"
 rename_i c2 hc2 p2 H2 g2 n2 e2 v2 h02 h12
 refine y3 (fun y=>∃ f:Nat,y=T [f]/\f < 127) e2 (by omega) (by show _ < (3:Int);omega) (by simp only [mem_cons,not_mem_nil,or_false];rintro v (rfl | rfl | rfl) <;> exact ⟨_,rfl,_,rfl,by first | assumption | exact Q3 t0.2.2 _ | decide⟩) fun y hy=>?_
 obtain ⟨f,rfl,hf⟩:=hy
 clear e2
 have t1:=ht (ns.getD (ns.length - 1) []) (by rw [getD_eq_getElem?_getD,getElem?_eq_getElem (show ns.length - 1 < ns.length by omega)];exact getElem_mem _)
 walk_at "rd"
 rename_i p3 H3 g3 n3 e3 kb hkb v3 h03 h13 p4 H4 g4 n4 e4 v4 h04 h14
 generalize ns.getD (ns.length - 1) []=u at t1 e4 ⊢
 clear e3
 refine wF (fun wd=>0<=wd/\wd<=40) e4 (by omega) (by show _ < (3:Int);omega) (by simp only [mem_cons,not_mem_nil,or_false];rintro v (rfl | rfl | rfl) <;> exact ⟨_,rfl,by omega,by omega⟩) fun wd hwd=>?_
 clear e4
 walk_at "rd"
 rename_i p5 H5 g5 n5 e5 v5 h05 h15
 refine y3 yg e5 (by omega) (by show _ < (3:Int);omega) Ya fun y hy=>?_
 clear e5
 walk_at "rd"
 rename_i v6 h06 h16 p6 H6 g6 e6
 exact q _ _ _ _ _ _ _ (by walk_at "sm") (.cho e6 (g6.at (g5.at (g4.at (g3.at (g2.at e1))))) ⟨by omega,by omega,fun t h=>(ht t h).2.1,hwd.1,hwd.2,hy,fun t h=>(ht t h).2.2,nd,hf⟩) trivial
def Y9 (H:Hp) (p:Addr) (fg pl b:Int) (sn:Str) (z:Int) (m pt:Nat) (wy:Str) (wd:Int) (f:Nat) (x:Str) (st:Bool):Prop:=H p=some (.tup [.str "number", .int fg,.int pl,.int b,.str sn,.int z,.str (T [m]),.str (T [pt]),.str wy,.int wd,.str (T [f]),.str x,.bl st])
def wV (K:W.Frag):Sp:=fun vs H Q _=>∃ b t:Int,vs=[.int b,.int t]/\2<=b/\b<=16/\0<=t/\t<=60/\Q (.int (b ^ t.toNat)) H
theorem zCG (h1:2<=b) (h2:b<=16) (h3:0<=t) (h4:t<=60) (q:Q (.int (b ^ t.toNat)) H):wV K ([.int b,.int t]++[]) H Q E:=⟨b,t,rfl,h1,h2,h3,h4,q⟩
local macro_rules | `(tactic| walk_at "rdc")=>`(tactic| ((with_reducible refine' zCG ?h1 ?h2 ?h3 ?h4 ?_);(case h1|h2|h3|h4=>omega)))
def yo (K:W.Frag):Sp:=fun vs H Q _=>∃ a b:Int,vs=[.int a,.int b]/\0 < b/\Q (.int (Int.gcd a b)) H
theorem Kl (h:0 < b) (q:Q (.int (Int.gcd a b)) H):yo K ([.int a,.int b]++[]) H Q E:=⟨a,b,rfl,h,q⟩
local macro_rules | `(tactic| walk_at "rdc")=>`(tactic| ((with_reducible refine' Kl ?h ?_);(case h=>omega)))
def kP (K:W.Frag):Sp:=fun vs H Q _=>∃ t b:Int,vs=[.int t,.int b]/\0 < b/\b < 10000000000000000000000000000000000000000000000000000000000000000000000000000000000000000000000000000000000000000000000000000000000000000000000000000000000000000000000000000000000000000000000 /\ ∀ p H',zY H H'->H' p=some (.tup [.int (QR t b),.int (Z5 t b)])->Q (.ref p) H'
def yj (K:W.Frag):Sp:=fun vs H Q _=>∃ n b:Int,vs=[.int n,.int b]/\0<=n/\2<=b/\b<=16/\n < 1766847064778384329583297500742918515827483896875618958121606201292619776/\Q (.str (T (xh b.toNat n.toNat))) H
theorem Va {n:Int} (h1:0<=n) (h2:2<=b) (h3:b<=16) (h4:n < 1766847064778384329583297500742918515827483896875618958121606201292619776) (q:Q (.str (T (xh b.toNat n.toNat))) H):yj K ([.int n,.int b]++[]) H Q E:=⟨n,b,rfl,h1,h2,h3,h4,q⟩
local macro_rules | `(tactic| walk_at "rdc")=>`(tactic| ((with_reducible refine' Va ?h1 ?h2 ?h3 ?h4 ?_);(case h1|h2|h3|h4=>omega)))
include Z in
theorem xo:Has P w K mg base "_law_power" 1 ["_law_base", "_law_times"] (wV K):=by
 refine xF Z.kn Z.bk (l2N (by intros;rfl)) fun fq fd F=>?_
 refine F.ok xD (fun vs H Q E=>?_) (fun _ _ _ s H vs Q E hr h=>?_)
 ·walk_at "ln"
 obtain ⟨b,t,rfl,h1,h2,h3,h4,q⟩:=h
 refine ⟨_,zC (zK (i:=2) xD.nd rfl (Or.inl rfl) (zB))
  (zC (yN PassesOwn.never rfl (xU rfl Z.al (zA (pv 1) (zD))) (zf (i:=3) xD.nd rfl (Or.inl rfl)) (zF (zK (i:=2) xD.nd rfl (Or.inl rfl) (zO jl (pv 2) (pv 0)))))
  (zF (zP (pv 2)))),?_⟩
 walk_at "st"
 walk_at "rd"
 refine Zz (by omega) (by omega) (fun i σ H'=>H'=H /\ ∃ r,σ=[some (.int b),some (.int t),some (.int (b ^ i)),r]) ⟨rfl,none,by rw [Int.pow_zero];rfl⟩ ?_ ?_
 ·rintro i σ H' hi ⟨rfl,r,rfl⟩
  have z:=zGr (n:=i) h1 h2 (by omega)
  walk_at "rd"
  exact ⟨rfl,some (.int (0+i)),by rw [Int.pow_succ];rfl⟩
 ·rintro σ H' ⟨rfl,r,rfl⟩
  walk_at "rd"
  exact q
theorem WV (hl:0 < l):Int.gcd l (g % l)=Int.gcd g l:=by
 rw [Int.gcd_comm g l]
 have e:g % l=g+l*(-(g / l)):=by
  have:=Int.emod_add_mul_ediv g l
  rw [Int.mul_neg];omega
 rw [e,Int.gcd_add_mul_left_right]
include Z in
theorem JF:Has P w K mg base "_law_divisor" 1 ["_law_one", "_law_other"] (yo K):=by
 refine xF Z.kn Z.bl (l2N (by intros;rfl)) fun fq fd F=>?_
 refine F.ok yl (fun vs H Q E=>?_) (fun _ _ _ s H vs Q E hr h=>?_)
 ·walk_at "ln"
 obtain ⟨a,b,rfl,h0,q⟩:=h
 refine ⟨_,zC (ZK PassesOwn.never (zS Xk (pv 1) (zB) (zU _)) (zF (zBo (i:=0) (j:=1) rfl yl.nd rfl rfl (by decide) rfl rfl (zA (pv 1) (zA (zO jC (pv 0) (pv 1)) (zD))) rfl)))
  (zF (zP (zI kG Z.au rfl Yr (zA (pv 0) (zD))))),?_⟩
 walk_at "st"
 walk_at "rd"
 refine JY (fun m σ H'=>H'=H /\ ∃ (g l:Int),σ=[some (.int g),some (.int l)]/\0<=l/\Int.gcd g l=Int.gcd a b/\m=l.toNat) ⟨_,rfl,a,b,rfl,by omega,rfl,rfl⟩ ?_
 rintro m σ H' ⟨rfl,g,l,rfl,hl,hgl,rfl⟩
 walk_at "rd"
 ·rename_i hc k' hk'
  subst hc
  rw [Int.gcd_zero_right] at hgl
  rw [<- hgl] at q
  rw [show k'=(g.natAbs:Int) by omega];exact q
 ·rename_i hc
  have e1:=emod_nonneg g (show l≠0 by omega)
  have e2:=emod_lt_of_pos g (show 0 < l by omega)
  exact ⟨_,by omega,rfl,l,g % l,rfl,e1,(WV (by omega)).trans hgl,rfl⟩
include Z in
theorem JZ:Has P w K mg base "_law_lowest" 2 ["_law_top", "_law_bottom"] (kP K):=by
 refine xF Z.kn Z.bm (l2N (by intros;rfl)) fun fq fd F=>?_
 refine F.ok kO (fun vs H Q E=>?_) (fun _ _ _ s H vs Q E hr h=>?_)
 ·walk_at "ln"
 obtain ⟨t,b,rfl,h0,h1,q⟩:=h
 refine ⟨_,zC (zK (i:=2) kO.nd rfl (Or.inl rfl) (zG (JF Z) hr rfl (zA (pv 0) (zA (pv 1) (zD)))))
  (zF (zP (qd (zA (zO qj (pv 0) (pv 2)) (zA (zO qj (pv 1) (pv 2)) (zD)))))),?_⟩
 walk_at "st"
 have e0:0 < (Int.gcd t b:Int):=by have:=Int.gcd_pos_of_ne_zero_right t (show b≠0 by omega);omega
 have e1:(Int.gcd t b:Int)<=b.natAbs:=by have:=Int.gcd_le_natAbs_right (a:=t) (b:=b) (by omega);omega
 walk_at "rd"
 refine q _ _ (by assumption) ?_
 unfold QR Z5 YS;rw [if_neg (show ¬ b < 0 by omega),Int.fdiv_eq_ediv_of_nonneg _ (Int.le_of_lt e0),Int.fdiv_eq_ediv_of_nonneg _ (Int.le_of_lt e0)];assumption
theorem zAT (h1:0 < b) (h2:b < 10000000000000000000000000000000000000000000000000000000000000000000000000000000000000000000000000000000000000000000000000000000000000000000000000000000000000000000000000000000000000000000000) (q : ∀ p H',zY H H'->H' p=some (.tup [.int (QR t b),.int (Z5 t b)])->Q (.ref p) H'):kP K ([.int t,.int b]++[]) H Q E:=⟨t,b,rfl,h1,h2,q⟩
include Z in
theorem kS:Has P w K mg base "_law_figures" 1 ["_law_number", "_law_base"] (yj K):=by
 refine xF Z.kn Z.bn (l2N (by intros;rfl)) fun fq fd F=>?_
 refine F.ok jN (fun vs H Q E=>?_) (fun _ _ _ s H vs Q E hr h=>?_)
 ·walk_at "ln"
 obtain ⟨n,b,rfl,h1,h2,h3,h4,q⟩:=h
 refine ⟨_,zC (zK (i:=2) jN.nd rfl (Or.inl rfl) (zR jo (zb) (zO jC (pv 0) (pv 1)) (fun _ _=>rfl)))
  (zC (ZK PassesOwn.never (zS zBD (pv 0) (pv 1) (zU _)) (zC (zK (i:=0) jN.nd rfl (Or.inl rfl) (zO qj (pv 0) (pv 1)))
  (zF (zK (i:=2) jN.nd rfl (Or.inl rfl) (zO zp (zR jo (zb) (zO jC (pv 0) (pv 1)) (fun _ _=>rfl)) (pv 2))))))
  (zF (zP (pv 2)))),?_⟩
 walk_at "st"
 obtain ⟨N,rfl⟩:=eq_ofNat_of_zero_le h1
 obtain ⟨m,rfl⟩:=eq_ofNat_of_zero_le (show 0<=b by omega)
 have hz:=Qv (b:=m) (n:=N) (by omega) (by omega)
 have em : ∀ k:Nat,(k:Int) % (m:Int)=((k % m:Nat):Int):=fun k=>(Int.natCast_emod k m).symm
 have ed : ∀ k:Nat,(k:Int) / (m:Int)=((k / m:Nat):Int):=fun k=>(Int.natCast_ediv k m).symm
 have lm : ∀ k:Nat,k % m < m:=fun k=>Nat.mod_lt k (by omega)
 simp only [toNat_natCast] at q
 have l0:=lm N
 have e0:=em N
 walk_at "rd"
 rw [em N,toNat_natCast]
 refine JY (fun k σ H'=>H'=H /\ ∃ l:List Nat,σ=[some (.int k),some (.int m),some (.str (T l))]/\xh m N=if k < m then l else xh m (k / m)++l) ⟨N,rfl,[fc (N % m)],rfl,?_⟩ ?_
 ·split
  ·rename_i z;rw [jL z,Nat.mod_eq_of_lt z]
  ·rename_i z;exact y8 (by omega) (by omega)
 ·rintro k σ H' ⟨rfl,l,rfl,e⟩
  have lk:=lm (k / m)
  have ek:=em (k / m)
  have ek':=ed k
  have ll:l.length<=240:=by
   have z:=congrArg List.length e
   split at z
   ·omega
   ·rw [length_append] at z;omega
  walk_at "rd"
  ·rename_i hc
   rw [ed k,em (k / m)]
   walk_at "rd"
   refine ⟨k / m,Nat.div_lt_self (by omega) (by omega),rfl,fc (k / m % m)::l,rfl,?_⟩
   rw [e,if_neg (by omega),Kx (by omega) l]
   have dz:=Nat.div_eq_zero_iff_lt (x:=k / m) (show 0 < m by omega)
   by_cases z:k / m < m
   ·rw [if_pos z,if_pos (dz.mpr z)]
   ·rw [if_neg z,if_neg (fun y=>z (dz.mp y))]
  ·rename_i hc
   rw [if_pos (by omega)] at e
   rw [<- e];exact q
def Zi (K:W.Frag):Sp:=fun vs H Q _=>∃ (n:Int) (p:Addr) (fg pl b:Int) (sn:Str) (z:Int) (m pt:Nat) (wy:Str) (wd:Int) (f:Nat) (x:Str) (st:Bool),vs=[.int n,.ref p]/\Y9 H p fg pl b sn z m pt wy wd f x st/\QF fg pl b sn z m pt wy wd f x/\0<=n/\Xi fg pl b n /\ ∀ H',zY H H'->Q (.str (T (bdI n b pl pt z m))) H'
theorem zDM {n:Int} {pt:Nat} {f:Nat} (h1:Y9 H p fg pl b sn z m pt wy wd f x st) (h2:QF fg pl b sn z m pt wy wd f x) (h3:0<=n) (h4:Xi fg pl b n) (q : ∀ H',zY H H'->Q (.str (T (bdI n b pl pt z m))) H'):Zi K ([.int n,.ref p]++[]) H Q E:=⟨n,p,fg,pl,b,sn,z,m,pt,wy,wd,f,x,st,rfl,h1,h2,h3,h4,q⟩
def wN (K:W.Frag):Sp:=fun vs H Q _=>∃ (k:Int) (p:Addr) (fg pl b:Int) (sn:Str) (z:Int) (m pt:Nat) (wy:Str) (wd:Int) (f:Nat) (x:Str) (st:Bool),vs=[.int k,.ref p]/\Y9 H p fg pl b sn z m pt wy wd f x st/\QF fg pl b sn z m pt wy wd f x/\Xi fg pl b k /\ ∀ q H',zY H H'->H' q=some (.tup [.str (T (stL sn (decide (k < 0)))),.str (T (k7 pl b sn z m pt k))])->Q (.ref q) H'
theorem zCF {pt:Nat} {f:Nat} (h1:Y9 H p fg pl b sn z m pt wy wd f x st) (h2:QF fg pl b sn z m pt wy wd f x) (h4:Xi fg pl b k) (q : ∀ q H',zY H H'->H' q=some (.tup [.str (T (stL sn (decide (k < 0)))),.str (T (k7 pl b sn z m pt k))])->Q (.ref q) H'):wN K ([.int k,.ref p]++[]) H Q E:=⟨k,p,fg,pl,b,sn,z,m,pt,wy,wd,f,x,st,rfl,h1,h2,h4,q⟩
theorem WI {n:Int} {t:Nat} (h0:0<=n) (h1:0<=b):(n / b ^ t).toNat=n.toNat / b.toNat ^ t/\(n % b ^ t).toNat=n.toNat % b.toNat ^ t:=by
 obtain ⟨N,rfl⟩:=eq_ofNat_of_zero_le h0
 obtain ⟨B,rfl⟩:=eq_ofNat_of_zero_le h1
 have e:((B:Int) ^ t)=((B ^ t:Nat):Int):=by simp
 rw [e]
 exact ⟨by rw [<- Int.natCast_ediv,toNat_natCast,toNat_natCast,toNat_natCast],by rw [<- Int.natCast_emod,toNat_natCast,toNat_natCast,toNat_natCast]⟩
theorem zFR {z:Nat} {a:List Nat} (h:0 < a.length):gr z m (a.drop (a.length - 1))=[a.getD (a.length - 1) 0]:=by
 rw [Xr (k:=0) h,if_neg (by omega),Nat.sub_zero,Nat.sub_zero,List.drop_length,show gr z m []=[] by unfold gr;rw [List.reverse_nil,xR (by simp)];rfl];rfl
include Z in
theorem V5:Has P w K mg base "_law_body" 2 ["_law_steps", "_law_spec_here"] (Zi K):=by
 refine xF Z.kn Z.bo (l2N (by intros;rfl)) fun fq fd F=>?_
 refine F.ok zt (fun vs H Q E=>?_) (fun _ _ _ s H vs Q E hr h=>?_)
 ·walk_at "ln"
 obtain ⟨n,p,fg,pl,b,sn,z,m,pt,wy,wd,f,x,st,rfl,hp,ok,h0,h1,q⟩:=h
 refine ⟨_,zC (QW (zi QY (pv 1) (ze (zB)) (ze (zB))) (Ql rfl (zw (zf (i:=2) zt.nd rfl (Or.inl rfl)) (zw (zf (i:=3) zt.nd rfl (Or.inl rfl)) (kq)))))
  (zC (QW (zi QY (pv 1) (ze (zB)) (ze (zB))) (Ql rfl (zw (zf (i:=4) zt.nd rfl (Or.inl rfl)) (zw (zf (i:=5) zt.nd rfl (Or.inl rfl)) (zw (zf (i:=6) zt.nd rfl (Or.inl rfl)) (kq))))))
  (zC (zK (i:=7) zt.nd rfl (Or.inl rfl) (zG (xo Z) hr rfl (zA (pv 3) (zA (pv 2) (zD)))))
  (zC (zK (i:=8) zt.nd rfl (Or.inl rfl) (zG (kS Z) hr rfl (zA (zO qj (pv 0) (pv 7)) (zA (pv 3) (zD)))))
  (zC (zK (i:=9) zt.nd rfl (Or.inl rfl) (zR jo (pv 8) (wY xy (zB)) (fun _ _=>rfl)))
  (zC (yN PassesOwn.never rfl (Z7 rfl Z.al (zA (zB) (zA (zI zc Z.ak rfl qJ (zA (pv 8) (zD))) (zD)))) (zf (i:=10) zt.nd rfl (Or.inl rfl)) (zC (qD (PW.pt (Zo (zS ko (pv 4) (zB) (zU _)) (yp (zS qw (zO jC (pv 10) (pv 4)) (zB) (zU _))))) (zF (zK (i:=9) zt.nd rfl (Or.inl rfl) (zO zp (pv 5) (pv 9)))) (zZ))
  (zF (zK (i:=9) zt.nd rfl (Or.inl rfl) (zO zp (zR jo (pv 8) (zO jF (zO jF (zI zc Z.ak rfl qJ (zA (pv 8) (zD))) (zB)) (pv 10)) (fun _ _=>rfl)) (pv 9))))))
  (zC (qD (zS qw (pv 2) (zB) (zU _)) (zF (zP (pv 9))) (zZ))
  (zC (zK (i:=11) zt.nd rfl (Or.inl rfl) (zG (kS Z) hr rfl (zA (zO jC (pv 0) (pv 7)) (zA (pv 3) (zD)))))
  (zF (zP (zO zp (zO zp (zO zp (pv 9) (pv 6)) (zO kg (qS (l:=[48]) (by decide +kernel)) (zO jF (pv 2) (zI zc Z.ak rfl qJ (zA (pv 11) (zD)))))) (pv 11))))))))))),?_⟩
 walk_at "st"
 unfold Y9 at hp
 have o1:=ok.fg1;have o2:=ok.fg2;have o3:=ok.pl1;have o4:=ok.pl2;have o5:=ok.b1;have o6:=ok.b2;have o7:=ok.z1;have o8:=ok.z2
 have pw:=pw6 (b:=b) (t:=pl) o5 o6 o4
 have lim:=zF4 o1 o2 o3 o4 o5 o6 h0 h1
 have d0:0<=n / b ^ pl.toNat:=Int.ediv_nonneg h0 (by omega)
 have d1:n / b ^ pl.toNat<=n:=Int.ediv_le_self _ h0
 have m0:=emod_nonneg n (show b ^ pl.toNat≠0 by omega)
 have m1:=emod_lt_of_pos n (show 0 < b ^ pl.toNat by omega)
 obtain ⟨c1,c2⟩:=WI (t:=pl.toNat) h0 (show 0<=b by omega)
 have bd:=zC4 (b:=b.toNat) (p:=pl.toNat) (pt:=pt) (z:=z.toNat) (m:=m) (n:=n.toNat) (by omega)
 rw [<- c1,<- c2] at bd
 have a1:=JA (b:=b.toNat) (n:=(n / b ^ pl.toNat).toNat) (by omega)
 have a2:=Qv (b:=b.toNat) (n:=(n / b ^ pl.toNat).toNat) (by omega) (by omega)
 have r1:=JA (b:=b.toNat) (n:=(n % b ^ pl.toNat).toNat) (by omega)
 have r2:=Qv (b:=b.toNat) (n:=(n % b ^ pl.toNat).toNat) (by omega) (by omega)
 walk_at "rd"
 refine Vb (n:=13) hp rfl (by decide) fun p1 H1 g1 e1=>?_
 have e1':H1 p1=some (.tup [.int pl,.int b]):=e1
 clear e1
 walk_at "rd"
 refine Vb (n:=13) (g1.at hp) rfl (by decide) fun p2 H2 g2 e2=>?_
 have e2':H2 p2=some (.tup [.int z,.str (T [m]),.str (T [pt])]):=e2
 clear e2
 walk_at "rd"
 generalize xh b.toNat (n / b ^ pl.toNat).toNat=a at *
 have gl:=Y2 (z:=z.toNat) (m:=m) (a:=a)
 refine Ys (by omega) (fun i σ H'=>H'=H2 /\ ∃ r:Option V,σ=[some (.int n),some (.ref p),some (.int pl),some (.int b),some (.int z),some (.str (T [m])),some (.str (T [pt])),some (.int (b ^ pl.toNat)),some (.str (T a)),some (.str (T (gr z.toNat m (a.drop (a.length - (i+1)))))),r,none]) ⟨rfl,none,by rw [zFR a1];rfl⟩ ?_ ?_
 ·rintro i σ H' hi ⟨rfl,r,rfl⟩
  have hl:=Y2 (z:=z.toNat) (m:=m) (a:=a.drop (a.length - (i+1)))
  rw [length_drop] at hl
  have tn:=Xr (z:=z.toNat) (m:=m) (a:=a) (k:=i+1) (by omega)
  obtain ⟨Z,rfl⟩:=eq_ofNat_of_zero_le o7
  have em:(1+(i:Int)) % (Z:Int)=(((i+1) % Z:Nat):Int):=by rw [Int.natCast_emod,Int.natCast_add,Int.add_comm];rfl
  rw [toNat_natCast] at *
  have ei:((a.length:Int) - 1 - (1+(i:Int))).toNat=a.length - 1 - (i+1):=by omega
  walk_at "rd"
  ·refine ⟨rfl,some (.int (1+i)),?_⟩
   rw [tn,if_pos ⟨by omega,by omega,by omega⟩,ei];rfl
  ·refine ⟨rfl,some (.int (1+i)),?_⟩
   rw [tn,if_neg (by omega),ei];rfl
  ·refine ⟨rfl,some (.int (1+i)),?_⟩
   rw [tn,if_neg (by omega),ei];rfl
 ·rintro σ H' ⟨rfl,r,rfl⟩
  rw [show a.length - (((a.length:Int) - 1).toNat+1)=0 by omega,List.drop_zero]
  have q':=q _ (g1.trans g2)
  unfold bdI at q'
  rw [bd] at q'
  generalize gr z.toNat m a=ga at *
  walk_at "rd"
  ·rw [if_pos (by omega)] at q';exact q'
  ·rw [if_neg (by omega)] at q'
   unfold pz at q'
   generalize xh b.toNat (n % b ^ pl.toNat).toNat=rr at *
   rw [show pl.toNat - rr.length=(pl - rr.length).toNat by omega,<- append_assoc] at q'
   exact q'
theorem WP {a:V} (h:stT sn bl=[]):some (HO.tup [a,.str (T B)])=some (.tup [a,.str (T (B++stT sn bl))]):=by rw [h,append_nil]
include Z in
theorem X9:Has P w K mg base "_law_parts" 3 ["_law_steps", "_law_spec_here"] (wN K):=by
 refine xF Z.kn Z.bp (l2N (by intros;rfl)) fun fq fd F=>?_
 refine F.ok wJ (fun vs H Q E=>?_) (fun _ _ _ s H vs Q E hr h=>?_)
 ·walk_at "ln"
 obtain ⟨k,p,fg,pl,b,sn,z,m,pt,wy,wd,f,x,st,rfl,hp,ok,h1,q⟩:=h
 refine ⟨_,zC (zK (i:=2) wJ.nd rfl (Or.inl rfl) (zG (V5 Z) hr rfl (zA (zI kG Z.au rfl Yr (zA (pv 0) (zD))) (zA (pv 1) (zD)))))
  (zC (qD (PW.pt (Zo (zS qw (zR zV (pv 1) (zB) (fun _ _=>rfl)) (zb) (zU _)) (yp (zS XM (pv 0) (zB) (zU _))))) (zF (zP (qd (zA (qS (l:=[40]) (by decide +kernel)) (zA (zO zp (pv 2) (qS (l:=[41]) (by decide +kernel))) (zD)))))) (zZ))
  (zC (qD (PW.pt (Zo (zS qw (zR zV (pv 1) (zB) (fun _ _=>rfl)) (zb) (zU _)) (yp (zS XM (pv 0) (zB) (zU _))))) (zF (zP (qd (zA (qS (l:=[]) (by decide +kernel)) (zA (zO zp (pv 2) (qS (l:=[45]) (by decide +kernel))) (zD)))))) (zZ))
  (zC (qD (zS XM (pv 0) (zB) (zU _)) (zF (zP (qd (zA (qS (l:=[45]) (by decide +kernel)) (zA (pv 2) (zD)))))) (zZ))
  (zC (qD (zS qw (zR zV (pv 1) (zB) (fun _ _=>rfl)) (zb) (zU _)) (zF (zP (qd (zA (qS (l:=[43]) (by decide +kernel)) (zA (pv 2) (zD)))))) (zZ))
  (zC (qD (zS qw (zR zV (pv 1) (zB) (fun _ _=>rfl)) (zb) (zU _)) (zF (zP (qd (zA (qS (l:=[32]) (by decide +kernel)) (zA (pv 2) (zD)))))) (zZ))
  (zF (zP (qd (zA (qS (l:=[]) (by decide +kernel)) (zA (pv 2) (zD))))))))))),?_⟩
 walk_at "st"
 have hp0:=hp
 unfold Y9 at hp
 walk_at "rd"
 rename_i k' hk'
 obtain rfl:k'=(k.natAbs:Int):=by omega
 obtain ⟨nb,n2,n3,n4⟩:=JX ok h1
 have n5:(bdI k.natAbs b pl pt z m).length<=400:=by
  unfold x5 sg at n4
  rw [length_append,length_append] at n4;omega
 refine zDM hp0 ok (by omega) (by unfold Xi;rw [Int.natAbs_natCast];exact h1) fun H1 g1=>?_
 unfold k7 at q
 have hp1:=g1.at hp
 generalize bdI k.natAbs b pl pt z m=B at *
 clear hp
 rcases ok.sn with rfl | rfl | rfl | rfl | rfl
 all_goals walk_at "rd"
 all_goals rename_i hc p2 H2 g2 e2
 all_goals first | rw [decide_eq_true hc] at q | rw [decide_eq_false hc] at q
 all_goals refine q _ _ (g1.trans g2) (e2.trans ?_)
 all_goals first | rfl | exact WP rfl
def kH (K:W.Frag):Sp:=fun vs H Q _=>∃ (ld rs:List Nat) (p:Addr) (wd:Int) (f:Nat) (x:Str) (st:Bool) (d:Fd),vs=[.str (T ld),.str (T rs),.ref p]/\yA H p wd f x st d/\ld.length<=2/\rs.length<=200 /\ ∀ H',zY H H'->Q (.str (T (QE ld (ld++rs) wd f x))) H'
theorem XV {f:Nat} (h1:yA H p wd f x st d) (h3:ld.length<=2) (h4:rs.length<=200) (q : ∀ H',zY H H'->Q (.str (T (QE ld (ld++rs) wd f x))) H'):kH K ([.str (T ld),.str (T rs),.ref p]++[]) H Q E:=⟨ld,rs,p,wd,f,x,st,d,rfl,h1,h3,h4,q⟩
theorem yA.bd {f:Nat} (h:yA H p wd f x st d):XY x/\0<=wd/\wd<=40/\f < 127:=by
 cases h with
 | num e ok=>exact ⟨ok.x,ok.wd1,ok.wd2,ok.f⟩
 | word e ok=>exact ⟨.inl ok.x,ok.wd1,ok.wd2,ok.f⟩
 | cho e eL ok=>exact ⟨.inl ok.x,ok.wd1,ok.wd2,ok.f⟩
theorem zFl {f:Nat} (S:yA H p wd f x st d) (q:Q (.int wd) H):zBK K (.ref p) (.int (-4)) H Q:=by
 cases S with
 | num e=>exact kX e rfl q
 | word e=>exact kX e rfl q
 | cho e=>exact kX e rfl q
theorem zGq {f:Nat} (S:yA H p wd f x st d) (q:Q (.str (T [f])) H):zBK K (.ref p) (.int (-3)) H Q:=by
 cases S with
 | num e=>exact kX e rfl q
 | word e=>exact kX e rfl q
 | cho e=>exact kX e rfl q
theorem zGd {f:Nat} (S:yA H p wd f x st d) (q:Q (.str x) H):zBK K (.ref p) (.int (-2)) H Q:=by
 cases S with
 | num e=>exact kX e rfl q
 | word e=>exact kX e rfl q
 | cho e=>exact kX e rfl q
theorem zGZ {f:Nat} (S:yA H p wd f x st d) (q:Q (.bl st) H):zBK K (.ref p) (.int (-1)) H Q:=by
 cases S with
 | num e=>exact kX e rfl q
 | word e=>exact kX e rfl q
 | cho e=>exact kX e rfl q
include Z in
theorem XT:Has P w K mg base "_law_filled" 1 ["_law_lead", "_law_rest", "_law_spec_here"] (kH K):=by
 refine xF Z.kn Z.bq (l3N (by intros;rfl)) fun fq fd F=>?_
 refine F.ok jd (fun vs H Q E=>?_) (fun _ _ _ s H vs Q E hr h=>?_)
 ·walk_at "ln"
 obtain ⟨ld,rs,p,wd,f,x,st,d,rfl,D0,h1,h2,q⟩:=h
 refine ⟨_,zC (zDl (i:=3) (j:=4) (k:=5) rfl jd.nd rfl rfl rfl rfl rfl rfl (zA (zR zV (pv 2) (wY xy (zB)) (fun _ _=>rfl)) (zA (zR zV (pv 2) (wY xy (zB)) (fun _ _=>rfl)) (zA (zR zV (pv 2) (wY xy (zB)) (fun _ _=>rfl)) (zD)))) rfl)
  (zC (zK (i:=6) jd.nd rfl (Or.inl rfl) (zI (yY rfl) Z.ao rfl YN (zA (zB) (zA (zO jF (zO jF (pv 3) (zI zc Z.ak rfl qJ (zA (pv 0) (zD)))) (zI zc Z.ak rfl qJ (zA (pv 1) (zD)))) (zD)))))
  (zC (qD (zS qw (pv 5) (zb) (zU _)) (zF (zP (zO zp (zO zp (pv 0) (zO kg (pv 4) (pv 6))) (pv 1)))) (zZ))
  (zC (zK (i:=7) jd.nd rfl (Or.inl rfl) (zR zk (zr (zA (zB) (zA (pv 6) (zA (zO qj (pv 6) (zB)) (zD))))) (ki PySem.F.plainAttrs_list PySem.F.slot_list_index PySem.F.type_list_index W1 (zr (zA (zb) (zA (zb) (zA (zb) (zD))))) (zA (pv 5) (zD))) (fun _ _=>rfl)))
  (zF (zP (zO zp (zO zp (zO zp (zO kg (pv 4) (pv 7)) (pv 0)) (pv 1)) (zO kg (pv 4) (zO jF (pv 6) (pv 7))))))))),?_⟩
 walk_at "st"
 obtain ⟨sx0,w0,w1,_⟩:=D0.bd
 have lt:((ld++rs).length:Int)=ld.length+rs.length:=by rw [length_append];omega
 have bl:=wZ (ld++rs).length wd (by omega) w1
 have bi:=wZ rs.length (wd - ld.length) (by omega) (by omega)
 unfold QE at q
 walk_at "rd"
 refine zFl D0 ?_
 walk_at "rd"
 refine zGq D0 ?_
 walk_at "rd"
 refine zGd D0 ?_
 walk_at "rd"
 ·rename_i k' hk' hc
  rw [if_pos hc,drop_left] at q
  have e1:k'=lk rs.length (wd - ld.length):=by omega
  have q':=q _ (zY.refl _)
  unfold pad at q'
  rw [show pB "right" rs.length (wd - ld.length)=0 by unfold pB;rw [pAr];omega,pAr] at q'
  subst e1
  rw [show Int.toNat 0=0 from rfl,List.replicate_zero,append_nil,<- append_assoc] at q'
  exact q'
 ·rename_i k0 hk0 hc q2 H2 g2 n2 e2 q3 H3 g3 n3 e3
  have sx:yg x:=sx0.elim id fun z=>absurd z hc
  have pb:=xI (n:=(ld++rs).length) sx (by omega) w1
  have hk:k0=lk (ld++rs).length wd:=by omega
  clear hk0
  subst hk
  have fin : ∃ j:Nat,(["left", "right", "middle"]:List Str)[j]? = some x/\(∀ m,m < j->(["left", "right", "middle"]:List Str)[m]? ≠ some x)/\j < 1000/\atI [V.int 0,V.int (lk (ld++rs).length wd),V.int (lk (ld++rs).length wd / 2)] j=some (.int (pA x (ld++rs).length wd)):=by
   rcases sx with rfl | rfl | rfl
   ·exact ⟨0,rfl,fun m hm=>absurd hm (Nat.not_lt_zero m),by decide,by rw [pAl];rfl⟩
   ·exact ⟨1,rfl,fun m hm=>by rw [show m=0 by omega];decide +kernel,by decide,by rw [pAr];rfl⟩
   ·exact ⟨2,rfl,fun m hm=>by rcases (show m=0\/m=1 by omega) with rfl | rfl <;> decide +kernel,by decide,by rw [pAm];rfl⟩
  obtain ⟨j,j1,j2,j3,j4⟩:=fin
  obtain ⟨b1,b2,b3,_⟩:=pb
  have e4:pB x (ld++rs).length wd=lk (ld++rs).length wd - pA x (ld++rs).length wd:=rfl
  refine zAV (zs:=["left", "right", "middle"]) j e3 j1 j2 j3 ?_
  refine zAr (SqL.of (g3.at e2)) j4 ?_
  have q':=q _ (g2.trans g3)
  rw [if_neg hc] at q'
  unfold pad at q'
  rw [e4,<- append_assoc] at q'
  clear q j4 e2 bi
  generalize pA x ((ld++rs).length:Int) wd=A at *
  generalize lk ((ld++rs).length:Int) wd=L at *
  walk_at "rd"
  exact q'
def Za (K:W.Frag):Sp:=fun vs H Q _=>∃ (a:Addr) (ns:List Int),vs=[.ref a,.int 1]/\SqL K H a (ns.map V.int)/\ns.length<=63 /\ ∀ p H' wd f x st d,zY H H'->yA H' p wd f x st d->Sml d->Q (.ref p) H'
theorem zFS {a:Addr} {ns:List Int} (h1:SqL K H a (ns.map V.int)) (h2:ns.length<=63) (q : ∀ p H' wd f x st d,zY H H'->yA H' p wd f x st d->Sml d->Q (.ref p) H'):Za K ([.ref a,.int 1]++[]) H Q E:=⟨a,ns,rfl,h1,h2,q⟩
include Z in
theorem VM:Has P w K mg base "_law_spec" 4 ["_law_script", "_law_small"] (Za K):=by
 refine xF Z.kn Z.br (l2N (by intros;rfl)) fun fq fd F=>?_
 refine F.ok yz (fun vs H Q E=>?_) (fun _ _ _ s H vs Q E hr h=>?_)
 ·walk_at "ln"
 obtain ⟨a,ns,rfl,hS,h63,q⟩:=h
 refine ⟨_,zC (zK (i:=2) yz.nd rfl (Or.inl rfl) (zG (zJ Z) hr rfl (zA (zG (je Z) hr rfl (zA (pv 0) (zA (zB) (zD)))) (zA (zB) (zA (zB) (zD))))))
  (zC (zBo (i:=3) (j:=4) rfl yz.nd rfl rfl (by decide) rfl rfl (zA (zG (je Z) hr rfl (zA (pv 0) (zA (zB) (zD)))) (zA (zG (je Z) hr rfl (zA (pv 0) (zA (zB) (zD)))) (zD))) rfl)
  (zC (qD (zS XM (pv 2) (zB) (zU _)) (zF (zP (zG (kh Z) hr rfl (zA (pv 3) (zA (pv 4) (zA (pv 1) (zD))))))) (zZ))
  (zC (qD (zS qw (pv 2) (zB) (zU _)) (zF (zP (zG (Zh Z) hr rfl (zA (pv 3) (zA (pv 4) (zA (pv 1) (zD))))))) (zZ))
  (zF (zP (zG (wG Z) hr rfl (zA (pv 3) (zA (pv 4) (zA (pv 1) (zD)))))))))),?_⟩
 walk_at "st"
 walk_at "rd"
 ·exact JI rfl q
 ·exact X4 rfl q
 ·exact Q9 rfl q
def Z1 (K:W.Frag) (cN cW cC:Addr):Sp:=fun vs H Q _=>∃ (p:Addr) (wd:Int) (f:Nat) (x:Str) (st:Bool) (d:Fd),vs=[.ref p]/\yA H p wd f x st d /\ ∀ o H',zY H H'->VC K H' o cN cW cC wd f x st d->Q (.ref o) H'
theorem zEW {f:Nat} (h:yA H p wd f x st d) (q : ∀ o H',zY H H'->VC K H' o cN cW cC wd f x st d->Q (.ref o) H'):Z1 K cN cW cC ([.ref p]++[]) H Q E:=⟨p,wd,f,x,st,d,rfl,h,q⟩
include Z in
theorem Vj:Has P w K mg base "_law_form" 5 ["_law_spec_here"] (Z1 K zH zL zM):=by
 have clW:Cls K zL:=Z.bM
 have naW:qZ K zL (bns++wns):=Z.bN
 have clC:Cls K zM:=Z.bP
 have naC:qZ K zM (bns++cns):=Z.bQ
 refine xF Z.kn Z.bs (l1N (by intros;rfl)) fun fq fd F=>?_
 refine F.ok Xj (fun vs H Q E=>?_) (fun _ _ _ s H vs Q E hr h=>?_)
 ·walk_at "ln"
 obtain ⟨p,wd,f,x,st,d,rfl,D0,q⟩:=h
 refine ⟨_,zC (qD (zS qw (zR zV (pv 0) (zB) (fun _ _=>rfl)) (zb) (zU _)) (zF (zP (zG (k8 Z) hr rfl (zA (pv 0) (zD))))) (zZ))
  (zC (qD (zS qw (zR zV (pv 0) (zB) (fun _ _=>rfl)) (zb) (zU _)) (zF (zP (Q4 (zGz (yx Z) Z.bO) jg hr rfl Z.ai (zA (zR zV (pv 0) (zB) (fun _ _=>rfl)) (zA (zR zV (pv 0) (zB) (fun _ _=>rfl)) (zA (zR zV (pv 0) (zB) (fun _ _=>rfl)) (zA (zR zV (pv 0) (zB) (fun _ _=>rfl)) (zA (zR zV (pv 0) (zB) (fun _ _=>rfl)) (zA (zR zV (pv 0) (zB) (fun _ _=>rfl)) (zA (zR zV (pv 0) (zB) (fun _ _=>rfl)) (zD) z6) z6) z6) z6) z6) z6) z6)))) (zZ))
  (zF (zP (Q4 (zGz (yV Z) Z.bR) jg hr rfl Z.aj (zA (yD yy rfl Z.av X7 (zA (zR zV (pv 0) (zB) (fun _ _=>rfl)) (zD))) (zA (zR zV (pv 0) (zB) (fun _ _=>rfl)) (zA (zR zV (pv 0) (zB) (fun _ _=>rfl)) (zA (zR zV (pv 0) (zB) (fun _ _=>rfl)) (zA (zR zV (pv 0) (zB) (fun _ _=>rfl)) (zD)))))))))),?_⟩
 walk_at "st"
 cases D0 with
 | num e ok =>
  walk_at "rd"
  exact ⟨p,_,_,_,_,_,_,_,_,_,_,_,_,rfl,e,fun o H1 g1 F1=>q _ _ g1 (.num F1 ok)⟩
 | @word sg lo hi e ok =>
  walk_at "rd"
  intro o dx no nd ne
  refine ⟨o,dx,sg,lo,hi,wd,f,x,st,rfl,zQ,?_⟩
  have F1:zX K (upd (upd (upd H dx (.own o)) o (.ins zL dx [])) o (.ins zL dx (bfs wd f x st (yt sg lo hi)))) o zL wd f x st (yt sg lo hi):=⟨⟨dx,zQ⟩,clW,naW⟩
  have g3:zY H (upd (upd (upd H dx (.own o)) o (.ins zL dx [])) o (.ins zL dx (bfs wd f x st (yt sg lo hi)))):=qK (qK (qK (zY.refl _) nd) no) no
  generalize upd (upd (upd H dx (.own o)) o (.ins zL dx [])) o (.ins zL dx (bfs wd f x st (yt sg lo hi)))=H3 at F1 g3 ⊢
  exact ⟨rfl,q _ _ g3 (.word F1 ok)⟩
 | @cho L ns e eL ok =>
  walk_at "rd"
  rename_i l2 H2 g2 n2 e2
  intro o dx no nd ne
  have g3:zY H2 (upd (upd H2 dx (.own o)) o (.ins zM dx [])):=qK (qK (zY.refl _) nd) no
  refine ⟨o,dx,l2,ns,wd,f,x,st,rfl,zQ,g3.at e2,fun L2 H3 sb n3 e3 eo=>⟨rfl,q _ _ (fun b u eb=>?_) (.cho ⟨⟨dx,eo⟩,clC,naC⟩ e3 ok)⟩⟩
  have eb2:=g2.at eb
  exact sb b u (fun z=>by rw [z,no] at eb2;cases eb2) (g3.at eb2)
theorem yA.okS {f:Nat} (h:yA H p wd f x st d):okS wd f x d:=by
 cases h <;> assumption
def yR (K:W.Frag):Sp:=fun vs H Q _=>∃ (v:V) (p:Addr) (wd:Int) (f:Nat) (x:Str) (st:Bool) (d:Fd) (ld rs:List Nat),vs=[v,.ref p]/\yA H p wd f x st d/\VlA H v d ld rs /\ ∀ q H',zY H H'->H' q=some (.tup [.str (T ld),.str (T rs)])->Q (.ref q) H'
theorem ZZ {f:Nat} (h1:yA H p wd f x st d) (h2:VlA H v d ld rs) (q : ∀ q H',zY H H'->H' q=some (.tup [.str (T ld),.str (T rs)])->Q (.ref q) H'):yR K ([v,.ref p]++[]) H Q E:=⟨v,p,wd,f,x,st,d,ld,rs,rfl,h1,h2,q⟩
include Z in
theorem yh:Has P w K mg base "_law_parts_of" 4 ["_law_value", "_law_spec_here"] (yR K):=by
 refine xF Z.kn Z.bt (l2N (by intros;rfl)) fun fq fd F=>?_
 refine F.ok Zw (fun vs H Q E=>?_) (fun _ _ _ s H vs Q E hr h=>?_)
 ·walk_at "ln"
 obtain ⟨v,p,wd,f,x,st,d,ld,rs,rfl,D0,V0,q⟩:=h
 refine ⟨_,zC (qD (zS qw (zR zV (pv 1) (zB) (fun _ _=>rfl)) (zb) (zU _)) (zF (zP (zG (X9 Z) hr rfl (zA (zO qj (zO jl (zR zV (pv 0) (zB) (fun _ _=>rfl)) (zG (xo Z) hr rfl (zA (zR zV (pv 1) (zB) (fun _ _=>rfl)) (zA (zR zV (pv 1) (zB) (fun _ _=>rfl)) (zD))))) (zR zV (pv 0) (zB) (fun _ _=>rfl))) (zA (pv 1) (zD)))))) (zZ))
  (zF (zP (qd (zA (qS (l:=[]) (by decide +kernel)) (zA (pv 0) (zD)))))),?_⟩
 walk_at "st"
 cases V0 with
 | @num p0 fg pl b sn z m pt wy k hv hp lim =>
  subst hv
  cases D0 with
  | num e ok =>
   have o3:=ok.pl1;have o4:=ok.pl2;have o5:=ok.b1;have o6:=ok.b2
   have pw:=pw6 (b:=b) (t:=pl) o5 o6 o4
   have l2:=Yk (t:=k) (b:=b ^ pl.toNat) (by omega)
   have l3:=zDi (t:=k) (b:=b ^ pl.toNat) (by omega)
   have ek:QR k (b ^ pl.toNat)*b ^ pl.toNat / Z5 k (b ^ pl.toNat)=k:=by
    have e1:=zAa k (b ^ pl.toNat)
    have e2:=JB k (b ^ pl.toNat)
    generalize YS k (b ^ pl.toNat)=g at *
    have e3:QR k (b ^ pl.toNat)*b ^ pl.toNat=Z5 k (b ^ pl.toNat)*k:=
     calc QR k (b ^ pl.toNat)*b ^ pl.toNat=QR k (b ^ pl.toNat)*(Z5 k (b ^ pl.toNat)*g):=by rw [e2]
      _=Z5 k (b ^ pl.toNat)*(QR k (b ^ pl.toNat)*g):=by ac_rfl
      _=Z5 k (b ^ pl.toNat)*k:=by rw [e1]
    rw [e3,Int.mul_ediv_cancel_left _ (by omega)]
   walk_at "rd"
   rw [ek]
   exact zCF e ok lim q
 | @word sg lo hi t hv iw =>
  subst hv
  cases D0 with
  | word e ok =>
   walk_at "rd"
   exact q _ _ (by assumption) (by assumption)
 | @cho ns t hv hm =>
  subst hv
  cases D0 with
  | cho e eL ok =>
   walk_at "rd"
   exact q _ _ (by assumption) (by assumption)
def txV (wd:Int) (f:Nat) (x:Str) (st:Bool) (ld rs:List Nat):V:=if (st && decide (wd < ((ld++rs).length:Int)))=true then .non else .str (T (QE ld (ld++rs) wd f x))
def Zl (K:W.Frag):Sp:=fun vs H Q _=>∃ (v:V) (p:Addr) (wd:Int) (f:Nat) (x:Str) (st:Bool) (d:Fd) (ld rs:List Nat),vs=[v,.ref p]/\yA H p wd f x st d/\VlA H v d ld rs /\ ∀ H',zY H H'->Q (txV wd f x st ld rs) H'
theorem zFD {f:Nat} (h1:yA H p wd f x st d) (h2:VlA H v d ld rs) (q : ∀ H',zY H H'->Q (txV wd f x st ld rs) H'):Zl K ([v,.ref p]++[]) H Q E:=⟨v,p,wd,f,x,st,d,ld,rs,rfl,h1,h2,q⟩
include Z in
theorem VS:Has P w K mg base "_law_text" 5 ["_law_value", "_law_spec_here"] (Zl K):=by
 refine xF Z.kn Z.bu (l2N (by intros;rfl)) fun fq fd F=>?_
 refine F.ok y4 (fun vs H Q E=>?_) (fun _ _ _ s H vs Q E hr h=>?_)
 ·walk_at "ln"
 obtain ⟨v,p,wd,f,x,st,d,ld,rs,rfl,D0,V0,q⟩:=h
 refine ⟨_,zC (QW (zG (yh Z) hr rfl (zA (pv 0) (zA (pv 1) (zD)))) (Ql rfl (zw (zf (i:=2) y4.nd rfl (Or.inl rfl)) (zw (zf (i:=3) y4.nd rfl (Or.inl rfl)) (kq)))))
  (zC (qD (PW.pt (Zo (xQ (zR zV (pv 1) (wY xy (zB)) (fun _ _=>rfl))) (yp (zS ko (zO zv (zI zc Z.ak rfl qJ (zA (pv 2) (zD))) (zI zc Z.ak rfl qJ (zA (pv 3) (zD)))) (zR zV (pv 1) (wY xy (zB)) (fun _ _=>rfl)) (zU _))))) (zF (zP (QX))) (zZ))
  (zF (zP (zG (XT Z) hr rfl (zA (pv 2) (zA (pv 3) (zA (pv 1) (zD)))))))),?_⟩
 walk_at "st"
 obtain ⟨l1,l2,a1,a2⟩:=V0.ok D0.okS
 have la:((ld++rs).length:Int)=ld.length+rs.length:=by rw [length_append];omega
 walk_at "rd"
 refine ZZ D0 V0 fun q1 H1 g1 e1=>?_
 have D1:=D0.same g1
 unfold txV at q
 walk_at "rd"
 refine zGZ D1 ?_
 walk_at "rd"
 ·rename_i hc1
  refine zFl D1 ?_
  walk_at "rd"
  ·rename_i hc2
   have q':=q _ g1
   rw [if_pos (by rw [hc1,decide_eq_true (by omega)];rfl)] at q'
   exact q'
  ·rename_i hc2
   refine XV D1 l1 l2 fun H2 g2=>?_
   have q':=q _ (g1.trans g2)
   rw [if_neg (by rw [hc1,decide_eq_false (by omega)];decide)] at q'
   exact q'
 ·rename_i hc1
  refine XV D1 l1 l2 fun H2 g2=>?_
  have q':=q _ (g1.trans g2)
  rw [if_neg (by rw [hc1];simp)] at q'
  exact q'
def wfr (sg:List Nat) (lo n:Nat):List (List Nat):=(List.range n).flatMap fun k=>if lo<=k then wds sg k else []
theorem yJ {sg:List Nat} : ∀ {n:Nat} {t:List Nat},t ∈ wds sg n↔t.length=n /\ ∀ c ∈ t,c ∈ sg
 | 0,t=>by
  unfold wds
  constructor
  ·intro h;rw [List.mem_singleton.mp h];exact ⟨rfl,fun _ h=>nomatch h⟩
  ·rintro ⟨h,_⟩;rw [List.length_eq_zero_iff.mp h];exact List.mem_singleton.mpr rfl
 | n+1,t=>by
  unfold wds
  rw [List.mem_flatMap]
  constructor
  ·rintro ⟨w,hw,ht⟩
   obtain ⟨c,hc,rfl⟩:=List.mem_map.mp ht
   obtain ⟨h1,h2⟩:=yJ.mp hw
   refine ⟨by rw [length_append,h1];rfl,fun d hd=>?_⟩
   rcases List.mem_append.mp hd with z | z
   ·exact h2 d z
   ·rw [List.mem_singleton.mp z];exact hc
  ·rintro ⟨h1,h2⟩
   have ne:t≠[]:=fun z=>by rw [z] at h1;cases h1
   refine ⟨t.dropLast,yJ.mpr ⟨by rw [List.length_dropLast,h1];rfl,fun c hc=>h2 c ((List.dropLast_sublist t).subset hc)⟩,List.mem_map.mpr ⟨t.getLast ne,h2 _ (List.getLast_mem ne),List.dropLast_concat_getLast ne⟩⟩
theorem zBS {sg:List Nat} (h:sg.Nodup) : ∀ n,(wds sg n).Nodup
 | 0=>by unfold wds;exact List.pairwise_singleton _ _
 | n+1=>by
  unfold wds
  refine List.pairwise_flatMap.mpr ⟨fun w _=>List.pairwise_map.mpr (h.imp fun {a b} ne z=>ne (by simpa using z)),(zBS h n).imp fun {a b} ne x hx y hy z=>?_⟩
  obtain ⟨c,_,rfl⟩:=List.mem_map.mp hx
  obtain ⟨d,_,rfl⟩:=List.mem_map.mp hy
  exact ne (List.append_inj_left' z rfl)
theorem Xd (sg:List Nat) : ∀ n,(wds sg n).length=sg.length ^ n
 | 0=>rfl
 | n+1=>by
  unfold wds
  rw [List.length_flatMap]
  simp only [length_map]
  rw [show (fun _:List Nat=>sg.length)=Function.const _ sg.length from rfl,map_const,List.sum_replicate_nat,Xd sg n,Nat.pow_succ]
theorem YD {sg:List Nat} {lo:Nat} {t:List Nat}:t ∈ wfr sg lo n↔(lo<=t.length/\t.length < n) /\ ∀ c ∈ t,c ∈ sg:=by
 unfold wfr
 rw [List.mem_flatMap]
 constructor
 ·rintro ⟨k,hk,ht⟩
  rw [List.mem_range] at hk
  by_cases hl:lo<=k
  ·rw [if_pos hl] at ht
   obtain ⟨rfl,h2⟩:=yJ.mp ht
   exact ⟨⟨hl,hk⟩,h2⟩
  ·rw [if_neg hl] at ht;cases ht
 ·rintro ⟨⟨h1,h2⟩,h3⟩
  exact ⟨t.length,List.mem_range.mpr h2,by rw [if_pos h1];exact yJ.mpr ⟨rfl,h3⟩⟩
theorem zE3 {sg:List Nat} {lo:Nat} (h:sg.Nodup):(wfr sg lo n).Nodup:=by
 unfold wfr
 refine List.pairwise_flatMap.mpr ⟨fun k _=>by split;exact zBS h k;exact List.Pairwise.nil,(List.pairwise_lt_range).imp fun {i j} hij x hx y hy z=>?_⟩
 subst z
 by_cases h1:lo<=i
 ·rw [if_pos h1] at hx;rw [if_pos (by omega)] at hy
  have:=(yJ.mp hx).1;have:=(yJ.mp hy).1;omega
 ·rw [if_neg h1] at hx;cases hx
theorem ZL (sg:List Nat) (lo n:Nat):wfr sg lo (n+1)=wfr sg lo n++if lo<=n then wds sg n else []:=by
 unfold wfr;rw [range_succ,List.flatMap_append];simp
theorem Kw (sg:List Nat) (lo:Nat) : ∀ n,(wfr sg lo n).length=((List.range n).map fun k=>if lo<=k then sg.length ^ k else 0).sum
 | 0=>rfl
 | n+1=>by
  rw [ZL,length_append,Kw sg lo n,range_succ,map_append,List.sum_append]
  simp only [map_cons,map_nil,List.sum_cons,List.sum_nil]
  split
  ·rw [Xd];rfl
  ·rfl
theorem zDn {sg:List Nat} {lo hi:Nat} (h1:0 < sg.length) (h2:sg.length<=3) (h3:sg.Pairwise (· < ·)) (h5:lo<=2) (h6:lo<=hi) (h7:hi<=lo+2):zGy (wfr sg lo (hi+1)):=by
 by_cases hc:sg.length=3/\lo=2/\hi=4
 ·obtain ⟨hs,rfl,rfl⟩:=hc
  obtain ⟨a,b,c,rfl⟩ : ∃ a b c,sg=[a,b,c]:=by
   match sg,hs with
   | [a,b,c],_=>exact ⟨a,b,c,rfl⟩
  simp only [List.pairwise_cons,mem_cons,not_mem_nil,or_false,forall_eq_or_imp,forall_eq] at h3
  exact .inr ⟨a,b,c,h3.1.1,h3.2.1,rfl⟩
 ·refine .inl ?_
  rw [Kw]
  generalize sg.length=s at *
  have hs:s=1\/s=2\/s=3:=by omega
  have hl:lo=0\/lo=1\/lo=2:=by omega
  have hh:hi=lo\/hi=lo+1\/hi=lo+2:=by omega
  rcases hs with rfl | rfl | rfl <;> rcases hl with rfl | rfl | rfl <;> rcases hh with rfl | rfl | rfl <;> first | decide | (exact absurd ⟨rfl,rfl,rfl⟩ hc)
theorem zBy {sg:List Nat} {lo:Nat} (h2:sg.length<=3) (hn:n<=5):(wfr sg lo n).length<=200 /\ ∀ k,k<=5->(wds sg k).length<=300:=by
 have b : ∀ k,k<=5->(wds sg k).length<=3 ^ k:=fun k hk=>by rw [Xd];exact Nat.pow_le_pow_left h2 k
 refine ⟨?_,fun k hk=>le_trans (b k hk) (le_trans (Nat.pow_le_pow_right (by decide) hk) (by decide))⟩
 have c : ∀ k,k<=5->(wfr sg lo k).length<=((List.range k).map fun j=>3 ^ j).sum:=by
  intro k hk
  induction k with
  | zero=>exact Nat.le_refl _
  | succ k ih =>
   rw [ZL,length_append,range_succ,map_append,List.sum_append]
   simp only [map_cons,map_nil,List.sum_cons,List.sum_nil,Nat.add_zero]
   refine Nat.add_le_add (ih (by omega)) ?_
   split
   ·exact b k (by omega)
   ·exact Nat.zero_le _
 have:n=0\/n=1\/n=2\/n=3\/n=4\/n=5:=by omega
 rcases this with rfl | rfl | rfl | rfl | rfl | rfl <;> exact le_trans (c _ (by decide)) (by decide)
def xu (K:W.Frag):Sp:=fun vs H Q _=>∃ (sg:List Nat) (lo hi:Int),vs=[.str (T sg),.int lo,.int hi]/\0 < sg.length/\sg.length<=3/\sg.Pairwise (· < ·)/\0<=lo/\lo<=2/\lo<=hi/\hi<=lo+2 /\ ∀ l ds H',zY H H'->H' l=some (.lst (tsV ds))->ds.Perm (wfr sg lo.toNat (hi+1).toNat)->SrT ds->Q (.ref l) H'
theorem X3 {sg:List Nat} (h1:0 < sg.length) (h2:sg.length<=3) (h3:sg.Pairwise (· < ·)) (h4:0<=lo) (h5:lo<=2) (h6:lo<=hi) (h7:hi<=lo+2) (q : ∀ l ds H',zY H H'->H' l=some (.lst (tsV ds))->ds.Perm (wfr sg lo.toNat (hi+1).toNat)->SrT ds->Q (.ref l) H'):xu K ([.str (T sg),.int lo,.int hi]++[]) H Q E:=⟨sg,lo,hi,rfl,h1,h2,h3,h4,h5,h6,h7,q⟩
include Z in
theorem Zm:Has P w K mg base "_law_all_words" 1 ["_law_signs_here", "_law_least", "_law_most"] (xu K):=by
 refine xF Z.kn Z.bv (l3N (by intros;rfl)) fun fq fd F=>?_
 refine F.ok zo (fun vs H Q E=>?_) (fun _ _ _ s H vs Q E hr h=>?_)
 ·walk_at "ln"
 obtain ⟨sg,lo,hi,rfl,h1,h2,h3,h4,h5,h6,h7,q⟩:=h
 refine ⟨_,zC (zK (i:=3) zo.nd rfl (Or.inl rfl) (zr (zD)))
  (zC (zK (i:=4) zo.nd rfl (Or.inl rfl) (zr (zA (qS (l:=[]) (by decide +kernel)) (zD))))
  (zC (yN PassesOwn.never rfl (xU rfl Z.al (zA (zO zv (pv 2) (zB)) (zD))) (zf (i:=5) zo.nd rfl (Or.inl rfl)) (zC (qD (zS zBD (pv 5) (pv 1) (zU _)) (zF (zK (i:=3) zo.nd rfl (Or.inl rfl) (zO WO (pv 3) (pv 4)))) (zZ))
  (zC (zK (i:=6) zo.nd rfl (Or.inl rfl) (zr (zD)))
  (zC (yN PassesOwn.never rfl (jX (pv 4)) (zf (i:=7) zo.nd rfl (Or.inr rfl)) (zF (xE (ki PySem.F.plainAttrs_list PySem.F.slot_list_extend PySem.F.type_list_extend KO (pv 6) (zA (jk (cl:=[("_law_word", s.heap.objs.size+1+0)]) (fr:=["_law_word"]) (is:=[7]) rfl rfl ⟨rfl,trivial⟩ rfl ⟨⟨rfl,rfl,Or.inl rfl⟩,trivial⟩ (by decide) (by decide +kernel) rfl (by decide +kernel) rfl (YC (pv 0)) (fun _ _ _ _=>j6) (fun _ _ _ _=>zO zp (pv 1) (pv 0))) (zD))))))
  (zF (zK (i:=4) zo.nd rfl (Or.inl rfl) (pv 6)))))))
  (zF (zP (zI Qw Z.ay rfl ZY (zA (pv 3) (zD))))))),?_⟩
 walk_at "st"
 walk_at "rd"
 rename_i pf Hf gf nf ef pr Hr gr nr er
 refine Zz (by omega) (by omega) (fun k σ H'=>∃ f r s5 s6 s7,σ=[some (.str (T sg)),some (.int lo),some (.int hi),some (.ref f),some (.ref r),s5,s6,s7]/\zY H H'/\H' f=some (.lst (tsV (wfr sg lo.toNat k)))/\H' r=some (.lst (tsV (wds sg k)))) ⟨pf,pr,_,_,_,rfl,gf.trans gr,gr.at ef,er⟩ ?_ ?_
 ·rintro k σ H1 hk ⟨f,r,s5,s6,s7,rfl,g1,e1,e2⟩
  have wl:=zBy (sg:=sg) (lo:=lo.toNat) (n:=k) h2 (by omega)
  have wk:=wl.2 k (by omega)
  walk_at "rd"
  ·rename_i hc f' Hx gx' nx' ex lg H2 g2 nl el
   have gx:=g1.trans gx'
   have erx:=gx'.at e2
   rw [show wfr sg lo.toNat k++wds sg k=wfr sg lo.toNat (k+1) by rw [ZL,if_pos (by omega)]] at ex
   refine JT (SqL.of (g2.at erx)) (fun i σ H'=>∃ s7,σ=[some (.str (T sg)),some (.int lo),some (.int hi),some (.ref f'),some (.ref r),some (.int (0+k)),some (.ref lg),s7]/\zY Hx H'/\H' lg=some (.lst (tsV (((wds sg k).take i).flatMap fun w=>sg.map fun c=>w++[c])))) ⟨_,rfl,g2,el⟩ (fun i σ H' hi z=>by obtain ⟨_,_,z,_⟩:=z;exact SqL.of (z.at erx)) ?_ ?_
   ·rintro i v σ H3 hv ⟨s7,rfl,g3,e3⟩
    unfold tsV at hv
    rw [getElem?_map] at hv
    obtain ⟨w',hw,rfl⟩:=Option.map_eq_some_iff.mp hv
    have wl':w'.length=k:=(yJ.mp (mem_of_getElem? hw)).1
    walk_at "rd"
    refine JU (Nat.le_of_lt (qV (by omega))) (fun j ys H'=>H'=H3/\ys=tsV ((sg.take j).map fun c=>w'++[c])) ⟨rfl,rfl⟩ (fun j ys H' hj z=>by rw [z.2,zd,length_map,length_take];omega) ?_ ?_
    ·rintro j c ys H' hc hj ⟨rfl,rfl⟩
     walk_at "rd"
     exact nxC hj ⟨rfl,by rw [take_add_one,hc,map_append,<- jJ];rfl⟩
    ·rintro ys H' ⟨rfl,rfl⟩ pc H4 g4 e4
     rw [take_length] at e4
     walk_at "rd"
     have lx:(((wds sg k).take i).flatMap fun w=>sg.map fun c=>w++[c]).length<=900:=by
      rw [List.length_flatMap]
      simp only [length_map]
      rw [show (fun _:List Nat=>sg.length)=Function.const _ sg.length from rfl,map_const,List.sum_replicate_nat,length_take]
      exact Nat.mul_le_mul (show min i (wds sg k).length<=300 by omega) h2
     refine ⟨lg,pc,_,_,rfl,rfl,g4.at e3,e4,qY (by rw [zd,zd,length_map];omega),?_⟩
     walk_at "rd"
     refine ⟨_,rfl,fun b o eb=>by rw [qB (z7 eb nl)];exact (g3.trans g4).at eb,?_⟩
     rw [zQ,jJ,take_add_one,hw,List.flatMap_append]
     simp
   ·rintro σ H3 ⟨s7,rfl,g3,e3⟩
    walk_at "rd"
    refine ⟨f',lg,_,_,_,rfl,gx.trans g3,g3.at ex,?_⟩
    rw [zd,take_length] at e3
    exact e3
  ·rename_i hc lg H2 g2 nl el
   obtain ⟨Hx,rfl⟩ : ∃ Hx,Hx=H1:=⟨_,rfl⟩
   have gx:=g1
   have erx:=e2
   have ex:=e1
   rw [show wfr sg lo.toNat k=wfr sg lo.toNat (k+1) by rw [ZL,if_neg (by omega),append_nil]] at ex
   refine JT (SqL.of (g2.at erx)) (fun i σ H'=>∃ s7,σ=[some (.str (T sg)),some (.int lo),some (.int hi),some (.ref f),some (.ref r),some (.int (0+k)),some (.ref lg),s7]/\zY Hx H'/\H' lg=some (.lst (tsV (((wds sg k).take i).flatMap fun w=>sg.map fun c=>w++[c])))) ⟨_,rfl,g2,el⟩ (fun i σ H' hi z=>by obtain ⟨_,_,z,_⟩:=z;exact SqL.of (z.at erx)) ?_ ?_
   ·rintro i v σ H3 hv ⟨s7,rfl,g3,e3⟩
    unfold tsV at hv
    rw [getElem?_map] at hv
    obtain ⟨w',hw,rfl⟩:=Option.map_eq_some_iff.mp hv
    have wl':w'.length=k:=(yJ.mp (mem_of_getElem? hw)).1
    walk_at "rd"
    refine JU (Nat.le_of_lt (qV (by omega))) (fun j ys H'=>H'=H3/\ys=tsV ((sg.take j).map fun c=>w'++[c])) ⟨rfl,rfl⟩ (fun j ys H' hj z=>by rw [z.2,zd,length_map,length_take];omega) ?_ ?_
    ·rintro j c ys H' hc hj ⟨rfl,rfl⟩
     walk_at "rd"
     exact nxC hj ⟨rfl,by rw [take_add_one,hc,map_append,<- jJ];rfl⟩
    ·rintro ys H' ⟨rfl,rfl⟩ pc H4 g4 e4
     rw [take_length] at e4
     walk_at "rd"
     have lx:(((wds sg k).take i).flatMap fun w=>sg.map fun c=>w++[c]).length<=900:=by
      rw [List.length_flatMap]
      simp only [length_map]
      rw [show (fun _:List Nat=>sg.length)=Function.const _ sg.length from rfl,map_const,List.sum_replicate_nat,length_take]
      exact Nat.mul_le_mul (show min i (wds sg k).length<=300 by omega) h2
     refine ⟨lg,pc,_,_,rfl,rfl,g4.at e3,e4,qY (by rw [zd,zd,length_map];omega),?_⟩
     walk_at "rd"
     refine ⟨_,rfl,fun b o eb=>by rw [qB (z7 eb nl)];exact (g3.trans g4).at eb,?_⟩
     rw [zQ,jJ,take_add_one,hw,List.flatMap_append]
     simp
   ·rintro σ H3 ⟨s7,rfl,g3,e3⟩
    walk_at "rd"
    refine ⟨f,lg,_,_,_,rfl,gx.trans g3,g3.at ex,?_⟩
    rw [zd,take_length] at e3
    exact e3
 ·rintro σ H1 ⟨f,r,s5,s6,s7,rfl,g1,e1,e2⟩
  walk_at "rd"
  have fw:=zDn (hi:=hi.toNat) h1 h2 h3 (show lo.toNat<=2 by omega) (by omega) (by omega)
  rw [show hi.toNat+1=(hi+1).toNat by omega] at fw
  exact VL e1 fw fun ds l H2 pm so g2 n2 e3=>q l ds H2 (g1.trans g2) e3 pm so
structure zHP (d:Fd) (cs:List Vc):Prop where
 up:cs.Pairwise (Ris d)
 mem : ∀ c,c ∈ cs↔Vok d c
 len:cs.length<=200
 ne:0 < cs.length
def zGC:Fd->Prop
 | .num fg pl b _ _ _ _ _=>b ^ fg.toNat*b ^ pl.toNat<=100
 | .word sg lo hi=>sg.length<=3/\sg.Pairwise (· < ·)/\lo<=2/\hi<=lo+2
 | .cho _=>True
def Qg (K:W.Frag):Sp:=fun vs H Q _=>∃ (p:Addr) (wd:Int) (f:Nat) (x:Str) (st:Bool) (d:Fd),vs=[.ref p]/\yA H p wd f x st d/\zGC d /\ ∀ l us cs H',zY H H'->H' l=some (.lst us)->Al (fun v c=>VcN H' v d c) us cs->zHP d cs->Q (.ref l) H'
theorem zHB {f:Nat} (h1:yA H p wd f x st d) (h2:zGC d) (q : ∀ l us cs H',zY H H'->H' l=some (.lst us)->Al (fun v c=>VcN H' v d c) us cs->zHP d cs->Q (.ref l) H'):Qg K ([.ref p]++[]) H Q E:=⟨p,wd,f,x,st,d,rfl,h1,h2,q⟩
include Z in
theorem Ws:Has P w K mg base "_law_all" 3 ["_law_spec_here"] (Qg K):=by
 refine xF Z.kn Z.bw (l1N (by intros;rfl)) fun fq fd F=>?_
 refine F.ok kY (fun vs H Q E=>?_) (fun _ _ _ s H vs Q E hr h=>?_)
 ·walk_at "ln"
 obtain ⟨p,wd,f,x,st,d,rfl,S0,sm,q⟩:=h
 refine ⟨_,zC (qD (zS qw (zR zV (pv 0) (zB) (fun _ _=>rfl)) (zb) (zU _)) (zC (zK (i:=1) kY.nd rfl (Or.inr rfl) (zG (xo Z) hr rfl (zA (zR zV (pv 0) (zB) (fun _ _=>rfl)) (zA (zR zV (pv 0) (zB) (fun _ _=>rfl)) (zD)))))
  (zC (zK (i:=2) kY.nd rfl (Or.inl rfl) (zO jl (zG (xo Z) hr rfl (zA (zR zV (pv 0) (zB) (fun _ _=>rfl)) (zA (zR zV (pv 0) (zB) (fun _ _=>rfl)) (zD)))) (pv 1)))
  (zF (zP (jk (cl:=[("_law_step", s.heap.objs.size+1+0)]) (fr:=["_law_step"]) (is:=[1]) rfl rfl ⟨rfl,trivial⟩ rfl ⟨⟨rfl,rfl,Or.inl rfl⟩,trivial⟩ (by decide) (by decide +kernel) rfl (by decide +kernel) rfl (Z7 rfl Z.al (zA (zO jF (zB) (pv 2)) (zA (pv 2) (zD)))) (fun _ _ _ _=>j6) (fun _ _ _ _=>zG (JZ Z :) hr rfl (zA (pv 0) (zA (pv 1) (zD))))))))) (zZ))
  (zC (qD (zS qw (zR zV (pv 0) (zB) (fun _ _=>rfl)) (zb) (zU _)) (zF (zP (zG (Zm Z) hr rfl (zA (zR zV (pv 0) (zB) (fun _ _=>rfl)) (zA (zR zV (pv 0) (zB) (fun _ _=>rfl)) (zA (zR zV (pv 0) (zB) (fun _ _=>rfl)) (zD))))))) (zZ))
  (zF (zP (yD yy rfl Z.av X7 (zA (zR zV (pv 0) (zB) (fun _ _=>rfl)) (zD)))))),?_⟩
 walk_at "st"
 cases S0 with
 | @num fg pl b sn z m pt wy e ok =>
  have o1:=ok.fg1;have o2:=ok.fg2;have o3:=ok.pl1;have o4:=ok.pl2;have o5:=ok.b1;have o6:=ok.b2
  have sm:b ^ fg.toNat*b ^ pl.toNat<=100:=sm
  have p6:=pw6 (b:=b) (t:=pl) o5 o6 o4
  have pf:=KT (b:=b) o5 o6 fg.toNat
  have pf':=Xe (n:=fg.toNat) (m:=12) (by omega)
  have p12:(16:Int) ^ 12=281474976710656:=by decide +kernel
  have eb:((b.toNat ^ (fg+pl).toNat:Nat):Int)=b ^ fg.toNat*b ^ pl.toNat:=by
   rw [Int.natCast_pow,Int.toNat_of_nonneg (by omega),<- Int.pow_add,Int.toNat_add (by omega) o3]
  have l0:0 < b ^ fg.toNat*b ^ pl.toNat:=Int.mul_pos (by omega) (by omega)
  walk_at "rd"
  generalize b ^ fg.toNat*b ^ pl.toNat=L at *
  walk_at "rd"
  refine Wl (by omega) (qY (by omega)) (fun i ys H'=>zY H H'/\Al (fun v c=>VcN H' v (.num fg pl b sn z m pt wy) c) ys ((List.range i).map fun j:Nat=>Vc.n (1 - L+j))) ⟨zY.refl _,.nil⟩ (fun i ys H' hi h=>by rw [h.2.len,length_map,length_range];exact Nat.le_refl _) ?_ ?_
  ·rintro i ys H1 hi ⟨g1,al⟩
   walk_at "rd"
   refine zAT (by omega) (by omega) fun p2 H2 g2 e2=>nxC hi ⟨g1.trans g2,?_⟩
   rw [range_succ,map_append]
   exact (al.imp fun _ _ h=>h.same g2).app (.one ⟨p2,rfl,e2⟩)
  ·rintro ys H1 ⟨g1,al⟩ p2 H2 g2 n2 e2
   refine q p2 ys _ H2 (g1.trans g2) e2 (al.imp fun _ _ h=>h.same g2) ⟨List.pairwise_map.mpr ((List.pairwise_lt_range).imp fun {a c:Nat} (h:a < c)=>(show (1 - L+(a:Int)) < 1 - L+(c:Int) by omega:Ris (.num fg pl b sn z m pt wy) (.n (1 - L+(a:Int))) (.n (1 - L+(c:Int))))),fun c=>?_,by rw [length_map,length_range];omega,by rw [length_map,length_range];omega⟩
   rw [mem_map]
   constructor
   ·rintro ⟨i,hi,rfl⟩
    rw [List.mem_range] at hi
    show (1 - L+(i:Int)).natAbs < b.toNat ^ (fg+pl).toNat
    omega
   ·intro h
    cases c with
    | t t=>exact h.elim
    | n k =>
     have h:k.natAbs < b.toNat ^ (fg+pl).toNat:=h
     exact ⟨(k - 1+L).toNat,List.mem_range.mpr (by omega),congrArg Vc.n (by omega)⟩
 | @word sg lo hi e ok =>
  have sm:sg.length<=3/\sg.Pairwise (· < ·)/\lo<=2/\hi<=lo+2:=sm
  obtain ⟨s1,s2,s3,s4⟩:=sm
  have o1:=ok.s1;have o2:=ok.lo1;have o3:=ok.lo2
  walk_at "rd"
  refine X3 (by omega) s1 s2 o2 s3 o3 s4 fun l ds H1 g1 e1 pm so=>?_
  have nd:ds.Nodup:=pm.nodup_iff.mpr (zE3 (s2.imp fun h=>by omega))
  refine q l _ (ds.map .t) H1 g1 e1 (Al.map ?_) ⟨?_,fun c=>?_,by rw [length_map,pm.length_eq];exact (zBy s1 (by omega)).1,by rw [length_map];exact List.length_pos_of_mem (pm.mem_iff.mpr (YD.mpr ⟨⟨by rw [List.length_replicate];omega,by rw [List.length_replicate];omega⟩,fun c hc=>by rw [(List.mem_replicate.mp hc).2];exact getElem_mem _⟩):List.replicate lo.toNat (sg[0]'(by omega)) ∈ ds)⟩
  ·clear pm so nd e1
   induction ds with
   | nil=>exact .nil
   | cons c ds ih=>exact .cons rfl ih
  ·refine List.pairwise_map.mpr (ku (R:=fun a b:List Nat=>a < b) (fun h k=>List.lt_trans h k) fun i a b ha hb=>Jj so ha hb fun z=>?_)
   have:=ZI nd (z ▸ ha) hb
   omega
  ·rw [mem_map]
   constructor
   ·rintro ⟨c,hc,rfl⟩
    obtain ⟨⟨h1,h2⟩,h3⟩:=YD.mp (pm.mem_iff.mp hc)
    exact ⟨⟨by omega,by omega⟩,h3⟩
   ·intro h
    cases c with
    | n k=>exact h.elim
    | t c =>
     have h:Isw sg lo hi c:=h
     exact ⟨c,pm.mem_iff.mpr (YD.mpr ⟨⟨by have:=h.1.1;omega,by have:=h.1.2;omega⟩,h.2⟩),rfl⟩
 | @cho L ns e eL ok =>
  walk_at "rd"
  rename_i l H1 g1 n1 e1
  have n2:=ok.n2
  refine q l _ (ns.map .t) H1 g1 e1 (Al.map ?_) ⟨?_,fun c=>?_,by rw [length_map];omega,by rw [length_map];have:=ok.n1;omega⟩
  ·have al : ∀ ns:Ce,Al (fun (v:V) (a:List Nat)=>v = .str (T a)) (tsV ns) ns:=fun ns=>by
    induction ns with
    | nil=>exact .nil
    | cons c ds ih=>exact .cons rfl ih
   exact al ns
  ·exact List.pairwise_map.mpr (List.pairwise_iff_getElem.mpr fun i j hi hj hij=>⟨i,j,hij,getElem?_eq_getElem hi,getElem?_eq_getElem hj⟩)
  ·rw [mem_map]
   constructor
   ·rintro ⟨c,hc,rfl⟩;exact hc
   ·intro h
    cases c with
    | n k=>exact h.elim
    | t c=>exact ⟨c,h,rfl⟩
theorem WX {a b:Addr} {ys:List V} (h1:H a=some (.tup xs)) (h2:H b=some (.tup ys)) (hx:xs≠[]) (hy:ys≠[]) (hz:xs.length+ys.length<=100) (q : ∀ p H',zY H H'->H' p=some (.tup (xs++ys))->Q (.ref p) H'):zDb K (.ref a) (.ref b) H Q:=
 ⟨a,b,xs,ys,rfl,rfl,SqT.of h1,SqT.of h2,hx,Nat.le_of_lt (qV (by omega)),fun h=>absurd h hy,fun _ p n=>q p _ (qK (zY.refl _) n) zQ⟩
def QC (K:W.Frag):Sp:=fun vs H Q _=>∃ (p:Addr) (wd:Int) (f:Nat) (x:Str) (st:Bool) (d:Fd),vs=[.ref p]/\yA H p wd f x st d/\Sml d /\ ∀ p' d' H',zY H H'->yA H' p' wd f x st d'->zGC d'->Q (.ref p') H'
theorem zEF {f:Nat} (h1:yA H p wd f x st d) (h2:Sml d) (q : ∀ p' d' H',zY H H'->yA H' p' wd f x st d'->zGC d'->Q (.ref p') H'):QC K ([.ref p]++[]) H Q E:=⟨p,wd,f,x,st,d,rfl,h1,h2,q⟩
include Z in
theorem VT:Has P w K mg base "_law_less" 1 ["_law_spec_here"] (QC K):=by
 refine xF Z.kn Z.bx (l1N (by intros;rfl)) fun fq fd F=>?_
 refine F.ok Z8 (fun vs H Q E=>?_) (fun _ _ _ s H vs Q E hr h=>?_)
 ·walk_at "ln"
 obtain ⟨p,wd,f,x,st,d,rfl,S0,sm,q⟩:=h
 refine ⟨_,zC (qD (zS qw (zR zV (pv 0) (zB) (fun _ _=>rfl)) (zb) (zU _)) (zC (zK (i:=1) Z8.nd rfl (Or.inl rfl) (zI (ji rfl) Z.ap rfl Qq (zA (zR zV (pv 0) (zB) (fun _ _=>rfl)) (zA (zR zk (zr (zA (zB) (zA (zB) (zA (zB) (zD))))) (zO zv (yD Qe rfl Z.aq Wo (zA (jW ko (zR zV (pv 0) (zB) (fun _ _=>rfl)) (zB) (zU _)) (zD))) (yD Qe rfl Z.aq Wo (zA (XH (jW ko (zR zV (pv 0) (zB) (fun _ _=>rfl)) (zB) (zU _)) (YQ (jW ko (zR zV (pv 0) (zB) (fun _ _=>rfl)) (zB) (zU _)))) (zD)))) (fun _ _=>rfl)) (zD)))))
  (zF (zP (zO KS (qd (zA (zR zV (pv 0) (zB) (fun _ _=>rfl)) (zA (pv 1) (zD)))) (zi QY (pv 0) (ze (zB)) (qQ)))))) (zZ))
  (zC (qD (zS qw (zR zV (pv 0) (zB) (fun _ _=>rfl)) (zb) (zU _)) (zF (zP (zO KS (qd (zA (zR zV (pv 0) (zB) (fun _ _=>rfl)) (zA (zR zV (pv 0) (zB) (fun _ _=>rfl)) (zA (zR zV (pv 0) (zB) (fun _ _=>rfl)) (zA (zI (ji rfl) Z.ap rfl Qq (zA (zR zV (pv 0) (zB) (fun _ _=>rfl)) (zA (zO zv (zR zV (pv 0) (zB) (fun _ _=>rfl)) (zB)) (zD)))) (zD)))))) (zi QY (pv 0) (ze (zB)) (qQ))))) (zZ))
  (zF (zP (pv 0)))),?_⟩
 walk_at "st"
 cases S0 with
 | @num fg pl b sn z m pt wy e ok =>
  have sm:fg<=2/\pl<=1/\(b=10\/b=2\/b=3):=sm
  obtain ⟨s1,s2,s3⟩:=sm
  have o1:=ok.fg1;have o3:=ok.pl1
  have fin : ∀ (k:Int) (pt':Addr) (H':Hp),zY H H'->H' pt'=some (.tup [.str "number", .int k])->1<=k->k<=2->(3 < b->0 < pl->k<=1)->zGY K (.ref p) (some 2) none H' fun y H2=>zDb K (.ref pt') y H2 Q:=by
   intro k pt' H' g e' k1 k2 k3
   refine Vb (n:=13) (g.at e) rfl (by decide) fun p2 H2 g2 e2=>?_
   refine WX (g2.at e') e2 (by simp) (by simp [V9,HT.sIx]) (by simp [V9,HT.sIx]) fun p3 H3 g3 e3=>?_
   refine q p3 (.num k pl b sn z m pt wy) H3 (g.trans (g2.trans g3)) (.num e3 ⟨k1,by omega,ok.pl1,ok.pl2,ok.b1,ok.b2,ok.sn,ok.z1,ok.z2,ok.m,ok.pt,ok.wy,ok.wd1,ok.wd2,ok.f,ok.x⟩) ?_
   have hk:k=1\/k=2:=by omega
   have hp:pl=0\/pl=1:=by omega
   show b ^ k.toNat*b ^ pl.toNat<=100
   rcases hk with rfl | rfl <;> rcases hp with rfl | rfl <;> rcases s3 with rfl | rfl | rfl <;> first | decide | (exfalso;have:=k3 (by decide) (by decide);omega)
  walk_at "rd"
  all_goals
   rename_i k hk p1 H1 g1 e1
   exact fin k p1 H1 (by walk_at "sm") e1 (by omega) (by omega) (fun _ _=>by omega)
 | @word sg lo hi e ok =>
  have sm:sg.length<=3/\sg.Pairwise (· < ·)/\lo<=2/\hi<=lo+2:=sm
  walk_at "rd"
  rename_i k hk p1 H1 g1 e1
  obtain rfl:k=hi:=by omega
  refine Vb (n:=8) (g1.at e) rfl (by decide) fun p2 H2 g2 e2=>?_
  refine WX (g2.at e1) e2 (by simp) (by simp [V9,HT.sIx]) (by simp [V9,HT.sIx]) fun p3 H3 g3 e3=>?_
  exact q p3 (.word sg lo k) H3 (g1.trans (g2.trans g3)) (.word e3 ok) sm
 | @cho L ns e eL ok =>
  walk_at "rd"
  exact q p (.cho ns) H (zY.refl _) (.cho e eL ok) trivial
def Kd:Fd->Vc->Prop
 | .num _ _ _ _ _ _ _ _,.n _=>True
 | .word _ _ _,.t _=>True
 | .cho _,.t _=>True
 | _,_=>False
theorem VcN.kd {c:Vc} (h:VcN H v d c):Kd d c:=by cases d <;> cases c <;> first | exact h.elim | trivial
theorem Vok.kd {c:Vc} (h:Vok d c):Kd d c:=by cases d <;> cases c <;> first | exact h.elim | trivial
def TxB:Vc->Prop
 | .n _=>True
 | .t t=>Asc t/\t.length<=400
theorem Vok.tx {f:Nat} {c:Vc} (D:okS wd f x d) (o:Vok d c):TxB c:=by
 have h:=o.ok D
 cases c with
 | n k=>exact trivial
 | t t=>cases d with
  | num fg pl b sn z m pt wy=>exact o.elim
  | word sg lo hi=>exact ⟨h.2.2.2,le_trans h.2.1 (by decide)⟩
  | cho ns=>exact ⟨h.2.2.2,le_trans h.2.1 (by decide)⟩
def vdc:Fd->Vc->PyData
 | .num _ pl b _ _ _ _ _,.n k=>rD (b ^ pl.toNat) k
 | _,.t t=>sD t
 | _,_=>.none
theorem zFZ {c:Vc} (h:VcN H v d c):Dt K H v (vdc d c):=by
 cases d with
 | num fg pl b sn z m pt wy=>cases c with
  | n k=>obtain ⟨p,rfl,e⟩:=h;exact .tup (SqT.of e) (.cons (.int _) (.cons (.int _) .nil))
  | t t=>exact h.elim
 | word sg lo hi=>cases c with
  | n k=>exact h.elim
  | t t=>cases h;exact .str _
 | cho ns=>cases c with
  | n k=>exact h.elim
  | t t=>cases h;exact .str _
theorem zE0 {c:Vc} (kd:Kd d c) (h:TxB c):(vdc d c).canLay0=true/\(vdc d c).depth<=2:=by
 have tx : ∀ {t:List Nat},Asc t->(sD t).canLay0=true/\(sD t).depth<=2:=fun {t} a=>by
  have:=zHh a
  exact ⟨by simp [sD,PyData.canLay0,this],by simp [sD,PyData.depth]⟩
 cases d with
 | num fg pl b sn z m pt wy=>cases c with
  | n k=>exact ⟨by simp [vdc,rD,PyData.canLay0,PyData.canLayAll0],by simp [vdc,rD,PyData.depth,PyData.depthAll]⟩
  | t t=>exact kd.elim
 | word sg lo hi=>cases c with
  | n k=>exact kd.elim
  | t t=>exact tx h.1
 | cho ns=>cases c with
  | n k=>exact kd.elim
  | t t=>exact tx h.1
theorem zGT {a b:List Nat} (h:T a=T b):a=b:=by have:=congrArg Lt h;rwa [QG,QG] at this
theorem zEi {us:List V} {cs:List Vc} (al:Al (fun v c=>VcN H v d c) us cs):Dts K H us (cs.map (vdc d)):=by
 induction al with
 | nil=>exact .nil
 | cons h _ ih=>exact .cons (zFZ h) ih
theorem Wp {d:Fd} : ∀ {cs:List Vc},(∀ c ∈ cs,Kd d c/\TxB c)->PyData.canLayAll0 (cs.map (vdc d))=true/\PyData.depthAll (cs.map (vdc d))<=2
 | [],_=>⟨by simp [PyData.canLayAll0],by simp [PyData.depthAll]⟩
 | c::cs,h=>by
  have o1:=h c (mem_cons_self ..)
  have o2:=zE0 o1.1 o1.2
  have o3:=Wp (cs:=cs) fun q hq=>h q (mem_cons_of_mem _ hq)
  exact ⟨by simp only [map_cons,PyData.canLayAll0,o2.1,o3.1,Bool.and_true],by simp only [map_cons,PyData.depthAll];have:=o2.2;have:=o3.2;omega⟩
section
variable {K : W.Frag} {H : Hp} {v : V} {l : Addr} {us : List V} {cs : List Vc} {c : Vc} {wd : Int} {f : Nat} {x : Str} {d : Fd} {Q : VK}
theorem zGI (D:okS wd f x d) (e:H l=some (.lst us)) (al:Al (fun v c=>VcN H v d c) us cs) (tb : ∀ c ∈ cs,TxB c):Dt K H (.ref l) (.list (cs.map (vdc d)))/\PyData.canLayAll0 (cs.map (vdc d))=true/\PyData.depthAll (cs.map (vdc d))<=2 /\ ∀ c ∈ cs,Kd d c:=by
 have kd : ∀ c ∈ cs,Kd d c:=fun c hc=>by
  obtain ⟨i,hi⟩:=List.getElem?_of_mem hc
  have hl:=(List.getElem?_eq_some_iff.mp hi).1
  rw [<- al.len] at hl
  obtain ⟨c',h',vc⟩:=al.get (getElem?_eq_getElem hl)
  rw [hi] at h';cases h';exact vc.kd
 have o:=Wp (d:=d) fun c hc=>⟨kd c hc,tb c hc⟩
 exact ⟨.lst (SqL.of e) (zEi al),o.1,o.2,kd⟩
end
def kR (K:W.Frag):Sp:=fun vs H Q _=>∃ (c:Int) (t:List Nat),vs=[.int c,.str (T t)]/\Asc t/\t.length<=299 /\ ∀ l ts H',zY H H'->H' l=some (.lst (tsV ts))->ts.length=5->(∀ u ∈ ts,Asc u/\u.length<=300)->Q (.ref l) H'
theorem Yf {t:List Nat} (h1:Asc t) (h2:t.length<=299) (q : ∀ l ts H',zY H H'->H' l=some (.lst (tsV ts))->ts.length=5->(∀ u ∈ ts,Asc u/\u.length<=300)->Q (.ref l) H'):kR K ([.int c,.str (T t)]++[]) H Q E:=⟨c,t,rfl,h1,h2,q⟩
include Z in
theorem Jw:Has P w K mg base "_law_spoilt" 3 ["_law_cell", "_law_text_here"] (kR K):=by
 refine xF Z.kn Z.bz (l2N (by intros;rfl)) fun fq fd F=>?_
 refine F.ok xp (fun vs H Q E=>?_) (fun _ _ _ s H vs Q E hr h=>?_)
 ·walk_at "ln"
 obtain ⟨c,t,rfl,at',tl,q⟩:=h
 refine ⟨_,zC (zK (i:=2) xp.nd rfl (Or.inl rfl) (zG (zJ Z) hr rfl (zA (pv 0) (zA (zB) (zA (zO zv (zI zc Z.ak rfl qJ (zA (pv 1) (zD))) (zB)) (zD))))))
  (zC (zK (i:=3) xp.nd rfl (Or.inl rfl) (zG (jj Z) hr rfl (zA (pv 0) (zA (zB) (zD)))))
  (zF (zP (zr (zA (pv 1) (zA (zO zp (zO zp (zi jH (pv 1) (qQ) (ze (pv 2))) (pv 3)) (zi jH (pv 1) (ze (zO zv (pv 2) (zB))) (qQ))) (zA (zO zp (zi jH (pv 1) (qQ) (ze (pv 2))) (zi jH (pv 1) (ze (zO zv (pv 2) (zB))) (qQ))) (zA (zO zp (zO zp (zi jH (pv 1) (qQ) (ze (pv 2))) (pv 3)) (zi jH (pv 1) (ze (pv 2)) (qQ))) (zA (qS (l:=[]) (by decide +kernel)) (zD)))))))))),?_⟩
 walk_at "st"
 walk_at "rd"
 rename_i i h0 h1 c hc l H' g n e
 have a1:=Asc.one hc
 refine q l [t,t.take i.toNat++[c]++t.drop (i+1).toNat,t.take i.toNat++t.drop (i+1).toNat,t.take i.toNat++[c]++t.drop i.toNat,[]] H' g e rfl fun u hu=>?_
 simp only [mem_cons,not_mem_nil,or_false] at hu
 rcases hu with rfl | rfl | rfl | rfl | rfl
 ·exact ⟨at',by omega⟩
 ·exact ⟨((at'.take _).app a1).app (at'.drop _),by simp only [length_append,length_take,length_drop,length_singleton];omega⟩
 ·exact ⟨(at'.take _).app (at'.drop _),by simp only [length_append,length_take,length_drop];omega⟩
 ·exact ⟨((at'.take _).app a1).app (at'.drop _),by simp only [length_append,length_take,length_drop,length_singleton];omega⟩
 ·exact ⟨Asc.nil,by decide⟩
theorem okS.f {f:Nat} (D:okS wd f x d):f < 127:=by
 cases d with
 | num fg pl b sn z m pt wy=>have k:QF fg pl b sn z m pt wy wd f x:=D;exact k.f
 | word sg lo hi=>have k:WdS sg lo hi wd f x:=D;exact k.f
 | cho ns=>have k:ChS ns wd f x:=D;exact k.f
def Rw (wd:Int) (f:Nat) (x:Str) (st:Bool) (d:Fd) (H:Hp) (r:V) (c:Vc):Prop:=∃ q v,r = .ref q/\H q=some (.tup [v,txV wd f x st (pr d c).1 (pr d c).2])/\VcN H v d c
theorem Rw.same {f:Nat} {r:V} {c:Vc} (g:zY H H') (h:Rw wd f x st d H r c):Rw wd f x st d H' r c:=let ⟨q,v,e,k,vc⟩:=h;⟨q,v,e,g.at k,vc.same g⟩
theorem JL {f:Nat} {c:Vc} (o:Vok d c):txV wd f x st (pr d c).1 (pr d c).2 = .str (T u)↔Tld wd f x st u d c:=by
 unfold txV Tld
 cases hw:(st && decide (wd < (((pr d c).1++(pr d c).2).length:Int))) with
 | true=>exact ⟨(fun z=>by rw [if_pos rfl] at z;cases z),fun z=>Bool.noConfusion z.2.1⟩
 | false =>
  rw [if_neg Bool.false_ne_true]
  exact ⟨fun z=>⟨o,rfl,zGT (V.str.inj z)⟩,fun z=>by rw [z.2.2]⟩
def Ye (K:W.Frag):Sp:=fun vs H Q _=>∃ (a:Addr) (ns:List Int),vs=[.ref a]/\SqL K H a (ns.map V.int)/\ns.length<=63 /\ ∀ H',Q (.bl true) H'
include Z in
theorem zFj {fq:Addr} {fd:FuncData} (F:Fun K "law" "law" Xy fq fd):xG P w K mg base CX0 8 fq fd ["_law_script"] (Ye K):=by
 refine F.ok yn (fun vs H Q E=>?_) (fun _ _ _ s H vs Q E hr h=>?_)
 ·walk_at "ln"
 obtain ⟨a,ns,rfl,hS,h63,k⟩:=h
 refine ⟨_,zC (zK (i:=1) yn.nd rfl (Or.inr rfl) (zG (VT Z) hr rfl (zA (zG (VM Z) hr rfl (zA (pv 0) (zA (zB) (zD)))) (zD))))
  (zC (zK (i:=2) yn.nd rfl (Or.inl rfl) (zG (Vj Z) hr rfl (zA (pv 1) (zD))))
  (zC (wE (cl:=[("_law_spec_here", s.heap.objs.size+1+0)]) (fr:=["_law_spec_here"]) (is:=[1]) (i:=3) yn.nd rfl (Or.inl rfl) rfl rfl rfl ⟨rfl,trivial⟩ rfl ⟨⟨rfl,rfl,Or.inl rfl⟩,trivial⟩ (by decide) (by decide +kernel) rfl (by decide +kernel) rfl (jX (zG (Ws Z :) hr rfl (zA (pv 1) (zD)))) (fun _ _ _ _=>j6) (fun _ _ _ _=>qd (zA (pv 0) (zA (zG (VS Z :) hr rfl (zA (pv 0) (zA (pv 1) (zD)))) (zD)))))
  (zC (yN PassesOwn.never rfl (Z7 rfl Z.al (zA (zB) (zA (zI (yY rfl) Z.ao rfl YN (zA (zB) (zA (zI (ji rfl) Z.ap rfl Qq (zA (zI Zj Z.ak rfl qJ (zA (pv 0) (zD))) (zA (zB) (zD)))) (zD)))) (zD)))) (zf (i:=4) yn.nd rfl (Or.inl rfl)) (zC (zK (i:=5) yn.nd rfl (Or.inl rfl) (zG (je Z) hr rfl (zA (pv 0) (zA (pv 4) (zD)))))
  (zC (QW (zR zk (pv 3) (zG (zJ Z) hr rfl (zA (pv 5) (zA (zB) (zA (zI Zj Z.ak rfl qJ (zA (pv 3) (zD))) (zD))))) (fun _ _=>rfl)) (Ql rfl (zw (zf (i:=6) yn.nd rfl (Or.inl rfl)) (zw (zf (i:=7) yn.nd rfl (Or.inl rfl)) (kq)))))
  (zC (qD (zS zCr (pv 7) (QX) (zU _)) (zF (zK (i:=7) yn.nd rfl (Or.inl rfl) (ki PySem.F.plainAttrs_str PySem.F.slot_str_join PySem.F.type_str_join zA6 (qS (l:=[]) (by decide +kernel)) (zA (zG (yh Z) hr rfl (zA (pv 6) (zA (pv 1) (zD)))) (zD))))) (zZ))
  (zF (yN PassesOwn.never rfl (jX (zG (Jw Z) hr rfl (zA (pv 5) (zA (pv 7) (zD))))) (zf (i:=8) yn.nd rfl (Or.inr rfl)) (zF (qD (zS (zF3 (zHu hr)) (Y1 (qN (Xc (xm Z) in0) Z.bJ jg hr (pv 2) (zA (pv 8) (zD))) (Y1 (qN (Xc (yK Z) in0) Z.bM jg hr (pv 2) (zA (pv 8) (zD))) (qN (Xc (xl Z) in0) Z.bP jg hr (pv 2) (zA (pv 8) (zD))))) (jk (cl:=[("_law_one", s.heap.objs.size+1+1)]) (fr:=["_law_one"]) (is:=[8]) rfl rfl ⟨rfl,trivial⟩ rfl ⟨⟨rfl,rfl,Or.inl rfl⟩,trivial⟩ (by decide) (by decide +kernel) rfl (by decide +kernel) rfl (jX (pv 3)) (fun _ _ _ _=>yb (zS qw (zR (Xm (K:=K) rfl) (pv 0) (zB) (fun _ _=>rfl)) (pv 1) (zU _))) (fun _ _ _ _=>zR (Xm (K:=K) rfl) (pv 0) (zB) (fun _ _=>rfl))) (zU _)) (zF (zP (YB))) (zZ)))))))))
  (zF (zP (YB)))))),?_⟩
 walk_at "st"
 walk_at "rd"
 refine zFS hS h63 fun p0 H0 wd f x st d0 g0 S0 sm0=>?_
 walk_at "rd"
 refine zEF S0 sm0 fun p d H1 g1 S1 sm=>?_
 walk_at "rd"
 refine zEW S1 fun o H2 g2 D2=>?_
 have ok:=S1.okS
 obtain ⟨_,_,_,sx,w0,w1⟩:=D2.bd
 walk_at "rd"
 refine zHB (S1.same g2) sm fun l us cs H3 g3 e3 al3 av=>?_
 have lu:=al3.len
 have l2:=av.len
 have l1:=av.ne
 refine qP (SqL.of e3) (qY (by omega)) (fun i ys H'=>zY H3 H'/\Al (fun r c=>Rw wd f x st d H' r c) ys (cs.take i)) ⟨zY.refl _,.nil⟩ (fun i ys H' hi z=>⟨SqL.of (z.1.at e3),by rw [z.2.len,length_take];omega⟩) ?_ ?_
 ·rintro i v ys H4 hv hi ⟨g4,al4⟩
  obtain ⟨c,hc,vc⟩:=al3.get hv
  walk_at "rd"
  refine zFD (S1.same (g2.trans (g3.trans g4))) ((vc.same g4).vl ((av.mem c).mp (mem_of_getElem? hc))) fun H5 g5=>?_
  walk_at "rd"
  rename_i q6 H6 g6 e6
  refine nxC hi ⟨g4.trans (g5.trans g6),?_⟩
  rw [take_add_one,hc]
  exact (al4.imp fun _ _ h=>h.same (g5.trans g6)).app (.one ⟨q6,v,rfl,e6,vc.same (g4.trans (g5.trans g6))⟩)
 ·rintro ys H4 ⟨g4,al4⟩ rw' H5 g5 n5 e5
  rw [lu,take_length] at al4
  have al5:=al4.imp fun _ _ h=>Rw.same g5 h
  have ly:=al5.len
  have g25:zY H2 H5:=g3.trans (g4.trans g5)
  have hS5:=(g0.trans (g1.trans (g2.trans g25))).seq hS
  have S5:=S1.same (g2.trans g25)
  have D5:=D2.same g25
  clear al4
  walk_at "rd"
  rename_i j hj i hi
  refine Ys (by omega) (fun i σ H'=>zY H5 H' /\ ∃ s4 s5 s6 s7 s8,σ=[some (.ref a),some (.ref p),some (.ref o),some (.ref rw'),s4,s5,s6,s7,s8]) ⟨zY.refl _,_,_,_,_,_,rfl⟩ ?_ ?_
  ·rintro i σ H6 hi ⟨g6,s4,s5,s6,s7,s8,rfl⟩
   have hS6:=g6.seq hS5
   have e6:=g6.at e5
   walk_at "rd"
   rename_i cl v0 h0 h1
   refine wA (SqL.of e6) h0 h1 fun y hy=>?_
   obtain ⟨c,hc,q7,v7,rfl,e7,vc7⟩:=(al5.imp fun _ _ h=>Rw.same g6 h).get hy
   have ov:=(av.mem c).mp (mem_of_getElem? hc)
   obtain ⟨m1,m2,a1,a2⟩:=ov.ok ok
   have nk:=zDD (f:=f) sx w0 w1 (okS.f ok) m1 m2 a1 a2
   walk_at "rd"
   unfold txV
   cases hw:(st && decide (wd < (((pr d c).1++(pr d c).2).length:Int))) with
   | true =>
    rw [if_pos rfl]
    walk_at "rd"
    refine ZZ (S5.same g6) (vc7.vl ov) fun qq H7 g7 eq7=>?_
    walk_at "rd"
    refine zCf (xs:=[(pr d c).1,(pr d c).2]) eq7 (by show ((pr d c).1++((pr d c).2++[])).length+2*0<=_;rw [append_nil,length_append];omega) ?_
    rw [show jn (Lt (T [])) [(pr d c).1,(pr d c).2]=(pr d c).1++(pr d c).2 by rw [QG];simp [jn]]
    walk_at "rd"
    refine Yf (a1.app a2) (by rw [length_append];omega) fun l8 ts H8 g8 e8 l3 hts=>?_
    have g58:=(g6.trans g7).trans g8
    walk_at "rd"
    refine JT (SqL.of e8) (fun i σ H'=>zY H8 H' /\ ∃ s4 s5 s6 s7 s8,σ=[some (.ref a),some (.ref p),some (.ref o),some (.ref rw'),s4,s5,s6,s7,s8]) ⟨zY.refl _,_,_,_,_,_,rfl⟩ (fun i σ H' hi z=>SqL.of (z.1.at e8)) ?_ ?_
    ·rintro i y σ H9 hy ⟨g9,s4,s5,s6,s7,s8,rfl⟩
     unfold tsV at hy
     rw [getElem?_map] at hy
     obtain ⟨u,hu2,rfl⟩:=Option.map_eq_some_iff.mp hy
     obtain ⟨k1,k2⟩:=hts u (mem_of_getElem? hu2)
     have G9:=g58.trans g9
     walk_at "rd"
     refine zBs (D5.same G9) k1 k2 (fun Q' h=>by walk_at "rd"; exact h) (fun Q' h=>by walk_at "rd"; exact h) fun l10 H10 us10 cs10 g10 n10 e10 al10 td10=>?_
     have G10:=G9.trans g10
     have al11:=al5.imp fun _ _ h=>Rw.same G10 h
     have tb : ∀ c ∈ cs10,TxB c:=fun c hc=>((td10.mem c).mp hc).1.tx ok
     walk_at "rd"
     refine qP (SqL.of (G10.at e5)) (qY (by omega)) (fun i zs H'=>H'=H10/\Al (fun v c=>VcN H10 v d c) zs ((cs.take i).filter fun c=>decide (txV wd f x st (pr d c).1 (pr d c).2 = .str (T u)))) ⟨rfl,.nil⟩ (fun i zs H' hi z=>⟨by rw [z.1];exact SqL.of (G10.at e5),by rw [z.2.len];exact le_trans (length_filter_le _ _) (by rw [length_take];omega)⟩) ?_ ?_
     ·rintro i r zs H' hr hi ⟨rfl,al12⟩
      obtain ⟨c,hc,q,v,rfl,e,vc⟩:=al11.get hr
      walk_at "rd"
      refine ⟨by unfold txV;split <;> rfl,_,rfl,?_⟩
      by_cases hq:txV wd f x st (pr d c).1 (pr d c).2 = .str (T u)
      ·rw [if_pos (decide_eq_true hq)]
       walk_at "rd"
       refine nxC hi ⟨rfl,?_⟩
       rw [take_add_one,hc,filter_append]
       refine al12.app ?_
       show Al _ [v] (List.filter _ [c])
       rw [filter_cons_of_pos (p:=fun c=>decide (txV wd f x st (pr d c).1 (pr d c).2 = .str (T u))) (decide_eq_true hq),filter_nil]
       exact .one vc
      ·rw [if_neg fun z=>hq (of_decide_eq_true z)]
       refine nxC hi ⟨rfl,?_⟩
       rw [take_add_one,hc,filter_append]
       show Al _ zs (_++List.filter _ [c])
       rw [filter_cons_of_neg (p:=fun c=>decide (txV wd f x st (pr d c).1 (pr d c).2 = .str (T u))) fun z=>hq (of_decide_eq_true z),filter_nil,append_nil]
       exact al12
     ·rintro zs H' ⟨rfl,al12⟩ p13 H13 g13 n13 e13
      rw [ly,take_length] at al12
      have ec:cs.filter (fun c=>decide (txV wd f x st (pr d c).1 (pr d c).2 = .str (T u)))=cs10:=yZ (Ris.asym ok) (av.up.filter _) td10.up fun c=>by
       rw [mem_filter,td10.mem,decide_eq_true_iff]
       exact ⟨fun z=>(JL ((av.mem c).mp z.1)).mp z.2,fun z=>⟨(av.mem c).mpr z.1,(JL z.1).mpr z⟩⟩
      rw [ec] at al12
      obtain ⟨h1,h2,h3,kd⟩:=zGI (K:=K) ok (g13.at e10) (al10.imp fun _ _ h=>h.same g13) tb
      obtain ⟨h1',-⟩:=zGI (K:=K) ok e13 (al12.imp fun _ _ h=>h.same g13) tb
      walk_at "rd"
      refine zFv h1 h1' (by rw [PyData.canLay0];exact h2) (by rw [PyData.depth];omega) ?_
      walk_at "rd"
      exact ⟨g9.trans (g10.trans g13),_,_,_,_,_,rfl⟩
    ·rintro σ H9 ⟨g9,s4,s5,s6,s7,s8,rfl⟩
     exact ⟨g58.trans g9,_,_,_,_,_,rfl⟩
   | false =>
    rw [if_neg Bool.false_ne_true]
    walk_at "rd"
    refine Yf nk.1 (by omega) fun l8 ts H8 g8 e8 l3 hts=>?_
    have g58:=g6.trans g8
    walk_at "rd"
    refine JT (SqL.of e8) (fun i σ H'=>zY H8 H' /\ ∃ s4 s5 s6 s7 s8,σ=[some (.ref a),some (.ref p),some (.ref o),some (.ref rw'),s4,s5,s6,s7,s8]) ⟨zY.refl _,_,_,_,_,_,rfl⟩ (fun i σ H' hi z=>SqL.of (z.1.at e8)) ?_ ?_
    ·rintro i y σ H9 hy ⟨g9,s4,s5,s6,s7,s8,rfl⟩
     unfold tsV at hy
     rw [getElem?_map] at hy
     obtain ⟨u,hu2,rfl⟩:=Option.map_eq_some_iff.mp hy
     obtain ⟨k1,k2⟩:=hts u (mem_of_getElem? hu2)
     have G9:=g58.trans g9
     walk_at "rd"
     refine zBs (D5.same G9) k1 k2 (fun Q' h=>by walk_at "rd"; exact h) (fun Q' h=>by walk_at "rd"; exact h) fun l10 H10 us10 cs10 g10 n10 e10 al10 td10=>?_
     have G10:=G9.trans g10
     have al11:=al5.imp fun _ _ h=>Rw.same G10 h
     have tb : ∀ c ∈ cs10,TxB c:=fun c hc=>((td10.mem c).mp hc).1.tx ok
     walk_at "rd"
     refine qP (SqL.of (G10.at e5)) (qY (by omega)) (fun i zs H'=>H'=H10/\Al (fun v c=>VcN H10 v d c) zs ((cs.take i).filter fun c=>decide (txV wd f x st (pr d c).1 (pr d c).2 = .str (T u)))) ⟨rfl,.nil⟩ (fun i zs H' hi z=>⟨by rw [z.1];exact SqL.of (G10.at e5),by rw [z.2.len];exact le_trans (length_filter_le _ _) (by rw [length_take];omega)⟩) ?_ ?_
     ·rintro i r zs H' hr hi ⟨rfl,al12⟩
      obtain ⟨c,hc,q,v,rfl,e,vc⟩:=al11.get hr
      walk_at "rd"
      refine ⟨by unfold txV;split <;> rfl,_,rfl,?_⟩
      by_cases hq:txV wd f x st (pr d c).1 (pr d c).2 = .str (T u)
      ·rw [if_pos (decide_eq_true hq)]
       walk_at "rd"
       refine nxC hi ⟨rfl,?_⟩
       rw [take_add_one,hc,filter_append]
       refine al12.app ?_
       show Al _ [v] (List.filter _ [c])
       rw [filter_cons_of_pos (p:=fun c=>decide (txV wd f x st (pr d c).1 (pr d c).2 = .str (T u))) (decide_eq_true hq),filter_nil]
       exact .one vc
      ·rw [if_neg fun z=>hq (of_decide_eq_true z)]
       refine nxC hi ⟨rfl,?_⟩
       rw [take_add_one,hc,filter_append]
       show Al _ zs (_++List.filter _ [c])
       rw [filter_cons_of_neg (p:=fun c=>decide (txV wd f x st (pr d c).1 (pr d c).2 = .str (T u))) fun z=>hq (of_decide_eq_true z),filter_nil,append_nil]
       exact al12
     ·rintro zs H' ⟨rfl,al12⟩ p13 H13 g13 n13 e13
      rw [ly,take_length] at al12
      have ec:cs.filter (fun c=>decide (txV wd f x st (pr d c).1 (pr d c).2 = .str (T u)))=cs10:=yZ (Ris.asym ok) (av.up.filter _) td10.up fun c=>by
       rw [mem_filter,td10.mem,decide_eq_true_iff]
       exact ⟨fun z=>(JL ((av.mem c).mp z.1)).mp z.2,fun z=>⟨(av.mem c).mpr z.1,(JL z.1).mpr z⟩⟩
      rw [ec] at al12
      obtain ⟨h1,h2,h3,kd⟩:=zGI (K:=K) ok (g13.at e10) (al10.imp fun _ _ h=>h.same g13) tb
      obtain ⟨h1',-⟩:=zGI (K:=K) ok e13 (al12.imp fun _ _ h=>h.same g13) tb
      walk_at "rd"
      refine zFv h1 h1' (by rw [PyData.canLay0];exact h2) (by rw [PyData.depth];omega) ?_
      walk_at "rd"
      exact ⟨g9.trans (g10.trans g13),_,_,_,_,_,rfl⟩
    ·rintro σ H9 ⟨g9,s4,s5,s6,s7,s8,rfl⟩
     exact ⟨g58.trans g9,_,_,_,_,_,rfl⟩
  ·rintro σ H6 ⟨g6,s4,s5,s6,s7,s8,rfl⟩
   walk_at "rd"
   exact k _
end
theorem all_mk {l:W.OpenLaw} {w:World} {K:W.Frag} {mg:Str->Option Value} {fa xX zg zn qE qL kJ zH zL zM jf:Addr} {yG jR qa:Tok} (hfa:mg "law" = some (.ref fa)) (Z:Zs w K mg xX zg zn qE qL kJ zH zL zM jf yG jR qa) :
  ∃ fd:FuncData,(∀ (s:Shared) (v:Value),BindsTo s fd ⟨[v],[]⟩ [("_law_script", v)]) /\ ∀ base:Heap,K.In base->base.Ns mainGlobals mg->xG l.prog w K mg base CX0 8 fa fd ["_law_script"] (Ye K):=by
 obtain ⟨h,X,G⟩:=Z.kn
 obtain ⟨f,oc,od,kV,dc,pm,an,cd,ct,sl,a,l',c,k⟩:=Z.bA
 have e:=hfa.symm.trans (W.mg_of X G a)
 cases e
 exact ⟨W.fnOf "law" "law" (qC Xy) (zm Xy) (zE Xy) .none kV dc pm an cd ct,fun s v=>.of_eq rfl,fun base _ _=>zFj Z (zBe (st:=Xy) l' c k)⟩
theorem walk {l:W.OpenLaw} {q:Program} {loose:List Str} {XP:(Str->Option Value)->Heap->Prop} {YP:World->Heap->Prop} {d:DefRec} {K:Params->W.Frag} (hn:l.most=some 63) (hdf:d.params.defaults=[])
  (hY : ∀ (w:World) (h:Heap),YP w h->(K w.params).In h)
  (F : ∀ (w:World) (mg:Str->Option Value) (fa:Addr) (h:Heap),(K w.params).In h->h.Ns mainGlobals mg->mg d.name=some (.ref fa) ->
   ∃ fd:FuncData,(∀ (s:Shared) (u:Value),BindsTo s fd ⟨[u],[]⟩ [("_law_script", u)]) /\ ∀ base:Heap,(K w.params).In base->base.Ns mainGlobals mg->xG l.prog w (K w.params) mg base CX0 8 fa fd ["_law_script"] (Ye (K w.params))) :
  W.WalkO q loose XP YP l.row.toRowW d [] (fun f vs=>PySem.call f vs):=
 L2.walk_of (n:=63) (k:=8) (x:="_law_script") (CX:=fun _=>CX0) (sp:=fun w=>Ye (K w.params)) hn (by decide) hdf ⟨rfl,by decide,by decide⟩ hY F (fun _ _ a ns hl _ hS=>⟨a,ns,rfl,hS,hl,fun _=>rfl⟩) fun _ _ _ _ _ z=>z
end Pw
namespace PySem.W.Fast
def tw10020655563550632752:=Nat
def tw10025852093511911196:=Nat
def tw10038239862049703108:=Nat
def tw10058746217392828018:=Nat
def tw10092202647210074715:=Nat
def tw10129495693994450719:=Nat
def tw10149566267806679643:=Nat
def tw10149954178362630509:=Nat
def tw10187647837998508186:=Nat
def tw10192825577714653516:=Nat
def tw10193978875929296919:=Nat
def tw10201115205153735664:=Nat
def tw10213681855921646360:=Nat
def tw10233879093030512047:=Nat
def tw10246215218247133853:=Nat
def tw10252125869064749314:=Nat
def tw10265238684865584989:=Nat
def tw10269785559780390271:=Nat
def tw10285210916177299577:=Nat
def tw10291399701940984730:=Nat
def tw10296505080449188772:=Nat
def tw10315499557072677491:=Nat
def tw10320336349931697613:=Nat
def tw1036933707511475566:=Nat
def tw10375368216705381780:=Nat
def tw10375436856934783233:=Nat
def tw10404462684074750831:=Nat
def tw10405515044572387676:=Nat
def tw10420604602810723886:=Nat
def tw10432395958594856705:=Nat
def tw10447057393741979907:=Nat
def tw10447334576716121374:=Nat
def tw10467235236069137260:=Nat
def tw10472758333706907203:=Nat
def tw10474059998123975294:=Nat
def tw10493781345491431912:=Nat
def tw10497035438737319723:=Nat
def tw10522083780229704653:=Nat
def tw10551010059959718867:=Nat
def tw10581826381488820487:=Nat
def tw10641271793442730389:=Nat
def tw10690220826734363831:=Nat
def tw10693972126012143706:=Nat
def tw10716712901077058352:=Nat
def tw10740531516647080825:=Nat
def tw10767384590228432720:=Nat
def tw10782134923079591232:=Nat
def tw10804514460406442471:=Nat
def tw10808294923832605952:=Nat
def tw10809209119055997120:=Nat
def tw10903794722629110031:=Nat
def tw10904990937692373618:=Nat
def tw11001054058375101967:=Nat
def tw11025178981870320128:=Nat
def tw11041955343825288690:=Nat
def tw11046286273699833462:=Nat
def tw11088824289760494150:=Nat
def tw1116792631036210181:=Nat
def tw11175041568268619070:=Nat
def tw11178263308150753959:=Nat
def tw11188941417412441675:=Nat
def tw11279576282744403096:=Nat
def tw11291112005900536344:=Nat
def tw11306270429137429313:=Nat
def tw11360210266486834174:=Nat
def tw11366030228343301230:=Nat
def tw11384379406974631827:=Nat
def tw11384730038718001763:=Nat
def tw11506681099585688402:=Nat
def tw11512431303326734244:=Nat
def tw11526773886302315908:=Nat
def tw11529173047921760771:=Nat
def tw11532600799191153877:=Nat
def tw11631770242643684473:=Nat
def tw11650860458796459725:=Nat
def tw11654434290135178214:=Nat
def tw11679022854006045024:=Nat
def tw11696712477001900165:=Nat
def tw11732750973310519355:=Nat
def tw11742662939540691952:=Nat
def tw11759453404456960067:=Nat
def tw11768847589550842650:=Nat
def tw11802381814347941046:=Nat
def tw11824853351365261578:=Nat
def tw11829384497406140771:=Nat
def tw11861934586965139979:=Nat
def tw11906014492950454673:=Nat
def tw11920623233625783360:=Nat
def tw11926999690541502517:=Nat
def tw11928345237376922759:=Nat
def tw11929139718331479536:=Nat
def tw11952671488009357424:=Nat
def tw11960237893155951892:=Nat
def tw11977717245330742969:=Nat
def tw12006276869926999258:=Nat
def tw12006556749842745375:=Nat
def tw12010753712879154674:=Nat
def tw12029140199043636683:=Nat
def tw12035523974999506421:=Nat
def tw12053836200680982000:=Nat
def tw12115952505725247483:=Nat
def tw12165538378843554508:=Nat
def tw12259408997598983044:=Nat
def tw12307271844996063123:=Nat
def tw1232768652886106731:=Nat
def tw12332911918930755272:=Nat
def tw12334002989269786714:=Nat
def tw12334467125741706244:=Nat
def tw12338076197465491723:=Nat
def tw1237131091875855614:=Nat
def tw12389206624803342344:=Nat
def tw12493055992015160390:=Nat
def tw12514179241542145460:=Nat
def tw12537280940272259543:=Nat
def tw12556686453745276365:=Nat
def tw12563684294107608310:=Nat
def tw1258705701148954950:=Nat
def tw12622005632307079353:=Nat
def tw12635761629060356533:=Nat
def tw1273870081025042280:=Nat
def tw12764592535854807147:=Nat
def tw12768672523764960600:=Nat
def tw12771402737005502586:=Nat
def tw12785674525890856008:=Nat
def tw12831028988686022280:=Nat
def tw12866449286079078482:=Nat
def tw12879271068739941674:=Nat
def tw12880059136207296970:=Nat
def tw12930998515341763208:=Nat
def tw12940863638131156028:=Nat
def tw12974591505933304756:=Nat
def tw13028386689606600441:=Nat
def tw1303872416672101673:=Nat
def tw13044303752408128959:=Nat
def tw13095424870399830291:=Nat
def tw13099505787248021478:=Nat
def tw13128522552128158983:=Nat
def tw13148968766888472979:=Nat
def tw13166641328017834855:=Nat
def tw13169228030703911662:=Nat
def tw13177179936847966968:=Nat
def tw13190888991934916452:=Nat
def tw13221372606386969106:=Nat
def tw13235145514468187462:=Nat
def tw13240203819539479429:=Nat
def tw13260287059278196078:=Nat
def tw13260481153674278392:=Nat
def tw13262050264894932499:=Nat
def tw13266288580941317281:=Nat
def tw13299376050377784620:=Nat
def tw13307543318426767763:=Nat
def tw13307978525027256083:=Nat
def tw13336673299970474297:=Nat
def tw13374682405488700486:=Nat
def tw13429414069978500938:=Nat
def tw13435504062297441134:=Nat
def tw13460299593788837441:=Nat
def tw13541525780723035364:=Nat
def tw13555768649290823359:=Nat
def tw13577779692223715467:=Nat
def tw13624187544534148402:=Nat
def tw13639588313049908446:=Nat
def tw13763680365520759616:=Nat
def tw13764227998252768124:=Nat
def tw13770033910439648403:=Nat
def tw13776478303480546120:=Nat
def tw13829413575986851254:=Nat
def tw13844318478413052567:=Nat
def tw13879346248212265158:=Nat
def tw13893988085840954698:=Nat
def tw13950284166398147856:=Nat
def tw13982453822154553254:=Nat
def tw13996284004996339808:=Nat
def tw14046695096884002941:=Nat
def tw14065691435067862046:=Nat
def tw14067987416463670850:=Nat
def tw14127208022384312258:=Nat
def tw14127943759602125477:=Nat
def tw1414350558023152202:=Nat
def tw14150105261254251582:=Nat
def tw14152475226255356210:=Nat
def tw1415951959191376762:=Nat
def tw14176511734263629739:=Nat
def tw14181115492657288177:=Nat
def tw14199020800145298045:=Nat
def tw14215423696641482123:=Nat
def tw14228530719627612673:=Nat
def tw1425800761208774159:=Nat
def tw14265032317654414843:=Nat
def tw14298200290760333710:=Nat
def tw14304337127787177552:=Nat
def tw14332676938735239339:=Nat
def tw14346478894713429106:=Nat
def tw1436556100965568200:=Nat
def tw14393006311125033388:=Nat
def tw14408415625237127815:=Nat
def tw1450731061651336336:=Nat
def tw14539793052693730085:=Nat
def tw14578167958196888406:=Nat
def tw14597378887662402030:=Nat
def tw14638678933591730820:=Nat
def tw14671726554635796545:=Nat
def tw14768787873474694728:=Nat
def tw14783156140408226233:=Nat
def tw14823873631032021670:=Nat
def tw14826425657293839621:=Nat
def tw14854556459856766373:=Nat
def tw14883672910260782455:=Nat
def tw1489103389862716916:=Nat
def tw14913260304520523708:=Nat
def tw14966087939277338046:=Nat
def tw15024711272668887895:=Nat
def tw1503462117561390940:=Nat
def tw15042909751977958546:=Nat
def tw15053513016449844272:=Nat
def tw15071052721812109088:=Nat
def tw15089325945728228583:=Nat
def tw15175533274357024197:=Nat
def tw15222962884358569911:=Nat
def tw15223080787936885537:=Nat
def tw15270380679154829563:=Nat
def tw15314573596104301337:=Nat
def tw15330154460712152605:=Nat
def tw15337541865272747148:=Nat
def tw15368663145720224613:=Nat
def tw15387972141637645180:=Nat
def tw15429613458284420172:=Nat
def tw15431173413948663460:=Nat
def tw15442035721127944669:=Nat
def tw15474890746052830246:=Nat
def tw15547097726401976646:=Nat
def tw15577914050644789742:=Nat
def tw15590364135684612321:=Nat
def tw15613117988624799341:=Nat
def tw15623568744434666383:=Nat
def tw15685970481732824646:=Nat
def tw1570325122564125430:=Nat
def tw15706498979457744765:=Nat
def tw15746757592762705370:=Nat
def tw15768691499679110694:=Nat
def tw1581076208383259535:=Nat
def tw15835890823919792839:=Nat
def tw15901971170942909060:=Nat
def tw159242669543299062:=Nat
def tw15967894780007411881:=Nat
def tw15997436931707566943:=Nat
def tw16005147949165739034:=Nat
def tw16023911698702791309:=Nat
def tw16026106598891650513:=Nat
def tw16047107988603503503:=Nat
def tw16057350728197317566:=Nat
def tw16070179896129650933:=Nat
def tw16082191683249449714:=Nat
def tw16107949946857459402:=Nat
def tw16124474967225350456:=Nat
def tw1613115367158311536:=Nat
def tw16138343616528431831:=Nat
def tw16158310100888243890:=Nat
def tw16166977625033005415:=Nat
def tw16183892624014112325:=Nat
def tw16200826098907448656:=Nat
def tw16282039640501306587:=Nat
def tw1630966702349532656:=Nat
def tw16321943285173917693:=Nat
def tw16325467644656765000:=Nat
def tw16329704015824209789:=Nat
def tw16368157509916456201:=Nat
def tw16393648740880766405:=Nat
def tw16404940692965707911:=Nat
def tw16410821458418007877:=Nat
def tw16411649486626711831:=Nat
def tw16454719933753316391:=Nat
def tw16456806463283325955:=Nat
def tw16476474964295576792:=Nat
def tw16498851107806022035:=Nat
def tw16535383680321621351:=Nat
def tw16544260698508005424:=Nat
def tw16547742572485265832:=Nat
def tw16550568580014389604:=Nat
def tw16557573076889734721:=Nat
def tw16559973619317838891:=Nat
def tw16601202757464304191:=Nat
def tw16624658854455329181:=Nat
def tw16658703928569022119:=Nat
def tw16679393413443489371:=Nat
def tw16715468890892786442:=Nat
def tw16725183295982905056:=Nat
def tw16726286169969705529:=Nat
def tw16740497729238191973:=Nat
def tw16771309771820047367:=Nat
def tw1678516115317869367:=Nat
def tw16879213335377208142:=Nat
def tw16896407044927187801:=Nat
def tw16944681121986714559:=Nat
def tw16953629836890325780:=Nat
def tw17013089085618256458:=Nat
def tw17049239087678978779:=Nat
def tw17051286856480581392:=Nat
def tw17113925695275268706:=Nat
def tw17130612385900938402:=Nat
def tw1714560981419273849:=Nat
def tw17150964445105946639:=Nat
def tw17256913002914058448:=Nat
def tw17264621441626150676:=Nat
def tw17314082059149373637:=Nat
def tw17342398005547441490:=Nat
def tw17365348182114416102:=Nat
def tw17374393872693070153:=Nat
def tw17375558276163689622:=Nat
def tw17387323798133248714:=Nat
def tw17391210246985222616:=Nat
def tw17392320178945626758:=Nat
def tw17466256831997090093:=Nat
def tw1748426833432028118:=Nat
def tw17530357238821083049:=Nat
def tw17559571263248128153:=Nat
def tw175688210515161059:=Nat
def tw1759338379673318601:=Nat
def tw17596618225463485152:=Nat
def tw17598345102486516484:=Nat
def tw17614166970256175327:=Nat
def tw17671461321200677801:=Nat
def tw17679916461905545207:=Nat
def tw17707289808195432216:=Nat
def tw17719545813038992500:=Nat
def tw17722511087777488276:=Nat
def tw17728104982170791470:=Nat
def tw17750238740366639898:=Nat
def tw17752678267046103726:=Nat
def tw17755456578955342589:=Nat
def tw17766988239982203483:=Nat
def tw17777901803466659249:=Nat
def tw1780558525978224664:=Nat
def tw1781920616005892395:=Nat
def tw17821663133265978228:=Nat
def tw17824492060389518079:=Nat
def tw17839970631138450764:=Nat
def tw17861352495767092653:=Nat
def tw17891507039391403543:=Nat
def tw17904017371050670770:=Nat
def tw17905527755094894404:=Nat
def tw17932844804863293931:=Nat
def tw17961676674225007996:=Nat
def tw17966420981126192942:=Nat
def tw17970072061586186227:=Nat
def tw18000834120895787661:=Nat
def tw18010825764498936977:=Nat
def tw18050422946273479343:=Nat
def tw18051872197369972883:=Nat
def tw18062071869330225319:=Nat
def tw18079894276441609535:=Nat
def tw18107888720752246214:=Nat
def tw18142213871592827615:=Nat
def tw18144434688626526223:=Nat
def tw181573243585691459:=Nat
def tw18173374159266445874:=Nat
def tw18220984252361419933:=Nat
def tw18230211553218333126:=Nat
def tw18285948543407996524:=Nat
def tw18298515142507827905:=Nat
def tw18323416548914732894:=Nat
def tw18331128122288627880:=Nat
def tw18365334610915911796:=Nat
def tw18392294046075634213:=Nat
def tw1843223914845422569:=Nat
def tw18435706509295149792:=Nat
def tw184956246664924575:=Nat
def tw186076170306815928:=Nat
def tw2036047580634646468:=Nat
def tw2059364967515486876:=Nat
def tw2106691782586071384:=Nat
def tw2118332964957246732:=Nat
def tw2149927264933509127:=Nat
def tw216308750053301796:=Nat
def tw217214645362810546:=Nat
def tw2181494071909142290:=Nat
def tw2201468181638049015:=Nat
def tw2227731159624055894:=Nat
def tw2266688278270497430:=Nat
def tw2323914576873353879:=Nat
def tw2340190365136125509:=Nat
def tw2370532786156609121:=Nat
def tw2377385113383539385:=Nat
def tw2416196204161839427:=Nat
def tw242111656180667688:=Nat
def tw2425037842374267126:=Nat
def tw2435258998062078803:=Nat
def tw2455295125414139451:=Nat
def tw2466041158449968228:=Nat
def tw246927170808592582:=Nat
def tw2571251074838229020:=Nat
def tw2642476142459446079:=Nat
def tw2650251059784165734:=Nat
def tw2656529811196307596:=Nat
def tw2660175735822186686:=Nat
def tw2689973106874915626:=Nat
def tw2703367183361252254:=Nat
def tw2727442695590541133:=Nat
def tw2751836219398400013:=Nat
def tw2789133389064741856:=Nat
def tw2803638188382588042:=Nat
def tw2826891055914935113:=Nat
def tw2836206573273677793:=Nat
def tw2842507457572413710:=Nat
def tw2873760606734437688:=Nat
def tw2932071867920916621:=Nat
def tw2934863703066687980:=Nat
def tw2947923742529862811:=Nat
def tw3020901258964495660:=Nat
def tw3024233784000105141:=Nat
def tw3025927462667780027:=Nat
def tw3031160676412714655:=Nat
def tw3079382782147479813:=Nat
def tw3088942264447639371:=Nat
def tw3118290537790528112:=Nat
def tw3142083193608820744:=Nat
def tw3142511191314130007:=Nat
def tw3160267227898117857:=Nat
def tw3178037091822166286:=Nat
def tw319250463478981441:=Nat
def tw3199457094066905100:=Nat
def tw3218545695793610546:=Nat
def tw3233631878253223297:=Nat
def tw3288532853080137913:=Nat
def tw3288709517124083730:=Nat
def tw3298120974695507382:=Nat
def tw3302743158394834427:=Nat
def tw3312339009153223183:=Nat
def tw3336278501963556608:=Nat
def tw3345455628459040829:=Nat
def tw341055155969268848:=Nat
def tw3410776773863205191:=Nat
def tw3429084955391448654:=Nat
def tw3437324157098728069:=Nat
def tw3439557979484586922:=Nat
def tw3463032183965144974:=Nat
def tw3465556972872393197:=Nat
def tw3488961322723584523:=Nat
def tw349442868753067342:=Nat
def tw3509628583232017960:=Nat
def tw3513716884979870398:=Nat
def tw3554240338218465751:=Nat
def tw3579719687561298330:=Nat
def tw3592542882060578260:=Nat
def tw3610033881666230081:=Nat
def tw3613750203831571964:=Nat
def tw3621081933920830447:=Nat
def tw3625944952331501772:=Nat
def tw3627250977952437242:=Nat
def tw3665398380494573638:=Nat
def tw3691137512444803663:=Nat
def tw3705898994112809307:=Nat
def tw3722493706276448324:=Nat
def tw3736612467082664687:=Nat
def tw3780845192671398583:=Nat
def tw3820543039887221093:=Nat
def tw3850760689166361405:=Nat
def tw3891691037848733638:=Nat
def tw3928769366384455254:=Nat
def tw3934416785793588269:=Nat
def tw3950951178276805031:=Nat
def tw3990669397280061544:=Nat
def tw4008966885511668832:=Nat
def tw4038684998755316440:=Nat
def tw4040495923455093382:=Nat
def tw4085346886195721061:=Nat
def tw4108097222289332792:=Nat
def tw4116363155937652903:=Nat
def tw4117217350720023881:=Nat
def tw4137280682592797364:=Nat
def tw4142119662405051484:=Nat
def tw4156036770887534559:=Nat
def tw4160069942933380162:=Nat
def tw4179416252910311858:=Nat
def tw4310508675419670082:=Nat
def tw4402068665034439262:=Nat
def tw4408542948254684986:=Nat
def tw446214088820962607:=Nat
def tw4518001378783664203:=Nat
def tw4566460571249055561:=Nat
def tw4572696046637386428:=Nat
def tw4607454047180207145:=Nat
def tw4635286174502465286:=Nat
def tw4636537606281028865:=Nat
def tw4650798512216601155:=Nat
def tw4652364913372074230:=Nat
def tw4655249675654847017:=Nat
def tw4677760193836788494:=Nat
def tw4694425164618974887:=Nat
def tw4707994420786711257:=Nat
def tw4714518541750343864:=Nat
def tw4770874581739920632:=Nat
def tw4773809908373257235:=Nat
def tw4777319480795062171:=Nat
def tw4788662559709944328:=Nat
def tw4808729413187906801:=Nat
def tw4820017815150406421:=Nat
def tw4823931947326237628:=Nat
def tw4848407561659816871:=Nat
def tw4886540184574023851:=Nat
def tw4914931555155936283:=Nat
def tw4939692291834559226:=Nat
def tw4972669381877199931:=Nat
def tw5017268531793744109:=Nat
def tw503063365211647669:=Nat
def tw5033652153150197627:=Nat
def tw506384812717991591:=Nat
def tw5078336308358102169:=Nat
def tw5098601289691118266:=Nat
def tw5139015280575959481:=Nat
def tw515919115940320687:=Nat
def tw5217304364601596561:=Nat
def tw5226080426736474767:=Nat
def tw5231550682478698159:=Nat
def tw5293041940571647441:=Nat
def tw5345338670340933789:=Nat
def tw5416654395714339168:=Nat
def tw5512683723423300897:=Nat
def tw5562224296002928924:=Nat
def tw55847864276623613:=Nat
def tw5616792041888746717:=Nat
def tw5637366707892634998:=Nat
def tw5649784878724635002:=Nat
def tw5680502367725110524:=Nat
def tw5696474463187742219:=Nat
def tw5712905532744117589:=Nat
def tw5717189459838383923:=Nat
def tw5726962857822021552:=Nat
def tw5756617641917900733:=Nat
def tw5765421448685119946:=Nat
def tw5768066307678698973:=Nat
def tw5774028753139180120:=Nat
def tw5782140658749183469:=Nat
def tw5803317884010356973:=Nat
def tw5823848076653701623:=Nat
def tw5836498408274661222:=Nat
def tw584416807577077335:=Nat
def tw590048259352484324:=Nat
def tw5920971633568859487:=Nat
def tw5944187706403298291:=Nat
def tw5961956939874924745:=Nat
def tw5962168927064881046:=Nat
def tw6000270647613049582:=Nat
def tw6014934542600730026:=Nat
def tw6019296919298750214:=Nat
def tw6022719860242569033:=Nat
def tw6051581649657640286:=Nat
def tw6081496006543462832:=Nat
def tw6085540558485829884:=Nat
def tw6100073921235165832:=Nat
def tw6136589123504199905:=Nat
def tw6139300679551608159:=Nat
def tw6154928154888262017:=Nat
def tw6173999648841218939:=Nat
def tw6183616258278667866:=Nat
def tw6221333303899437211:=Nat
def tw6263237399208174193:=Nat
def tw6293495379102682522:=Nat
def tw6368211984024434043:=Nat
def tw6380247832726943469:=Nat
def tw6386067192348395351:=Nat
def tw6389879953875878284:=Nat
def tw6483565621425940256:=Nat
def tw6483688199643801486:=Nat
def tw6483863729268468027:=Nat
def tw6495472156147980035:=Nat
def tw6498794682190916511:=Nat
def tw6509961529069556995:=Nat
def tw6521563839107773094:=Nat
def tw6536309086849117175:=Nat
def tw6565661882764999600:=Nat
def tw6571441466510606266:=Nat
def tw6596248633404084801:=Nat
def tw6609587906739019508:=Nat
def tw6650064745805098137:=Nat
def tw6668995894364342244:=Nat
def tw6677924498913842723:=Nat
def tw6703998679351751986:=Nat
def tw6715516684326920361:=Nat
def tw6754274301421016294:=Nat
def tw6763836730184685948:=Nat
def tw676384050491327755:=Nat
def tw6814373337521534925:=Nat
def tw6834909203065079598:=Nat
def tw6850455300628876184:=Nat
def tw6850502770882994101:=Nat
def tw6868248338926338888:=Nat
def tw6902190699158281675:=Nat
def tw6905259402715896602:=Nat
def tw6907100400105501672:=Nat
def tw6909022477959137524:=Nat
def tw6968063224031115421:=Nat
def tw6982452834194775221:=Nat
def tw7059045194650496198:=Nat
def tw7082852237294916168:=Nat
def tw7103087975131685009:=Nat
def tw7113443048650071211:=Nat
def tw7153493129776968539:=Nat
def tw7160715245217086552:=Nat
def tw7173110276974253508:=Nat
def tw7229316971040016592:=Nat
def tw7268177483648105679:=Nat
def tw7274776491786235823:=Nat
def tw7296547782529850936:=Nat
def tw730343573077666931:=Nat
def tw7310991711677494301:=Nat
def tw7328104515775073619:=Nat
def tw7361614323386229818:=Nat
def tw7379204137222814470:=Nat
def tw7423489780391232104:=Nat
def tw7425684643400763678:=Nat
def tw7427569100153062981:=Nat
def tw743625397116759073:=Nat
def tw7449757267157012818:=Nat
def tw7457654923521363284:=Nat
def tw7526226728048552578:=Nat
def tw7543458113154087885:=Nat
def tw7593340936047479068:=Nat
def tw7601973642403585065:=Nat
def tw7653025546118083302:=Nat
def tw7677975706600201883:=Nat
def tw7691946177796138468:=Nat
def tw7725092171793599450:=Nat
def tw7726819292006650983:=Nat
def tw7764440241205046183:=Nat
def tw7789688961601826694:=Nat
def tw783483324705847294:=Nat
def tw7907318632372169993:=Nat
def tw7911907649082336783:=Nat
def tw7943216250475640028:=Nat
def tw795102988815960165:=Nat
def tw7976166315784430523:=Nat
def tw8003365432187382856:=Nat
def tw8054594141075895126:=Nat
def tw8116204779766276897:=Nat
def tw8160945856615915818:=Nat
def tw8169940445762475908:=Nat
def tw8177821155600739:=Nat
def tw8204159287428288263:=Nat
def tw8208055627903115423:=Nat
def tw8214646481231037126:=Nat
def tw8226950928867707238:=Nat
def tw824606869266558028:=Nat
def tw8255371132453009202:=Nat
def tw8263997447493006296:=Nat
def tw8282044957427387797:=Nat
def tw8391210067746866568:=Nat
def tw8415968430667922673:=Nat
def tw8419383092462270903:=Nat
def tw8488591217326244990:=Nat
def tw8491400723142034834:=Nat
def tw8496347042966327435:=Nat
def tw8504950465787290233:=Nat
def tw8507221805706116694:=Nat
def tw8569065697554325913:=Nat
def tw8590292321396236219:=Nat
def tw8599937962465638026:=Nat
def tw861533411490523777:=Nat
def tw8634403568661558366:=Nat
def tw864039113774382267:=Nat
def tw8741200817507509314:=Nat
def tw8760408945457176843:=Nat
def tw8783332720845706507:=Nat
def tw8807494081403794367:=Nat
def tw8830899461468556483:=Nat
def tw8859705239604765804:=Nat
def tw8886705229530178710:=Nat
def tw8999151703122953073:=Nat
def tw9112514305091793496:=Nat
def tw9155739497286635033:=Nat
def tw9163699080789197169:=Nat
def tw9167066817939013667:=Nat
def tw9195005617844237600:=Nat
def tw9228671788566494146:=Nat
def tw9233128513752226526:=Nat
def tw9263456500234152544:=Nat
def tw9391158346737496606:=Nat
def tw9427079389270763862:=Nat
def tw9432764095609021550:=Nat
def tw944668186104024823:=Nat
def tw9451591409928963297:=Nat
def tw945228380046309581:=Nat
def tw9454109038222921543:=Nat
def tw9503183594806955226:=Nat
def tw9578174490618472213:=Nat
def tw9590421862275301286:=Nat
def tw9609442687026901605:=Nat
def tw9610899867891562321:=Nat
def tw9632969622477670670:=Nat
def tw9656649090233309510:=Nat
def tw9685031520958072476:=Nat
def tw9755932588225425730:=Nat
def tw97586683505925983:=Nat
def tw9762589735543243758:=Nat
def tw9771223112541521085:=Nat
def tw9777316786929186155:=Nat
def tw9786323186804796178:=Nat
def tw9805206636496720425:=Nat
def tw9818891520957148509:=Nat
def tw9849132491228402661:=Nat
def tw9858094814729090537:=Nat
def tw9863213426491211242:=Nat
def tw990427201290195671:=Nat
def tw9940176579594758360:=Nat
def tw9946527606841742273:=Nat
def tw9946853474526310283:=Nat
def tw9947414192002538470:=Nat
def tw9974173733402535643:=Nat
end PySem.W.Fast
open PySem PySem.W PyProof.Rows
local macro_rules | `(tactic| walk_at "df")=>`(tactic| ((refine' L2.dfx_mk ?a ?l ?c ?k);(case a|l|c|k=>k_is)))
local macro_rules | `(tactic| walk_at "na")=>`(tactic| repeat (first | exact trivial | ((refine' And.intro ?_ ?_);next=>first | k_is | (show _=_;k_is))))
local macro_rules | `(tactic| walk_at "dm")=>`(tactic| ((refine' L2.dmx_mk ?a ?l ?c ?k ?n ?i);(case a|l|c|k|n=>k_is);(case i=>walk_at "na")))
local macro_rules | `(tactic| walk_at "dd")=>`(tactic| ((refine' L2.ddx_mk ?a ?l ?c ?k ?n ?d ?s ?i);(case a|l|c|k|n|d=>k_is);(case s=>rfl);(case i=>walk_at "na")))
local macro_rules | `(tactic| walk_at "dc")=>`(tactic| ((refine' L2.dcx_mk ?a ?l ?c ?k ?n ?d ?e ?f);(case a|l|c|k|n|d|e|f=>k_is)))
local macro_rules | `(tactic| walk_at "ex")=>`(tactic| ((refine' L2.Exc.mk ?x ?a ?b ?c ?d ?e ?f ?g ?h);(case x=>k_exc);(case a|b|c|d|e|f|g|h=>k_is)))
local macro_rules | `(tactic| walk_at "cl")=>`(tactic| ((refine' L2.Cls.mk ?a ?b ?c ?d);(case a|b|c|d=>k_is)))
local macro_rules | `(tactic| walk_at "mi")=>`(tactic| ((refine' And.intro ?a ?b);(case a|b=>k_is)))
set_option maxRecDepth 100000 in
set_option maxHeartbeats 0 in
theorem PySem.Challenge.cw_padwright_k46_whole_all_values_for_a_tex_holds : PySem.Challenge.rw_padwright_k46_whole_all_values_for_a_tex.Holds := by
 w_on;o_law;k_head;(case hw=>w_witness2)
 k_fill
 refine Pw.walk (l:=PySem.Challenge.rw_padwright_k46_whole_all_values_for_a_tex) rfl rfl (fun w h Y=>PySem.W.kIn_of Y) ?F
 case F =>
  intro w mg fa h KX G hmg
  refine' Pw.all_mk hmg (Pw.Zs.mk ⟨_,KX,G⟩ (PySem.W.mg_of KX G ?va) (PySem.W.mg_of KX G ?vb) (PySem.W.mg_of KX G ?vc) (PySem.W.mg_of KX G ?vd) (PySem.W.mg_of KX G ?ve) (PySem.W.mg_of KX G ?vf) (PySem.W.mg_of KX G ?vg) (PySem.W.mg_of KX G ?vh) (PySem.W.mg_of KX G ?vi) (PySem.W.mg_none_of KX G ?vj) (PySem.W.mg_none_of KX G ?vk) (PySem.W.mg_none_of KX G ?vl) (PySem.W.mg_none_of KX G ?vm) (PySem.W.mg_none_of KX G ?vn) (PySem.W.mg_none_of KX G ?vo) (PySem.W.mg_none_of KX G ?vp) (PySem.W.mg_none_of KX G ?vq) (PySem.W.mg_none_of KX G ?vr) (PySem.W.mg_none_of KX G ?vs) (PySem.W.mg_none_of KX G ?vt) (PySem.W.mg_none_of KX G ?vu) (PySem.W.mg_none_of KX G ?vv) (PySem.W.mg_of KX G ?vw) (PySem.W.mg_of KX G ?vx) (PySem.W.mg_of KX G ?vy) (PySem.W.mg_of KX G ?vz) ?vA ?f0 ?f1 ?f2 ?f3 ?f4 ?f5 ?f6 ?f7 ?f8 ?f9 ?vB ?vC ?vD ?vE ?vF ?vG ?vH ?vI ?vJ ?vK ?vL ?vM ?vN ?vO ?vP ?vQ ?vR ?vS ?vT ?vU ?vV ?vW ?vX ?vY ?vZ ?v0 ?v1 ?v2 ?v3 ?v4 ?v5 ?v6 ?v7 ?v8 ?v9 ?wa ?wb ?wc ?wd ?we ?wf ?wg ?wh ?wi ?wj ?wk ?wl ?wm ?wn ?wo ?wp ?wq ?vb ?vc ?vd ?ve ?wr ?ws ?wt ?wu ?wv ?ww ?wx ?wy ?wz ?xg ?xf ?xc ?xb)
  (case va|vb|vc|vd|ve|vf|vg|vh|vi=>first | k_is | (show _=_;k_is))
  (case vj|vk|vl|vm|vn|vo|vp|vq|vr|vs|vt|vu|vv|vw|vx|vy|vz=>first | k_is | (show _=_;k_is))
  (case vA=>(refine' L2.sty_mk ?d ?hp0 ?ha0 ?hb0 ?hp1 ?ha1 ?hb1 ?hp2 ?ha2 ?hb2 ?hp3 ?ha3 ?hb3 ?hp4 ?ha4 ?hb4);(case d=>k_is);(case hp0=>k_is);(case ha0=>k_is);(case hb0=>k_is);(case hp1=>k_is);(case ha1=>k_is);(case hb1=>k_is);(case hp2=>k_is);(case ha2=>k_is);(case hb2=>k_is);(case hp3=>k_is);(case ha3=>k_is);(case hb3=>k_is);(case hp4=>k_is);(case ha4=>k_is);(case hb4=>k_is))
  (case f0|f1|f2|f3|f4|f5|f6|f7|f8|f9|vB|vC|vD|vE|vF|vG|vH|vP|vR|vS|vU|v0|v1|v2|v3|v4|v5|v6|v7|v8|v9|wa|wb|wc|wd|we|wf|wg|wh|wi|wj|wk|wl|wm=>walk_at "df")
  (case vI=>walk_at "dc")
  (case vJ|vK|vL=>walk_at "dd")
  (case vM|vN|vO|vQ|vT|vV|vW|vX|vY|vZ=>walk_at "dm")
  (case wn|wo|wp|wq=>walk_at "ex")
  (case wr|wu|wx=>walk_at "cl")
  (case ws|wv|wy=>walk_at "na")
  (case wt|ww|wz=>walk_at "mi")
  (case xg|xf|xc|xb=>kts_exm)

import PyProof.Rows.All
import KE.KDictList
import KE.KFromBytes
import KE.KItem
import KE.KNestM
import KE.KTryMore
import KE.RegKIsAll
import KE.RegKTryMore
import Wide.FinOn
import PyProof.Rows.StrJoin2
import PyProof.Rows.SortStr
import PySem.Challenge.RW_padwright_k55_whole_told_forms_put
set_option Elab.async false
set_option linter.all false
set_option maxRecDepth 100000
set_option compiler.extract_closed false
local macro_rules | `(tactic|omega)=>`(tactic|first|decide|lia|omega (config:={}))
local macro_rules|`(tactic|symm)=>`(tactic|k_extra "st")
local macro_rules|`(tactic|nofun)=>`(tactic|k_extra "hd")
local macro_rules|`(tactic|left)=>`(tactic|walk_at "rd")
local macro_rules|`(tactic|right)=>`(tactic|decide+kernel)
namespace L2
open PySem PySem.Spec PyProof.Rows
open List (length_cons mem_append_right mem_cons_of_mem)
open Nat (le_refl le_trans lt_irrefl lt_of_lt_of_le ne_of_lt zero_le)
abbrev Nd(x:Str):Prop:=(x==("__debug__":Str))=false
abbrev Key:=Sum Int Str
def ES:Key->Value->Bool
 |.inl k,v=>Value.isInt k v
 |.inr x,v=>Value.isStrOf x v
def IK(w:World):Key->Int
 |.inl k=>hashInt k
 |.inr x=>hashStr w x
theorem ql:∀{k:Key}{v:Value},ES k v=true->(∃i t,k=Sum.inl i/\v=Value.int i t)\/(∃x t,k=Sum.inr x/\v=Value.str x t)
 |.inl i,v,h=>by
  obtain⟨t,e⟩:=Value.isInt_shape (k:=i) (v:=v) h;exact .inl ⟨i,t,rfl,e⟩
 |.inr x,v,h=>by
  obtain⟨t,e⟩:=Value.isStrOf_shape (x:=x) (v:=v) h;exact .inr ⟨x,t,rfl,e⟩
theorem Fi(a b:Int):decide ((Sum.inl a:Key)=Sum.inl b)=(a==b):=by
 by_cases e:a=b
 .subst e;simp
 .have h:¬(Sum.inl a:Key)=Sum.inl b:=λq=>e (Sum.inl.inj q);rw[decide_eq_false h];exact(beq_eq_false_iff_ne.mpr e).symm
theorem EQ(a b:Str):decide ((Sum.inr a:Key)=Sum.inr b)=decide (a=b):=by
 by_cases e:a=b
 .subst e;simp
 .have h:¬(Sum.inr a:Key)=Sum.inr b:=λq=>e (Sum.inr.inj q);rw[decide_eq_false h,decide_eq_false e]
theorem DY(a:Int)(b:Str):decide ((Sum.inl a:Key)=Sum.inr b)=false:=decide_eq_false (λq=>nomatch q)
theorem Eg(a:Str)(b:Int):decide ((Sum.inr a:Key)=Sum.inl b)=false:=decide_eq_false (λq=>nomatch q)
def nQ(prog:Program)(w:World):PySem.KeyKind prog w Key where
 is:=ES
 hash:=IK w
 inj:=λv a b ha hb=>by
  rcases ql ha with⟨i,t,rfl,rfl⟩|⟨x,t,rfl,rfl⟩
  .rcases ql hb with⟨j,u,rfl,e⟩|⟨y,u,rfl,e⟩
   .injection e with e1 _;rw[e1]
   .exact nomatch e
  .rcases ql hb with⟨j,u,rfl,e⟩|⟨y,u,rfl,e⟩
   .exact nomatch e
   .injection e with e1 _;rw[e1]
 byValue:=λk v h=>by
  rcases ql h with⟨i,t,rfl,rfl⟩|⟨x,t,rfl,rfl⟩<;>rfl
 pyHash:=λhv h=>by
  rcases ql hv with⟨i,t,rfl,rfl⟩|⟨x,t,rfl,rfl⟩
  .exact wpAny_pyHash_int h
  .exact wpAny_pyHash_str h
 eqBool:=λhu hv h=>by
  rcases ql hu with⟨i,t,rfl,rfl⟩|⟨x,t,rfl,rfl⟩
  .rcases ql hv with⟨j,u,rfl,rfl⟩|⟨y,u,rfl,rfl⟩
   .rw[Fi]at h;exact wpAny_eqBool_int h
   .rw[DY]at h;exact SeqAt.EqAt.int_str i t y u _ _ _ _ h
  .rcases ql hv with⟨j,u,rfl,rfl⟩|⟨y,u,rfl,rfl⟩
   .rw[Eg]at h;exact SeqAt.EqAt.str_int x t j u _ _ _ _ h
   .rw[EQ]at h;exact wpAny_eqBool_str h
 «strs»:=λk x t v h=>by
  rcases ql h with⟨i,u,rfl,e⟩|⟨y,u,rfl,e⟩
  .exact nomatch e
  .injection e with e1 _;subst e1;cases v<;>rfl
inductive V where
 |non|bl (b:Bool)|int (i:Int)|str (x:Str)|byt (b:Array UInt8)|flt (b:UInt64)|ref (a:Addr)|ty (n:String)
 deriving DecidableEq
def xX:V->Value->Prop
 |.non,u=>u=Value.none
 |.bl b,u=>u=Value.bool b
 |.int i,u=>∃t,u=Value.int i t
 |.str x,u=>∃t,u=Value.str x t
 |.byt b,u=>∃t,u=Value.bytes b t
 |.flt b,u=>∃t,u=Value.float b t
 |.ref a,u=>u=Value.ref a
 |.ty n,u=>u=Value.type n
abbrev qP:List V->List Value->Prop:=Paired xX
variable{xs:List V}{us:List Value}
theorem qP.length(r:qP xs us):xs.length=us.length:=Paired.length r
theorem qP.get:∀{xs:List V}{us:List Value}{i:Nat}{x:V},qP xs us->xs[i]?=some x->∃u,us[i]?=some u/\xX x u
 |_,_,_,_,.nil,e=>by simp at e
 |_,_,0,_,.cons r _,e=>by simp at e;subst e;exact⟨_,rfl,r⟩
 |_,_,i+1,x,.cons _ t,e=>by
  obtain⟨u,h1,h2⟩:=qP.get (i:=i) (x:=x) t (by simpa using e);exact⟨u,by simpa using h1,h2⟩
theorem qP.set{x:V}{u:Value}(r:xX x u):∀{xs:List V}{us:List Value}(i:Nat),qP xs us->qP (xs.set i x) (us.set i u)
 |_,_,_,.nil=>.nil
 |_,_,0,.cons _ t=>.cons r t
 |_,_,i+1,.cons q t=>.cons q (qP.set r i t)
theorem qP.append:∀{xs ys:List V}{us ws:List Value},qP xs us->qP ys ws->qP (xs++ys) (us++ws)
 |_,_,_,_,.nil,s=>s
 |_,_,_,_,.cons r t,s=>.cons r (qP.append t s)
theorem qP.take:∀{xs:List V}{us:List Value}(n:Nat),qP xs us->qP (xs.take n) (us.take n)
 |_,_,0,_=>.nil
 |_,_,_+1,.nil=>.nil
 |_,_,n+1,.cons r t=>.cons r (qP.take n t)
theorem qP.drop:∀{xs:List V}{us:List Value}(n:Nat),qP xs us->qP (xs.drop n) (us.drop n)
 |_,_,0,r=>r
 |_,_,_+1,.nil=>.nil
 |_,_,n+1,.cons _ t=>qP.drop n t
theorem qP.none_of:∀{xs:List V}{us:List Value}{i:Nat},qP xs us->xs[i]?=none->us[i]?=none:=λ{xs us i}r e=>by
 have h1:=r.length;have h2:xs.length<=i:=List.getElem?_eq_none_iff.mp e;exact List.getElem?_eq_none_iff.mpr (by omega)
def pN:Option V->Option Value->Prop
 |some v,some u=>xX v u
 |none,none=>True
 |_,_=>False
def KV{κ:Type}:List (κ×V)->List (κ×Value)->Prop:=Paired λ(p:κ×V)(q:κ×Value)=>p.1=q.1/\xX p.2 q.2
def kV:Key->V
 |.inl i=>.int i
 |.inr x=>.str x
inductive HO where
 |lst (xs:List V)
 |tup (xs:List V)
 |dK (kvs:List (Key×V))|dT (kvs:List (List Key×V))
 |set (S:Int->Bool) (n:Nat)
 |ins (C dx:Addr) (fs:List (Str×V))
 |own (x:Addr)
 |xd (fs:List (Str×V))
 |met (f x:Addr)
 |rng (lo hi:Int)
 |frz (o:Obj) (u:HO)
 |tbl (ps:Array Value)
 |ext (φ:Heap->Prop)
abbrev Hp:=Addr->Option HO
def upd(H:Hp)(a:Addr)(o:HO):Hp:=λb=>if b=a then some o else H b
variable{H:Hp}{a:Addr}{o:HO}
theorem zO:upd H a o a=some o:=by unfold upd;rw[if_pos rfl]
variable{b:Addr}
theorem zu(h:b≠a):upd H a o b=H b:=by unfold upd;rw[if_neg h]
variable{u:HO}
theorem qr:upd (upd H a o) a u=upd H a u:=by
 funext b;unfold upd;split<;>rfl
theorem Ge(h:H a=some o)(h':H b=some u)(d:o≠u):a≠b:=by
 intro e;subst e;rw[h]at h';exact d (Option.some.inj h')
theorem qI(h:H a=some o)(h':H b=none):a≠b:=by
 intro e;subst e;rw[h]at h';cases h'
section
variable(P:Program)(w:World)
def x0(H:Hp)(h:Heap)(a:Addr):HO->Prop
 |.lst xs=>xs.length<=sizeLine/\∃(its:List Value)(n:Nat),qP xs its/\h.get? a=some { cls:=.type "list",data:=.seq its.toArray n }
 |.tup xs=>xs.length<=sizeLine/\∃its:List Value,qP xs its/\IsTup h a its.toArray
 |.dK kvs=>kvs.length<=sizeLine/\(a==sysModules)=false/\∃vs,KV kvs vs/\h.DictOf (nQ P w) a vs
 |.dT kvs=>kvs.length<=sizeLine/\(a==sysModules)=false/\∃xs:List (List Key×Addr×Value),
   Paired (λ(p:List Key×V)(q:List Key×Addr×Value)=>p.1=q.1/\H q.2.1=some (.tup (p.1.map kV))/\xX p.2 q.2.2) kvs xs /\
   ∃o es ep,h.get? a=some o/\o.ExactDict/\o.data=.dict es ep/\es.toList=xs.map (entryOfKey (tupleKind (nQ P w)))/\(xs.map (·.1)).Nodup
 |.set S n=>h.SetOf (intKind P w) a S n
 |.ins C dx fs=>H dx=some (.own a)/\fs.length<=1000/\dx≠a/\h.get? a=some (W.instObj C dx) /\
   ∃mA,h.Ns1 dx mA/\(∀f,pN (fs.lookup f) (mA f))/\PySem.Within mA (fs.map (·.1))
 |.own _=>∃o,h.get? a=some o
 |.xd fs=>∃mA,h.Ns1 a mA/\∀f,pN (fs.lookup f) (mA f)
 |.rng lo hi=>∃t u v,h.get? a=some { cls:=.type "range",data:=.fields #[.int lo t,.int hi u,.int 1 v] }
 |.frz o u=>h.get? a=some o/\x0 H h a u
 |.tbl ps=>h.get? a=some { cls:=.none,data:=.fields ps }
 |.met f x=>h.get? a=some (W.methodObj (.ref f) (.ref x))
 |.ext φ=>φ h/\(∃o,h.get? a=some o)/\∀h1 h2:Heap,φ h1->(∀o,h1.get? a=some o->h2.get? a=some o)->φ h2
def HOk(H:Hp)(h:Heap):Prop:=∀a o,H a=some o->x0 P w H h a o
end
section
variable{P:Program}{w:World}{H H':Hp}{h h':Heap}{a:Addr}{o:HO}
theorem x0.lt(x:x0 P w H h a o):a<h.objs.size:=by
 cases o with
 |lst xs=>obtain⟨_,_,_,_,e⟩:=x;exact Heap.lt_size e
 |tup xs=>obtain⟨_,_,_,p⟩:=x;exact p.lt
 |dK kvs=>obtain⟨_,_,_,_,o,_,_,e,_⟩:=x;exact Heap.lt_size e
 |dT kvs=>obtain⟨_,_,_,_,o,_,_,e,_⟩:=x;exact Heap.lt_size e
 |set S n=>obtain⟨o,_,_,_,e,_⟩:=x;exact Heap.lt_size e
 |ins C dx fs=>obtain⟨_,_,_,e,_⟩:=x;exact Heap.lt_size e
 |own y=>obtain⟨_,e⟩:=x;exact Heap.lt_size e
 |xd fs=>obtain⟨_,⟨_,_,_,e,_⟩,_⟩:=x;exact Heap.lt_size e
 |rng lo hi=>obtain⟨_,_,_,e⟩:=x;exact Heap.lt_size e
 |frz ob u=>obtain⟨e,_⟩:=x;exact Heap.lt_size e
 |tbl ps=>exact Heap.lt_size (show h.get? a=some _ from x)
 |met f y=>exact Heap.lt_size (show h.get? a=some _ from x)
 |ext φ=>obtain⟨_,⟨_,e⟩,_⟩:=x;exact Heap.lt_size e
theorem Paired.mapP{α β:Type}{F G:α->β->Prop}:∀{l₁:List α}{l₂:List β},Paired F l₁ l₂->(∀a b,F a b->G a b)->Paired G l₁ l₂
 |_,_,.nil,_=>.nil
 |_,_,.cons r t,f=>.cons (f _ _ r) (Paired.mapP t f)
theorem x0.stay(x:x0 P w H h a o)(k:∀b u,(b=a\/H b=some (.own a))->h.get? b=some u->h'.get? b=some u)
  (ho:∀b,H b=some (.own a)->H' b=some (.own a)) (ht:∀b xs,H b=some (.tup xs)->H' b=some (.tup xs)):x0 P w H' h' a o:=by
 induction o with
 |lst xs=>obtain⟨z,its,n,r,e⟩:=x;exact⟨z,its,n,r,k _ _ (.inl rfl) e⟩
 |tup xs=>obtain⟨z,its,r,ob,e,c⟩:=x;exact⟨z,its,r,ob,k _ _ (.inl rfl) e,c⟩
 |dK kvs=>obtain⟨z,y,vs,r,ob,es,ep,e,c⟩:=x;exact⟨z,y,vs,r,ob,es,ep,k _ _ (.inl rfl) e,c⟩
 |dT kvs=>
  obtain⟨z,y,xs,r,ob,es,ep,e,c⟩:=x;exact⟨z,y,xs,Paired.mapP r λp q z=>⟨z.1,ht _ _ z.2.1,z.2.2⟩,ob,es,ep,k _ _ (.inl rfl) e,c⟩
 |set S n=>obtain⟨ob,es,ep,t,e,c⟩:=x;exact⟨ob,es,ep,t,k _ _ (.inl rfl) e,c⟩
 |ins C dx fs=>
  obtain⟨d,z,ne,e,mA,⟨od,es,ep,e2,c⟩,r⟩:=x;exact⟨ho _ d,z,ne,k _ _ (.inl rfl) e,mA,⟨od,es,ep,k _ _ (.inr d) e2,c⟩,r⟩
 |own y=>obtain⟨ob,e⟩:=x;exact⟨ob,k _ _ (.inl rfl) e⟩
 |xd fs=>obtain⟨mA,⟨od,es,ep,e,c⟩,r⟩:=x;exact⟨mA,⟨od,es,ep,k _ _ (.inl rfl) e,c⟩,r⟩
 |rng lo hi=>obtain⟨t,u,v,e⟩:=x;exact⟨t,u,v,k _ _ (.inl rfl) e⟩
 |frz ob u ih=>obtain⟨e,q⟩:=x;exact⟨k _ _ (.inl rfl) e,ih q⟩
 |tbl ps=>
  have e:h.get? a=some { cls:=.none,data:=.fields ps }:=x;show h'.get? a=some { cls:=.none,data:=.fields ps };exact k a _ (.inl rfl) e
 |met f y=>
  have e:h.get? a=some (W.methodObj (.ref f) (.ref y)):=x;show h'.get? a=some (W.methodObj (.ref f) (.ref y));exact k a _ (.inl rfl) e
 |ext φ=>obtain⟨p,⟨o,e⟩,st⟩:=x;exact⟨st _ _ p λo q=>k _ _ (.inl rfl) q,⟨o,k _ _ (.inl rfl) e⟩,st⟩
theorem HOk.lt(x:HOk P w H h)(e:H a=some o):a<h.objs.size:=(x a o e).lt
theorem HOk.fresh(x:HOk P w H h)(e:h.objs.size<=a):H a=none:=by
 cases q:H a with
 |none=>rfl
 |some u=>exact absurd (lt_of_lt_of_le (x.lt q) e) (lt_irrefl _)
theorem HOk.kept(x:HOk P w H h)(k:∀b u,h.get? b=some u->h'.get? b=some u):HOk P w H h':=λa o e=>
 (x a o e).stay (λb u _ q=>k b u q) (λ_ q=>q) λ_ _ q=>q
theorem HOk.laid(x:HOk P w H h)(k:∀b u,h.get? b=some u->h'.get? b=some u)(hp:h.objs.size<=a)(new:x0 P w (upd H a o) h' a o):HOk P w (upd H a o) h':=λb u e=>by
 have hn:=x.fresh hp;by_cases hb:b=a
 .subst hb;rw[zO]at e;cases e;exact new
 .rw[zu hb]at e;exact(x b u e).stay (λc v _ q=>k c v q) (λc q=>by rw[zu (qI q hn)];exact q) λc xs q=>by rw[zu (qI q hn)];exact q
end
def Rd(H:Hp)(a:Addr)(u:HO):Prop:=H a=some u\/∃o,H a=some (.frz o u)
theorem Rd.of(h:H a=some u):Rd H a u:=.inl h
variable{P:Program}{w:World}{h:Heap}
theorem Rd.ok(r:Rd H a u)(x:HOk P w H h):x0 P w H h a u:=by
 rcases r with r|⟨o,r⟩
 .exact x a u r
 .obtain⟨_,q⟩:=x a _ r;exact q
def Mut:Option HO->Prop
 |some (.lst _)=>True
 |some (.dK _)=>True
 |some (.dT _)=>True
 |some (.set _ _)=>True
 |some (.ins _ _ _)=>True
 |some (.ext _)=>True
 |_=>False
section
variable{P:Program}{w:World}{H:Hp}{h h':Heap}{x e:Addr}{o':HO}
theorem HOk.write(ok:HOk P w H h)(mu:Mut (H x))(he:e=x\/H e=some (.own x))(k:∀b u,b≠e->h.get? b=some u->h'.get? b=some u)(heo:∃u,h'.get? e=some u)
  (new:x0 P w (upd H x o') h' x o'):HOk P w (upd H x o') h':=λb u q=>by
 have nown:∀c y,H c=some (.own y)->c≠x:=λc y r z=>by subst z;rw[r]at mu;exact mu
 have ntup:∀c xs,H c=some (.tup xs)->c≠x:=λc xs r z=>by subst z;rw[r]at mu;exact mu
 by_cases hb:b=x
 .subst hb;rw[zO]at q;cases q;exact new
 .rw[zu hb]at q;by_cases hbe:b=e
  .have q':H b=some (.own x):=by
    rcases he with z|z
    .exact absurd (hbe.trans z) hb
    .rw[hbe];exact z
   rw[q]at q';cases q';obtain⟨v,hv⟩:=heo;exact⟨v,by rw[hbe];exact hv⟩
  .refine(ok b u q).stay (λc v hc r=>k c v ?_ r) (λc r=>by rw[zu (nown c b r)];exact r) λc xs r=>by rw[zu (ntup c xs r)];exact r
   rcases hc with rfl|hc
   .exact hbe
   .rintro rfl;rcases he with z|z
    .exact nown c b hc z
    .rw[hc]at z;cases z;exact hb rfl
end
structure Un(fs ex:List Addr)(H H':Hp)(h h':Heap):Prop where
 keep:∀b o,h.get? b=some o->H b=none->b∉fs->b∉ex->h'.get? b=some o
 slot:∀b o,h.get? b=some o->H b=none->b∈fs->b∉ex->∃sl,h'.get? b=some { o with slots:=sl }
 free:∀b o,h.get? b=some o->H b=none->b∉ex->H' b=none
 there:∀b o,h.get? b=some o->b∉ex->∃o',h'.get? b=some o'
 tups:∀b xs,H b=some (.tup xs)->H' b=some (.tup xs)
 frzs:∀b o u,H b=some (.frz o u)->H' b=some (.frz o u)
 tbls:∀b ps,H b=some (.tbl ps)->∃more,H' b=some (.tbl (ps++more))
section
variable{fs fs' ex ex':List Addr}{H H1 H2:Hp}{h h1 h2 h':Heap}{a x e:Addr}{o:HO}
theorem Un.any(u:Un fs ex H H1 h h1){ob:Obj}(q:h.get? b=some ob)(n:H b=none)(hx:b∉ex):∃sl,h1.get? b=some { ob with slots:=sl }:=by
 by_cases hb:b∈fs
 .exact u.slot b ob q n hb hx
 .exact⟨ob.slots,u.keep b ob q n hb hx⟩
theorem Un.trans(a:Un fs ex H H1 h h1)(b:Un fs ex H1 H2 h1 h2):Un fs ex H H2 h h2 where
 keep:=λc ob q n hc hx=>b.keep c ob (a.keep c ob q n hc hx) (a.free c ob q n hx) hc hx
 slot:=λc ob q n hc hx=>by
  obtain⟨sl,e1⟩:=a.slot c ob q n hc hx;obtain⟨sl',e2⟩:=b.slot c _ e1 (a.free c ob q n hx) hc hx;exact⟨sl',e2⟩
 free:=λc ob q n hx=>by
  obtain⟨o',e1⟩:=a.there c ob q hx;exact b.free c o' e1 (a.free c ob q n hx) hx
 there:=λc ob q hx=>by
  obtain⟨o',e1⟩:=a.there c ob q hx;exact b.there c o' e1 hx
 tups:=λc xs q=>b.tups c xs (a.tups c xs q)
 frzs:=λc ob xs q=>b.frzs c ob xs (a.frzs c ob xs q)
 tbls:=λc ps q=>by
  obtain⟨m1,e1⟩:=a.tbls c ps q;obtain⟨m2,e2⟩:=b.tbls c _ e1;exact⟨m1++m2,by rw[e2,Array.append_assoc]⟩
theorem Un.kept(k:∀b u,h.get? b=some u->h'.get? b=some u):Un fs ex H H h h':=
 ⟨λb ob q _ _ _=>k b ob q,λb ob q _ _ _=>⟨ob.slots,k b ob q⟩,λ_ _ _ n _=>n,λb ob q _=>⟨ob,k b ob q⟩,λ_ _ q=>q,λ_ _ _ q=>q,λ_ ps q=>⟨#[],by rw[q];simp⟩⟩
theorem Un.refl:Un fs ex H H h h:=Un.kept λ_ _ q=>q
theorem Un.laid(k:∀b u,h.get? b=some u->h'.get? b=some u)(hp:h.objs.size<=a)(hn:H a=none):Un fs ex H (upd H a o) h h' where
 keep:=λb u q _ _ _=>k b u q
 slot:=λb u q _ _ _=>⟨u.slots,k b u q⟩
 free:=λb u q n _=>by rw[zu (ne_of_lt (lt_of_lt_of_le (Heap.lt_size q) hp))];exact n
 there:=λb u q _=>⟨u,k b u q⟩
 tups:=λb xs q=>by rw[zu (qI q hn)];exact q
 frzs:=λb u xs q=>by rw[zu (qI q hn)];exact q
 tbls:=λb ps q=>⟨#[],by rw[zu (qI q hn),q];simp⟩
theorem Un.write(mu:Mut (H x))(he:e=x\/H e=some (.own x))(k:∀b u,b≠e->h.get? b=some u->h'.get? b=some u)(heo:∃u,h'.get? e=some u):Un fs ex H (upd H x o) h h':=by
 have hx:∀b,H b=none->b≠x:=λb n z=>by subst z;rw[n]at mu;exact mu
 have hb:∀b,H b=none->b≠e:=λb n z=>by
  subst z;rcases he with r|r
  .exact hx b n r
  .rw[n]at r;cases r
 have hm:∀b u,H b=some u->¬Mut (some u)->b≠x:=λb u q nm z=>by subst z;rw[q]at mu;exact nm mu
 refine⟨λb u q n _ _=>k b u (hb b n) q,λb u q n _ _=>⟨u.slots,k b u (hb b n) q⟩,λb u q n _=>by rw[zu (hx b n)];exact n,λb u q _=>?_,
  λb xs q=>by rw[zu (hm b _ q λz=>z)];exact q,λb u xs q=>by rw[zu (hm b _ q λz=>z)];exact q,λb ps q=>⟨#[],by rw[zu (hm b _ q λz=>z),q];simp⟩⟩
 by_cases hbe:b=e
 .subst hbe;exact heo
 .exact⟨u,k b u hbe q⟩
theorem Un.mono(u:Un fs ex H H1 h h1)(hs:∀b∈fs,b∈fs')(hx:∀b∈ex,b∈ex'):Un fs' ex' H H1 h h1:=
 ⟨λb ob q n hb he=>u.keep b ob q n (λz=>hb (hs b z)) λz=>he (hx b z),λ_ _ q n _ he=>u.any q n λz=>he (hx _ z),λb ob q n he=>u.free b ob q n λz=>he (hx b z),λb ob q he=>u.there b ob q λz=>he (hx b z),u.tups,u.frzs,u.tbls⟩
end
def trk(h:Heap)(H:Hp):List Addr:=(List.range h.objs.size).filter λa=>(H a).isSome
def rQ(h:Heap)(H:Hp):Heap:=W.hideAll h (trk h H)
theorem lV(h:Heap)(H:Hp):(rQ h H).objs.size=h.objs.size:=W.hideAll_size _ _
theorem tS{o:Obj}(e:h.get? b=some o)(n:H b=none):(rQ h H).get? b=some o:=
 W.hideAll_get _ e λhm=>by
  have q:(H b).isSome=true:=(List.mem_filter.mp hm).2;rw[n]at q;simp at q
theorem Bn{o:Obj}(e:(rQ h H).get? b=some o):h.get? b=some o/\H b=none:=by
 have e':h.get? b=some o:=W.of_hideAll (trk h H) e;refine⟨e',?_⟩;cases q:H b with
 |none=>rfl
 |some x=>
  have hm:b∈trk h H:=List.mem_filter.mpr ⟨List.mem_range.mpr (Heap.lt_size e'),by simp[q]⟩;have z:(rQ h H).get? b=none:=W.hideAll_none (trk h H) hm;rw[z]at e;cases e
def CG(g h:Heap)(L:Addr):List (Addr×Obj):=(List.range h.objs.size).filterMap λa=>if a=L\/(g.get? a).isSome=true then none else(h.get? a).map λo=>(a,o)
def Z3(g h:Heap)(L d:Addr):List (Addr×Obj):=(CG g h L).filter λp=>decide (p.1≠d)
structure Mod(K:W.Frag)(mg:Str->Option Value)(base:Heap):Prop where
 kin:K.In base
 glob:base.Ns mainGlobals mg
 blt:∃mb,base.Ns builtinsNs mb/\∀x:Str,x≠"__name__" ->mb x=bootBuiltins x
 nolimit:base.NoLimit
structure Cx where
 prog:Program
 w:World
 K:W.Frag
 mg:Str->Option Value
 base:Heap
 A:Around
 N:List Str
 s₀:Shared
 H₀:Hp
 env:Env
 outer:List Env
 stack:List Env
 ex:List Addr
 fn:Str->Bool
 calm:Bool
 pn:List (Addr×Obj)
 xe:Value->Shared->Prop
def frs(l:List Env):List Addr:=l.filterMap (·.frame)
abbrev Cx.fs(X:Cx):List Addr:=frs X.outer
def Vis(sc:Scope)(x:Str):Prop:=sc.names.lookup x=some .local\/sc.names.lookup x=some .cell\/sc.names.lookup x=some .free
def Loc(sc:Scope)(x:Str):Prop:=sc.names.lookup x=some .local\/sc.names.lookup x=some .cell
def IV(env:Env)(h:Heap)(m:Str->Option Value)(x:Str)(u:Value):Prop:=
 (env.kindOf x=some .local/\m x=some u)\/((env.kindOf x=some .cell\/env.kindOf x=some .free)/\∃c,env.cells.lookup x=some c/\h.IsCell c (some u))
structure Cx.Ok(X:Cx):Prop where
 mod:Mod X.K X.mg X.base
 kind:X.env.scope.kind=.function
 glob:X.env.globals=mainGlobals
 blt:X.env.builtins=builtinsNs
 above:X.s₀.heap.objs.size<=X.env.locals
 inj:∀x y c,X.env.cells.lookup x=some c->X.env.cells.lookup y=some c->x=y
 has:∀x,(X.env.kindOf x=some .cell\/X.env.kindOf x=some .free)->∃c,X.env.cells.lookup x=some c
 cab:∀x c,X.fn x=true->X.env.cells.lookup x=some c->X.s₀.heap.objs.size<=c
 hd:X.calm=true->X.A.handled=none
 frames:X.A.frames=some X.stack
 stk:X.stack=X.outer\/(X.stack=X.env::X.outer/\X.env.frame=some X.env.locals)
 exf:∀b∈X.ex,b≠X.env.locals/\∀x c,X.env.cells.lookup x=some c->c≠b
 bs:∀b o,X.base.get? b=some o->X.s₀.heap.get? b=some o/\X.H₀ b=none
 bsz:X.base.objs.size<=X.s₀.heap.objs.size
 noex:∀b o,X.base.get? b=some o->b∉X.ex
 exfs:∀b∈X.ex,b∉X.fs
 funs:X.s₀.heap.FunFrames X.base X.outer
 frf:∀b∈X.fs,X.H₀ b=none
structure Inv(X:Cx)(pins:List (Addr×Obj))(σ:List (Option V))(H:Hp)(s:Shared):Prop where
 ok:X.Ok
 os:s.os=X.s₀.os
 bare:AllBare s.gens
 base:Un X.fs X.ex X.H₀ H X.s₀.heap s.heap
 loc:∃m,s.heap.Ns X.env.locals m/\∀(i:Nat)(x:Str)(v:V),X.N[i]?=some x->σ[i]?=some (some v)->Vis X.env.scope x->∃u,xX v u/\IV X.env s.heap m x u
 cell:∀x c,X.env.cells.lookup x=some c->∃v,s.heap.IsCell c v
 free:H X.env.locals=none
 freeC:∀x c,X.env.cells.lookup x=some c->H c=none
 pin:∀p∈X.pn++pins,s.heap.get? p.1=some p.2/\H p.1=none/\p.1≠X.env.locals/\p.1∉X.fs/\∀v,p.2.data≠.cell v
 hok:HOk X.prog X.w H s.heap
 len:σ.length=X.N.length
section
variable{X:Cx}{pins:List (Addr×Obj)}{σ:List (Option V)}{H H':Hp}{s:Shared}{h':Heap}
theorem Cx.Ok.nofr(ok:X.Ok){o:Obj}(e:X.base.get? b=some o):b∉X.fs:=λhb=>by
 have:=(ok.funs.mem hb).1;rw[e]at this;cases this
theorem Inv.bs(I:Inv X pins σ H s):∀b o,X.base.get? b=some o->s.heap.get? b=some o/\H b=none:=λb o e=>
 ⟨I.base.keep b o (I.ok.bs b o e).1 (I.ok.bs b o e).2 (I.ok.nofr e) (I.ok.noex b o e),I.base.free b o (I.ok.bs b o e).1 (I.ok.bs b o e).2 (I.ok.noex b o e)⟩
theorem Inv.bk(I:Inv X pins σ H s):∀b o,X.base.get? b=some o->s.heap.get? b=some o:=λb o e=>(I.bs b o e).1
theorem Inv.mod(I:Inv X pins σ H s):Mod X.K X.mg X.base:=I.ok.mod
theorem Inv.kIn(I:Inv X pins σ H s):X.K.In s.heap:=I.ok.mod.kin.keeps I.bk
theorem Inv.nolimit(I:Inv X pins σ H s):s.heap.NoLimit:=I.ok.mod.nolimit.keeps I.bk
theorem Inv.fr(I:Inv X pins σ H s):∃m,Fr X.base X.env.locals s.heap m:=
 let⟨m,hn,_⟩:=I.loc
 ⟨m,hn,I.bk,le_trans I.ok.bsz I.ok.above⟩
theorem Inv.lt(I:Inv X pins σ H s):X.env.locals<s.heap.objs.size:=let⟨_,hn,_⟩:=I.loc;hn.lt
theorem Inv.sz(I:Inv X pins σ H s):X.s₀.heap.objs.size<=s.heap.objs.size:=le_trans I.ok.above (Nat.le_of_lt I.lt)
theorem Inv.nofs(I:Inv X pins σ H s)(h:s.heap.objs.size<=a):a∉X.fs:=λhb=>by
 obtain⟨_,o,ho,_⟩:=I.ok.funs.mem hb;exact absurd (lt_of_lt_of_le (Heap.lt_size ho) (le_trans I.sz h)) (lt_irrefl _)
theorem Inv.cne(I:Inv X pins σ H s):∀x c,X.env.cells.lookup x=some c->c≠X.env.locals:=λx c e z=>by
 obtain⟨v,o,ho,hd⟩:=I.cell x c e;obtain⟨m,⟨o',es,ep,ho',hd',_⟩,_⟩:=I.loc;rw[z,ho']at ho;cases ho;rw[hd']at hd;cases hd
theorem Inv.funs(I:Inv X pins σ H s):s.heap.FunFrames X.base X.outer:=by
 have all:∀(l:List Env),(∀b∈frs l,b∈X.fs)->X.s₀.heap.FunFrames X.base l->s.heap.FunFrames X.base l:=by
  intro l;induction l with
  |nil=>intro _ _;trivial
  |cons env r ih=>
   intro hs hl;obtain⟨hk,⟨L,o,hf,hn,ho,hd⟩,hr⟩:=hl;have hL:L∈X.fs:=hs L (by unfold frs;rw[List.filterMap_cons,hf];exact List.mem_cons_self);obtain⟨sl,e⟩:=I.base.slot L o ho (I.ok.frf L hL) hL λz=>I.ok.exfs L z hL;exact⟨hk,⟨L,_,hf,hn,e,hd⟩,ih (λb hb=>hs b (by unfold frs;rw[List.filterMap_cons,hf];exact mem_cons_of_mem _ hb)) hr⟩
 exact all X.outer (λ_ hb=>hb) I.ok.funs
theorem Inv.stack(I:Inv X pins σ H s):s.heap.FunFrames X.base X.stack:=by
 rcases I.ok.stk with e|⟨e,hf⟩
 .rw[e];exact I.funs
 .rw[e];obtain⟨m,hn,_⟩:=I.loc;refine .cons (by rw[I.ok.kind];decide) hf hn ?_ I.funs;exact Heap.get?_none_of_le (le_trans I.ok.bsz I.ok.above)
theorem Inv.stkSub(I:Inv X pins σ H s):∀b∈frs X.stack,b∈X.env.locals::X.fs:=λb hb=>by
 rcases I.ok.stk with e|⟨e,hf⟩
 .rw[e]at hb;exact mem_cons_of_mem _ hb
 .rw[e]at hb;unfold frs at hb;rw[List.filterMap_cons,hf]at hb;exact hb
theorem Inv.stkFree(I:Inv X pins σ H s):∀b∈frs X.stack,H b=none:=λb hb=>by
 rcases List.mem_cons.mp (I.stkSub b hb)with e|hb
 .rw[e];exact I.free
 .obtain⟨_,o,ho,_⟩:=I.ok.funs.mem hb;exact I.base.free b o ho (I.ok.frf b hb) λz=>I.ok.exfs b z hb
variable{t':Nat}{ch:List Addr}
theorem Inv.step{g':Array GenState}{d':Drawn}(I:Inv X pins σ H s)
  (hch:∀b∈ch,(b∈X.ex\/X.s₀.heap.objs.size<=b)/\b≠X.env.locals/\(∀x c,X.env.cells.lookup x=some c->c≠b)/\∀p∈X.pn++pins,p.1≠b)
  (keep:∀b o,b≠X.env.locals->b∉X.fs->b∉ch->s.heap.get? b=some o->H b=none->h'.get? b=some o)
  (slot:∀b o,b≠X.env.locals->b∈X.fs->b∉ch->s.heap.get? b=some o->H b=none->∃sl,h'.get? b=some { o with slots:=sl }) (free:∀b o,b∉ch->s.heap.get? b=some o->H b=none->H' b=none)
  (there:∀b o,b∉ch->s.heap.get? b=some o->∃o',h'.get? b=some o')
  (tups:∀b xs,H b=some (.tup xs)->H' b=some (.tup xs)) (frzs:∀b o u,H b=some (.frz o u)->H' b=some (.frz o u)) (tbls:∀b ps,H b=some (.tbl ps)->∃more,H' b=some (.tbl (ps++more)))
  (ns:∀m,s.heap.Ns X.env.locals m->h'.Ns X.env.locals m) (hok:HOk X.prog X.w H' h') (hg:AllBare g'):
  Inv X pins σ H' { s with heap:=h',gens:=g',drawn:=d',toks:=t' }:=by
 have neL:∀b o,X.s₀.heap.get? b=some o->b≠X.env.locals:=λb o e=>ne_of_lt (lt_of_lt_of_le (Heap.lt_size e) I.ok.above);have neC:∀b o,X.s₀.heap.get? b=some o->b∉X.ex->b∉ch:=λb o e hx hb=>by
  rcases(hch b hb).1 with z|z
  .exact hx z
  .exact absurd (lt_of_lt_of_le (Heap.lt_size e) z) (lt_irrefl _)
 have cellK:∀x c,X.env.cells.lookup x=some c->∀v,s.heap.IsCell c v->h'.IsCell c v:=λx c e v⟨o,ho,hd⟩=>by
  have nch:c∉ch:=λz=>(hch c z).2.2.1 x c e rfl;by_cases hc:c∈X.fs
  .obtain⟨sl,q⟩:=slot c o (I.cne x c e) hc nch ho (I.freeC x c e);exact⟨_,q,hd⟩
  .exact⟨o,keep c o (I.cne x c e) hc nch ho (I.freeC x c e),hd⟩
 refine⟨I.ok,I.os,hg,⟨λb o e n hb hx=>?_,λb o e n hb hx=>?_,λb o e n hx=>?_,λb o e hx=>?_,λb xs e=>tups b xs (I.base.tups b xs e),λb o xs e=>frzs b o xs (I.base.frzs b o xs e),λb ps e=>?_⟩,?_,λx c e=>?_,?_,λx c e=>?_,λp hp=>?_,hok,I.len⟩
 .exact keep b o (neL b o e) hb (neC b o e hx) (I.base.keep b o e n hb hx) (I.base.free b o e n hx)
 .obtain⟨sl,e1⟩:=I.base.slot b o e n hb hx;obtain⟨sl',e2⟩:=slot b _ (neL b o e) hb (neC b o e hx) e1 (I.base.free b o e n hx);exact⟨sl',e2⟩
 .obtain⟨o',e1⟩:=I.base.there b o e hx;exact free b o' (neC b o e hx) e1 (I.base.free b o e n hx)
 .obtain⟨o',e1⟩:=I.base.there b o e hx;exact there b o' (neC b o e hx) e1
 .obtain⟨m1,e1⟩:=I.base.tbls b ps e;obtain⟨m2,e2⟩:=tbls b _ e1;exact⟨m1++m2,by rw[e2,Array.append_assoc]⟩
 .obtain⟨m,hn,hl⟩:=I.loc;refine⟨m,ns m hn,λi x v e1 e2 e3=>?_⟩;obtain⟨u,r,l⟩:=hl i x v e1 e2 e3;refine⟨u,r,?_⟩;rcases l with l|⟨k,c,e,z⟩
  .exact .inl l
  .exact .inr ⟨k,c,e,cellK x c e _ z⟩
 .obtain⟨v,z⟩:=I.cell x c e;exact⟨v,cellK x c e v z⟩
 .obtain⟨m,⟨o,_,_,ho,_⟩,_⟩:=I.loc;exact free _ o (λz=>(hch _ z).2.1 rfl) ho I.free
 .obtain⟨v,o,ho,hd⟩:=I.cell x c e;exact free c o (λz=>(hch c z).2.2.1 x c e rfl) ho (I.freeC x c e)
 .obtain⟨e,n,ne,nf,d⟩:=I.pin p hp;have nch:p.1∉ch:=λz=>(hch p.1 z).2.2.2 p hp rfl;exact⟨keep p.1 p.2 ne nf nch e n,free p.1 p.2 nch e n,ne,nf,d⟩
theorem Inv.un(I:Inv X pins σ H s)(u:Un X.fs [] H H' s.heap h')(hok:HOk X.prog X.w H' h'):Inv X pins σ H' { s with heap:=h',toks:=t' }:=by
 obtain⟨m,⟨o,es,ep,ho,r⟩,_⟩:=id I.loc;obtain⟨sl,hL⟩:=u.any ho I.free (by simp);exact I.step (g':=s.gens) (d':=s.drawn) (ch:=[]) (λ_ z=>nomatch z) (λb o _ hb _ e n=>u.keep b o e n hb (by simp)) (λb o _ hb _ e n=>u.slot b o e n hb (by simp)) (λb o _ e n=>u.free b o e n (by simp)) (λb o _ e=>u.there b o e (by simp)) u.tups u.frzs u.tbls (λm' hm=>by
  obtain⟨o',es',ep',ho',r'⟩:=hm;rw[ho]at ho';cases ho';exact⟨_,es',ep',hL,r'⟩) hok I.bare
theorem Inv.call{g':Array GenState}{d':Drawn}(I:Inv X pins σ H s)(u:Un (frs X.stack) ch H H' s.heap h')(hok:HOk X.prog X.w H' h')(hg:AllBare g')
  (hch:∀b∈ch,(b∈X.ex\/X.s₀.heap.objs.size<=b)/\b≠X.env.locals/\(∀x c,X.env.cells.lookup x=some c->c≠b)/\∀p∈X.pn++pins,p.1≠b):
  Inv X pins σ H' { s with heap:=h',gens:=g',drawn:=d',toks:=t' }:=by
 obtain⟨m,⟨o,es,ep,ho,r⟩,_⟩:=id I.loc;obtain⟨sl,hL⟩:=u.any ho I.free λz=>(hch _ z).2.1 rfl;exact I.step (ch:=ch) hch (λb o hL hb hc e n=>u.keep b o e n (λz=>(List.mem_cons.mp (I.stkSub b z)).elim hL hb) hc) (λb o _ _ hc e n=>u.any e n hc) (λb o hc e n=>u.free b o e n hc) (λb o hc e=>u.there b o e hc) u.tups u.frzs u.tbls (λm' hm=>by
  obtain⟨o',es',ep',ho',r'⟩:=hm;rw[ho]at ho';cases ho';exact⟨_,es',ep',hL,r'⟩) hok hg
theorem Inv.turned{it:Addr}(I:Inv X pins σ H s)(k:∀b o,b≠it->s.heap.get? b=some o->h'.get? b=some o)(hn:H it=none)(hL:it≠X.env.locals)
  (h1:it∈X.ex\/X.s₀.heap.objs.size<=it) (h2:∀x c,X.env.cells.lookup x=some c->c≠it) (h3:∀p∈X.pn++pins,p.1≠it):Inv X pins σ H { s with heap:=h',toks:=t' }:=by
 have nit:∀b u,H b=some u->b≠it:=λb u e z=>by rw[z,hn]at e;cases e
 refine I.step (g':=s.gens) (d':=s.drawn) (ch:=[it]) (λb hb=>?_) (λb o _ _ hc e _=>k b o (λz=>hc (by simp[z])) e) (λb o _ _ hc e _=>⟨o.slots,k b o (λz=>hc (by simp[z])) e⟩) (λ_ _ _ _ n=>n)
  (λb o hc e=>⟨o,k b o (λz=>hc (by simp[z])) e⟩) (λ_ _ e=>e) (λ_ _ _ e=>e) (λb ps e=>⟨#[],by rw[e];simp⟩) (λm hm=>?_) (λb u e=>?_) I.bare
 .have e:b=it:=by simpa using hb
  subst e;exact⟨h1,hL,h2,h3⟩
 .obtain⟨o,es,ep,ho,r⟩:=hm;exact⟨o,es,ep,k _ o (Ne.symm hL) ho,r⟩
 .refine(I.hok b u e).stay (λc v hc q=>k c v ?_ q) (λ_ q=>q) λ_ _ q=>q;rcases hc with z|z
  .rw[z];exact nit b u e
  .exact nit c _ z
theorem Inv.tok(I:Inv X pins σ H s)(t:Nat):Inv X pins σ H { s with toks:=t }:=I.un (h':=s.heap) (t':=t) Un.refl I.hok
theorem Inv.kept(I:Inv X pins σ H s)(k:∀b u,s.heap.get? b=some u->h'.get? b=some u):Inv X pins σ H { s with heap:=h',toks:=t' }:=I.un (Un.kept k) (I.hok.kept k)
theorem Inv.laid(I:Inv X pins σ H s)(k:∀b u,s.heap.get? b=some u->h'.get? b=some u)(hp:s.heap.objs.size<=a)(new:x0 X.prog X.w (upd H a o) h' a o):
  Inv X pins σ (upd H a o) { s with heap:=h',toks:=t' }:=I.un (Un.laid k hp (I.hok.fresh hp)) (I.hok.laid k hp new)
theorem Inv.write{x e:Addr}(I:Inv X pins σ H s)(mu:Mut (H x))(he:e=x\/H e=some (.own x))(k:∀b u,b≠e->s.heap.get? b=some u->h'.get? b=some u)(heo:∃u,h'.get? e=some u)
  (new:x0 X.prog X.w (upd H x o) h' x o):Inv X pins σ (upd H x o) { s with heap:=h',toks:=t' }:=I.un (Un.write mu he k heo) (I.hok.write mu he k heo new)
theorem Inv.weak{σ':List (Option V)}(I:Inv X pins σ H s)(hl:σ'.length=σ.length)(w:∀(i:Nat)v,σ'[i]?=some (some v)->σ[i]?=some (some v)):Inv X pins σ' H s:=
 ⟨I.ok,I.os,I.bare,I.base,let⟨m,hn,hl'⟩:=I.loc;⟨m,hn,λi x v e1 e2 e3=>hl' i x v e1 (w i v e2) e3⟩,I.cell,I.free,I.freeC,I.pin,I.hok,hl.trans I.len⟩
theorem Inv.pins_of{pins':List (Addr×Obj)}(I:Inv X pins σ H s)(h:∀p∈pins',s.heap.get? p.1=some p.2/\H p.1=none/\p.1≠X.env.locals/\p.1∉X.fs/\∀v,p.2.data≠.cell v):Inv X pins' σ H s:=
 ⟨I.ok,I.os,I.bare,I.base,I.loc,I.cell,I.free,I.freeC,λp hp=>(List.mem_append.mp hp).elim (λz=>I.pin p (List.mem_append_left _ z)) (h p),I.hok,I.len⟩
variable{i:Nat}{x:Str}
theorem fk{N:List Str}(hN:N.Nodup){j:Nat}(a:N[i]?=some x)(b:N[j]?=some x):i=j:=by
 obtain⟨h1,e1⟩:=List.getElem?_eq_some_iff.mp a;obtain⟨h2,e2⟩:=List.getElem?_eq_some_iff.mp b;exact(List.getElem_inj hN).mp (e1.trans e2.symm)
theorem VD{M:Model}{A:Around}{E:Value->Shared->Prop}{v:V}{u:Value}{Q:Unit->Shared->Prop}(I:Inv X pins σ H s)(hN:X.N.Nodup)(hi:X.N[i]?=some x)(hx:Loc X.env.scope x)(r:xX v u)
  (h:∀s',Inv X pins (σ.set i (some v)) H s'->(∃a,Heap.SameBut a s.heap s'.heap/\(a=X.env.locals\/X.env.cells.lookup x=some a))->Q () s') (hf:X.fn x=true\/X.env.scope.names.lookup x=some .local:=by first|exact .inl rfl|exact .inr rfl|assumption):wpAny M A (storeName X.env x u) Q E s:=by
 obtain⟨m,hn,hl⟩:=id I.loc;have hcls:(X.env.scope.kind == .class||(X.env.scope.kind == .module&&X.env.locals != X.env.globals))=false:=by rw[I.ok.kind];rfl
 have hiσ:i<σ.length:=by rw[I.len];exact(List.getElem?_eq_some_iff.mp hi).1
 have cne:=I.cne;have tracked:∀{a:Addr}{h':Heap},(∃o,s.heap.get? a=some o/\H a=none)->Heap.SameBut a s.heap h'->HOk X.prog X.w H h':=λ{a h'}ha hs b ob e=>by
  obtain⟨_,_,hfree⟩:=ha;refine(I.hok b ob e).stay (λc w' hc q=>(hs.2 c ?_).trans q) (λ_ q=>q) λ_ _ q=>q;rintro rfl;rcases hc with rfl|hc
  .rw[hfree]at e;cases e
  .rw[hfree]at hc;cases hc
 rcases hx with hk|hk
 .refine wpAny_storeName_local hk hn (λh' hn' hs=>?_) hcls;obtain⟨oL,_,_,hoL,_⟩:=id hn;refine h _ ⟨I.ok,I.os,I.bare,⟨λb o e n hb hx=>?_,λb o e n hb hx=>?_,I.base.free,λb o e hx=>?_,I.base.tups,I.base.frzs,I.base.tbls⟩,⟨_,hn',λj y v' e1 e2 e3=>?_⟩,λy c e=>?_,I.free,I.freeC,λp hp=>?_,tracked ⟨oL,hoL,I.free⟩ hs,by simpa using I.len⟩ ⟨_,hs,.inl rfl⟩
  .exact(hs.2 b (ne_of_lt (lt_of_lt_of_le (Heap.lt_size e) I.ok.above))).trans (I.base.keep b o e n hb hx)
  .obtain⟨sl,e1⟩:=I.base.slot b o e n hb hx;exact⟨sl,(hs.2 b (ne_of_lt (lt_of_lt_of_le (Heap.lt_size e) I.ok.above))).trans e1⟩
  .obtain⟨o',e1⟩:=I.base.there b o e hx;exact⟨o',(hs.2 b (ne_of_lt (lt_of_lt_of_le (Heap.lt_size e) I.ok.above))).trans e1⟩
  .by_cases hj:j=i
   .subst hj;rw[hi]at e1;cases e1;rw[List.getElem?_set_self hiσ]at e2;cases e2;exact⟨u,r,.inl ⟨hk,by simp⟩⟩
   .rw[List.getElem?_set_ne (Ne.symm hj)]at e2;obtain⟨u',r',q⟩:=hl j y v' e1 e2 e3;refine⟨u',r',?_⟩;rcases q with⟨k,e⟩|⟨k,c,e,z⟩
    .refine .inl ⟨k,?_⟩;have:y≠x:=λe=>hj (fk hN e1 (e▸hi));simp[this,e]
    .exact .inr ⟨k,c,e,z.sameBut hs (cne y c e)⟩
  .obtain⟨w',z⟩:=I.cell y c e;exact⟨w',z.sameBut hs (cne y c e)⟩
  .obtain⟨e,n,ne,nf,d⟩:=I.pin p hp;exact⟨(hs.2 p.1 ne).trans e,n,ne,nf,d⟩
 .have hfn:X.fn x=true:=by
   rcases hf with z|z
   .exact z
   .rw[z]at hk;cases hk
  obtain⟨c,hc⟩:=I.ok.has x (.inl hk);obtain⟨w',z⟩:=I.cell x c hc;refine wpAny_storeName_cell I.ok.kind hk hc z (λh' hc' hs=>?_);obtain⟨oc,hoc,hocd⟩:=id z;refine h { s with heap:=h' } ⟨I.ok,I.os,I.bare,⟨λb o e n hb hx=>?_,λb o e n hb hx=>?_,I.base.free,λb o e hx=>?_,I.base.tups,I.base.frzs,I.base.tbls⟩,⟨m,hn.sameBut hs (Ne.symm (cne x c hc)),λj y v' e1 e2 e3=>?_⟩,λy c' e=>?_,I.free,I.freeC,λp hp=>?_,tracked ⟨oc,hoc,I.freeC x c hc⟩ hs,by simpa using I.len⟩ ⟨c,hs,.inr hc⟩
  .exact(hs.2 b (ne_of_lt (lt_of_lt_of_le (Heap.lt_size e) (I.ok.cab x c hfn hc)))).trans (I.base.keep b o e n hb hx)
  .obtain⟨sl,e1⟩:=I.base.slot b o e n hb hx;exact⟨sl,(hs.2 b (ne_of_lt (lt_of_lt_of_le (Heap.lt_size e) (I.ok.cab x c hfn hc)))).trans e1⟩
  .obtain⟨o',e1⟩:=I.base.there b o e hx;exact⟨o',(hs.2 b (ne_of_lt (lt_of_lt_of_le (Heap.lt_size e) (I.ok.cab x c hfn hc)))).trans e1⟩
  .by_cases hj:j=i
   .subst hj;rw[hi]at e1;cases e1;rw[List.getElem?_set_self hiσ]at e2;cases e2;exact⟨u,r,.inr ⟨.inl hk,c,hc,hc'⟩⟩
   .rw[List.getElem?_set_ne (Ne.symm hj)]at e2;obtain⟨u',r',q⟩:=hl j y v' e1 e2 e3;refine⟨u',r',?_⟩;rcases q with q|⟨k,c',e,z'⟩
    .exact .inl q
    .refine .inr ⟨k,c',e,z'.sameBut hs ?_⟩;rintro rfl;exact hj (fk hN e1 (I.ok.inj _ _ _ e hc▸hi))
  .by_cases hcc:c'=c
   .subst hcc;exact⟨_,hc'⟩
   .obtain⟨w2,z2⟩:=I.cell y c' e;exact⟨w2,z2.sameBut hs hcc⟩
  .obtain⟨e,n,ne,nf,d⟩:=I.pin p hp;refine⟨(hs.2 p.1 ?_).trans e,n,ne,nf,d⟩;intro q;rw[q,hoc]at e;have q':oc=p.2:=Option.some.inj e;exact d w' (by rw[<- q'];exact hocd)
theorem y4{M:Model}{A:Around}{E:Value->Shared->Prop}{v:V}{u:Value}{Q:Unit->Shared->Prop}(I:Inv X pins σ H s)(hN:X.N.Nodup)(hi:X.N[i]?=some x)(hx:Loc X.env.scope x)(r:xX v u)
  (h:∀s',Inv X pins (σ.set i (some v)) H s'->Q () s') (hf:X.fn x=true\/X.env.scope.names.lookup x=some .local:=by first|exact .inl rfl|exact .inr rfl|assumption):wpAny M A (storeName X.env x u) Q E s:=
 VD I hN hi hx r (λs' I' _=>h s' I') hf
theorem Inv.call'{s':Shared}(I:Inv X pins σ H s)(ho:s'.os=s.os)(u:Un (frs X.stack) ch H H' s.heap s'.heap)(hok:HOk X.prog X.w H' s'.heap)(hg:AllBare s'.gens)
  (hch:∀b∈ch,(b∈X.ex\/X.s₀.heap.objs.size<=b)/\b≠X.env.locals/\(∀x c,X.env.cells.lookup x=some c->c≠b)/\∀p∈X.pn++pins,p.1≠b):Inv X pins σ H' s':=by
 obtain⟨h',g',d',t',o'⟩:=s';have e:o'=s.os:=ho;subst e;exact I.call (g':=g') (t':=t') (d':=d') u hok hg hch
end
abbrev XK:=Value->Option Addr->Hp->Prop
abbrev St:=List (Option V)
abbrev VK:=V->Hp->Prop
abbrev TE:=St->Hp->VK->Prop
abbrev TT:=St->Hp->(Bool->Hp->Prop)->Prop
abbrev TA:=St->Hp->(List V->Hp->Prop)->Prop
structure Z0 where
 nx:St->Hp->Prop
 rt:VK
 bk:St->Hp->Prop:=λ_ _=>False
 ct:St->Hp->Prop:=λ_ _=>False
abbrev TS:=Z0->St->Hp->Prop
def EP(X:Cx)(pins:List (Addr×Obj))(σ:St)(Q:VK)(u:Value)(s':Shared):Prop:=∃v H',Inv X pins σ H' s'/\xX v u/\Q v H'
def TP(X:Cx)(pins:List (Addr×Obj))(σ:St)(Q:Bool->Hp->Prop)(b:Bool)(s':Shared):Prop:=∃H',Inv X pins σ H' s'/\Q b H'
def AP(X:Cx)(pins:List (Addr×Obj))(σ:St)(Q:List V->Hp->Prop)(us:List Value)(s':Shared):Prop:=∃vs H',Inv X pins σ H' s'/\qP vs us/\Q vs H'
def SP(X:Cx)(pins:List (Addr×Obj))(D:Z0)(f:Flow)(s':Shared):Prop:=
 match f with
 |.next=>∃σ' H',Inv X pins σ' H' s'/\D.nx σ' H'
 |.brk=>∃σ' H',Inv X pins σ' H' s'/\D.bk σ' H'
 |.cont=>∃σ' H',Inv X pins σ' H' s'/\D.ct σ' H'
 |.ret u=>∃v σ' H',Inv X pins σ' H' s'/\xX v u/\D.rt v H'
def PE(X:Cx)(e:Expr)(t:TE):Prop:=
 ∀(pins:List (Addr×Obj))(s:Shared)(σ:St)(H:Hp)(Q:VK),Inv X pins σ H s->t σ H Q->wpAny (model X.prog X.w) X.A (eval e X.env) (EP X pins σ Q) X.xe s
def PT(X:Cx)(e:Expr)(t:TT):Prop:=
 ∀(pins:List (Addr×Obj))(s:Shared)(σ:St)(H:Hp)(Q:Bool->Hp->Prop),Inv X pins σ H s->t σ H Q->wpAny (model X.prog X.w) X.A (isTrue e X.env (eval e X.env)) (TP X pins σ Q) X.xe s
def PW(X:Cx)(e:Expr)(t:TT):Prop:=
 ∀(whole:Sem Value)(pins:List (Addr×Obj))(s:Shared)(σ:St)(H:Hp)(Q:Bool->Hp->Prop),Inv X pins σ H s->t σ H Q->wpAny (model X.prog X.w) X.A (isTrue e X.env whole) (TP X pins σ Q) X.xe s
variable{X:Cx}
theorem PW.pt{e:Expr}{t:TT}(h:PW X e t):PT X e t:=h _
def PA(X:Cx)(es:List Expr)(t:TA):Prop:=
 ∀(pos:Pos)(pins:List (Addr×Obj))(s:Shared)(σ:St)(H:Hp)(Q:List V->Hp->Prop),Inv X pins σ H s->t σ H Q->wpAny (model X.prog X.w) X.A (spliced (backTo pos (starEach es X.env))) (AP X pins σ Q) X.xe s
def PS(X:Cx)(st:Stmt)(t:TS):Prop:=
 ∀(pins:List (Addr×Obj))(s:Shared)(σ:St)(H:Hp)(D:Z0),Inv X pins σ H s->t D σ H->wpAny (model X.prog X.w) X.A (exec st X.env) (SP X pins D) X.xe s
def PSs(X:Cx)(st:List Stmt)(t:TS):Prop:=
 ∀(pins:List (Addr×Obj))(s:Shared)(σ:St)(H:Hp)(D:Z0),Inv X pins σ H s->t D σ H->wpAny (model X.prog X.w) X.A (execs st X.env) (SP X pins D) X.xe s
variable{A:Around}{E:Value->Shared->Prop}{s:Shared}
theorem thn{α:Type}{t:Sem α}{Q Q':α->Shared->Prop}{M:Model}(h:wpAny M A t Q E s)(hQ:∀a s,Q a s->Q' a s):wpAny M A t Q' E s:=wpAny_mono h hQ λ_ _ x=>x
section
variable{X:Cx}
def Ey(i:Nat):TE:=λσ H Q=>∃v,σ[i]?=some (some v)/\Q v H
def tC(v:V):TE:=λ_ H Q=>Q v H
variable{x:Str}{pos:Pos}
theorem FA{i:Nat}(hN:X.N[i]?=some x)(hv:Vis X.env.scope x)(hd:Nd x:=by decide)(hcd:(x==("__classdict__":Str))=false:=by decide):PE X (.Name x pos) (Ey i):=by
 intro pins s σ H Q I h;obtain⟨v,e,h⟩:=h;obtain⟨m,hn,hl⟩:=I.loc;obtain⟨u,r,l⟩:=hl i x v hN e hv;have fin:EP X pins σ Q u s:=⟨v,H,I,r,h⟩
 rcases l with⟨hk,hm⟩|⟨hk,c,hc,hcell⟩
 .exact wpAny_Name (wpAny_loadName_local I.ok.kind hk hn hm fin) hd
 .rcases hk with hk|hk
  .exact wpAny_Name (wpAny_loadName_cell I.ok.kind hk hc hcell fin) hd
  .exact wpAny_Name (wpAny_loadName_free I.ok.kind hk hc hcell fin hcd) hd
theorem zK{i j pos}:PE X (.Constant (.int i) j pos) (tC (.int i)):=λ_ _ _ H _ I h=>wpAny_Constant_int ⟨.int i,H,I.tok _,⟨_,rfl⟩,h⟩
theorem QK{b j pos}:PE X (.Constant (.bool b) j pos) (tC (.bl b)):=λ_ _ _ H _ I h=>Constant_bool ⟨.bl b,H,I,rfl,h⟩
theorem Xo{j pos}:PE X (.Constant .none j pos) (tC .non):=λ_ _ _ H _ I h=>Constant_none ⟨.non,H,I,rfl,h⟩
theorem qi{x j pos}:PE X (.Constant (.str x) j pos) (tC (.str x)):=λ_ _ _ H _ I h=>Calls.Constant_str ⟨.str x,H,I.tok _,⟨_,rfl⟩,h⟩
def Gl(X:Cx)(x:Str):Prop:=X.env.kindOf x=some .globalImplicit
theorem jG{pins:List (Addr×Obj)}{σ:St}{u:Value}{Q:Value->Shared->Prop}(I:Inv X pins σ H s)(hg:Gl X x)(hm:X.mg x=some u)(h:Q u s)
  (hd:Nd x:=by decide):wpAny (model X.prog X.w) X.A (eval (.Name x pos) X.env) Q E s:=
 Calls.Name_function_global I.ok.kind hg (Calls.loadGlobal_global (by rw[I.ok.glob];exact I.mod.glob.keeps I.bk) hm h) hd
theorem Yh{pins:List (Addr×Obj)}{σ:St}{u:Value}{Q:Value->Shared->Prop}(I:Inv X pins σ H s)(hg:Gl X x)(hm:X.mg x=none)(hv:bootBuiltins x=some u)(h:Q u s)
  (hn:x≠"__name__":=by decide) (hd:Nd x:=by decide):wpAny (model X.prog X.w) X.A (eval (.Name x pos) X.env) Q E s:=by
 obtain⟨mb,h1,h2⟩:=I.mod.blt;exact Calls.Name_function_global I.ok.kind hg (Calls.loadGlobal_builtin (by rw[I.ok.glob];exact I.mod.glob.keeps I.bk) hm (by rw[I.ok.blt];exact h1.keeps I.bk) ((h2 x hn).trans hv) h) hd
theorem qg{v:V}{u:Value}(hg:Gl X x)(hm:X.mg x=some u)(r:xX v u)(hd:Nd x:=by decide):PE X (.Name x pos) (tC v):=
 λ_ _ _ H _ I h=>jG I hg hm ⟨v,H,I,r,h⟩ hd
theorem Qt{v:V}{u:Value}(hg:Gl X x)(hm:X.mg x=none)(hv:bootBuiltins x=some u)(r:xX v u)(hn:x≠"__name__":=by decide)(hd:Nd x:=by decide):PE X (.Name x pos) (tC v):=
 λ_ _ _ H _ I h=>Yh I hg hm hv ⟨v,H,I,r,h⟩ hn hd
variable{a b:Expr}{ta tb:TE}{pos:Pos}
def tB(t:TE):TT:=λσ H Q=>t σ H λx H1=>∃c,x=.bl c/\Q c H1
theorem z7{e:Expr}{t:TE}(h:PE X e t)(he:∀whole,isTrue e X.env whole=(do let v <- whole;standAt e.pos;holding [v] (truthy v)):=by intro _;rfl):PT X e (tB t):=by
 intro pins s σ H Q I hw;refine isTrue_plain (thn (h pins s σ H _ I hw) λv s1 zq=>?_) (he _);obtain⟨x,H1,I1,r1,q1⟩:=zq;obtain⟨d,rfl,q⟩:=q1;cases r1;exact wpAny_truthy_bool ⟨H1,I1,q⟩
variable{tA tB':TT}{Z3:List Expr}
def HZ(t u:TT):TT:=λσ H Q=>t σ H λc H1=>if c=true then u σ H1 Q else Q false H1
def tOr(t u:TT):TT:=λσ H Q=>t σ H λc H1=>if c=true then Q true H1 else u σ H1 Q
def Hj(t:TT):TT:=λσ H Q=>t σ H λc H1=>Q (!c) H1
theorem y9(ha:PT X a tA):PW X (.BoolOp .And [a] pos) tA:=by
 intro wh pins s σ H Q I h;refine isTrue_and (thn (ha pins s σ H Q I h) λc s1 e=>?_);cases c with
 |true=>exact isTrue_and_nil e
 |false=>exact e
theorem jc(ha:PT X a tA):PW X (.BoolOp .Or [a] pos) tA:=by
 intro wh pins s σ H Q I h;refine isTrue_or (thn (ha pins s σ H Q I h) λc s1 e=>?_);cases c with
 |false=>exact isTrue_or_nil e
 |true=>exact e
theorem QP(ha:PT X a tA)(hb:PW X (.BoolOp .And (b::Z3) pos) tB'):PW X (.BoolOp .And (a::b::Z3) pos) (HZ tA tB'):=by
 intro wh pins s σ H Q I h;refine isTrue_and (thn (ha pins s σ H _ I h) λc s1 zq=>?_);obtain⟨H1,I1,q1⟩:=zq;cases c with
 |true=>exact hb wh pins s1 σ H1 Q I1 q1
 |false=>exact⟨H1,I1,q1⟩
theorem kE(ha:PT X a tA)(hb:PW X (.BoolOp .Or (b::Z3) pos) tB'):PW X (.BoolOp .Or (a::b::Z3) pos) (tOr tA tB'):=by
 intro wh pins s σ H Q I h;refine isTrue_or (thn (ha pins s σ H _ I h) λc s1 zq=>?_);obtain⟨H1,I1,q1⟩:=zq;cases c with
 |true=>exact⟨H1,I1,q1⟩
 |false=>exact hb wh pins s1 σ H1 Q I1 q1
theorem qx(ha:PT X a tA):PT X (.UnaryOp .Not a pos) (Hj tA):=by
 intro pins s σ H Q I h;exact isTrue_not (ha pins s σ H (λc H1=>Q (!c) H1) I h)
def DQ(ta tb:TE):TE:=λσ H Q=>ta σ H λx H1=>∃c,x=.bl c/\if c=true then tb σ H1 Q else Q (.bl false) H1
def HY(ta tb:TE):TE:=λσ H Q=>ta σ H λx H1=>∃c,x=.bl c/\if c=true then Q (.bl true) H1 else tb σ H1 Q
def Fk(ta:TE):TE:=λσ H Q=>ta σ H λx H1=>∃c,x=.bl c/\Q (.bl (!c)) H1
theorem QZ{op}{t:TE}(h:PE X a t):PE X (.BoolOp op [a] pos) t:=λpins s σ H Q I hw=>BoolOp_one (h pins s σ H Q I hw)
theorem XX(ha:PE X a ta)(hb:PE X (.BoolOp .And (b::Z3) pos) tb):PE X (.BoolOp .And (a::b::Z3) pos) (DQ ta tb):=by
 intro pins s σ H Q I h;refine BoolOp_and (thn (ha pins s σ H _ I h) λv s1 zq=>?_);obtain⟨x,H1,I1,r1,q1⟩:=zq;obtain⟨c,rfl,q1⟩:=q1;cases r1;refine wpAny_truthy_bool ?_;cases c with
 |true=>exact hb pins s1 σ H1 Q I1 q1
 |false=>exact⟨.bl false,H1,I1,rfl,q1⟩
theorem CO(ha:PE X a ta)(hb:PE X (.BoolOp .Or (b::Z3) pos) tb):PE X (.BoolOp .Or (a::b::Z3) pos) (HY ta tb):=by
 intro pins s σ H Q I h;refine BoolOp_or (thn (ha pins s σ H _ I h) λv s1 zq=>?_);obtain⟨x,H1,I1,r1,q1⟩:=zq;obtain⟨c,rfl,q1⟩:=q1;cases r1;refine wpAny_truthy_bool ?_;cases c with
 |false=>exact hb pins s1 σ H1 Q I1 q1
 |true=>exact⟨.bl true,H1,I1,rfl,q1⟩
theorem u6(ha:PE X a ta):PE X (.UnaryOp .Not a pos) (Fk ta):=by
 intro pins s σ H Q I h;refine UnaryOp_ (thn (ha pins s σ H _ I h) λv s1 zq=>?_);obtain⟨x,H1,I1,r1,q1⟩:=zq;obtain⟨c,rfl,q1⟩:=q1;cases r1;exact not_of (wpAny_truthy_bool ⟨.bl (!c),H1,I1,rfl,q1⟩)
def tIf(t:TT)(ta tb:TE):TE:=λσ H Q=>t σ H λc H1=>if c=true then ta σ H1 Q else tb σ H1 Q
theorem jN{c:Expr}(hc:PT X c tA)(ha:PE X a ta)(hb:PE X b tb):PE X (.IfExp c a b pos) (tIf tA ta tb):=by
 intro pins s σ H Q I h;refine wpAny_IfExp (thn (hc pins s σ H _ I h) λd s1 zq=>?_);obtain⟨H1,I1,q1⟩:=zq;cases d with
 |true=>exact ha pins s1 σ H1 Q I1 q1
 |false=>exact hb pins s1 σ H1 Q I1 q1
end
def SqL(K:W.Frag)(H:Hp)(a:Addr)(xs:List V):Prop:=
 Rd H a (.lst xs) \/
  ∃(o:Obj)(its:Array Value)(n:Nat),K.lookup a=some o/\o.cls=.type "list"/\o.dict=none/\o.data=.seq its n/\its.size<=sizeLine/\qP xs its.toList
def SqT(K:W.Frag)(H:Hp)(a:Addr)(xs:List V):Prop:=
 Rd H a (.tup xs) \/
  ∃(o:Obj)(its:Array Value)(n:Nat),K.lookup a=some o/\o.cls=.type "tuple"/\o.data=.seq its n/\its.size<=sizeLine/\qP xs its.toList
def Hz:Value->Option V
 |.none=>some .non
 |.bool b=>some (.bl b)
 |.int i _=>some (.int i)
 |.str x _=>some (.str x)
 |.bytes b _=>some (.byt b)
 |.float b _=>some (.flt b)
 |.ref a=>some (.ref a)
 |.type n=>some (.ty n)
 |_=>none
variable{x:V}
theorem xX.abs{u:Value}(r:xX x u):Hz u=some x:=by
 cases x with
 |non=>cases r;rfl
 |bl _=>cases r;rfl
 |int _=>obtain⟨t,rfl⟩:=r;rfl
 |str _=>obtain⟨t,rfl⟩:=r;rfl
 |byt _=>obtain⟨t,rfl⟩:=r;rfl
 |flt _=>obtain⟨t,rfl⟩:=r;rfl
 |ref _=>cases r;rfl
 |ty _=>cases r;rfl
variable{y:V}
theorem xX.inj{u:Value}(r:xX x u)(q:xX y u):x=y:=Option.some.inj (r.abs.symm.trans q.abs)
theorem qP.inj:∀{xs ys:List V}{us:List Value},qP xs us->qP ys us->xs=ys
 |_,_,_,.nil,.nil=>rfl
 |_,_,_,.cons r t,.cons r' t'=>by rw[r.inj r',qP.inj t t']
section
variable{X:Cx}{pins:List (Addr×Obj)}{σ:St}{H:Hp}{s:Shared}{a:Addr}{xs ys:List V}
theorem SqL.of{K:W.Frag}(h:H a=some (.lst xs)):SqL K H a xs:=.inl (.inl h)
theorem SqT.of{K:W.Frag}(h:H a=some (.tup xs)):SqT K H a xs:=.inl (.inl h)
theorem Inv.list(I:Inv X pins σ H s)(h:SqL X.K H a xs):∃its:List Value,qP xs its/\PlainL s.heap a its.toArray/\xs.length<=sizeLine:=by
 rcases h with h|⟨o,its,n,hk,hc,hd,hs,hz,r⟩
 .obtain⟨z,its,n,r,e⟩:=h.ok I.hok;exact⟨its,r,⟨_,n,e,rfl,rfl,rfl⟩,z⟩
 .refine⟨its.toList,r,⟨o,n,I.kIn a o hk,hc,hd,by simpa using hs⟩,?_⟩;have e:=r.length;simp only[Array.length_toList]at e;omega
theorem Inv.tuple(I:Inv X pins σ H s)(h:SqT X.K H a xs):∃its:List Value,qP xs its/\IsTup s.heap a its.toArray/\xs.length<=sizeLine:=by
 rcases h with h|⟨o,its,n,hk,hc,hs,hz,r⟩
 .obtain⟨z,its,r,p⟩:=h.ok I.hok;exact⟨its,r,p,z⟩
 .refine⟨its.toList,r,⟨o,I.kIn a o hk,hc,n,by simpa using hs⟩,?_⟩;have e:=r.length;simp only[Array.length_toList]at e;omega
theorem Inv.list_inj(I:Inv X pins σ H s)(h:SqL X.K H a xs)(h':SqL X.K H a ys):xs=ys:=by
 obtain⟨its,r,⟨o,n,e,_,_,d⟩,_⟩:=I.list h;obtain⟨its',r',⟨o',n',e',_,_,d'⟩,_⟩:=I.list h';rw[e]at e';cases e';rw[d]at d';injection d' with d1 _;have:its=its':=by simpa using congrArg Array.toList d1
 subst this;exact r.inj r'
theorem Inv.tuple_inj(I:Inv X pins σ H s)(h:SqT X.K H a xs)(h':SqT X.K H a ys):xs=ys:=by
 obtain⟨its,r,⟨o,e,_,n,d⟩,_⟩:=I.tuple h;obtain⟨its',r',⟨o',e',_,n',d'⟩,_⟩:=I.tuple h';rw[e]at e';cases e';rw[d]at d';injection d' with d1 _;have:its=its':=by simpa using congrArg Array.toList d1
 subst this;exact r.inj r'
end
abbrev Cx.wish(X:Cx)(E:Value->Shared->Prop):Cx:={ X with xe:=E }
abbrev Cx.nox(X:Cx):Cx:=X.wish λ_ _=>False
theorem Cx.Ok.wish(ok:X.Ok)(E:Value->Shared->Prop):(X.wish E).Ok:=
 ⟨ok.mod,ok.kind,ok.glob,ok.blt,ok.above,ok.inj,ok.has,ok.cab,ok.hd,ok.frames,ok.stk,ok.exf,ok.bs,ok.bsz,ok.noex,ok.exfs,ok.funs,ok.frf⟩
theorem Cx.Ok.unwish(ok:(X.wish E).Ok):X.Ok:=
 ⟨ok.mod,ok.kind,ok.glob,ok.blt,ok.above,ok.inj,ok.has,ok.cab,ok.hd,ok.frames,ok.stk,ok.exf,ok.bs,ok.bsz,ok.noex,ok.exfs,ok.funs,ok.frf⟩
section
variable{X:Cx}{pins:List (Addr×Obj)}{σ:St}{H:Hp}{s:Shared}{E:Value ->Shared ->Prop}
theorem Inv.wish(I:Inv X pins σ H s)(E:Value->Shared->Prop):Inv (X.wish E) pins σ H s:=⟨I.ok.wish E,I.os,I.bare,I.base,I.loc,I.cell,I.free,I.freeC,I.pin,I.hok,I.len⟩
theorem Inv.unwish(I:Inv (X.wish E) pins σ H s):Inv X pins σ H s:=⟨I.ok.unwish,I.os,I.bare,I.base,I.loc,I.cell,I.free,I.freeC,I.pin,I.hok,I.len⟩
theorem SP.unwish{D:Z0}{f:Flow}{s':Shared}(h:SP (X.wish E) pins D f s'):SP X pins D f s':=by
 cases f with
 |next=>obtain⟨σ',H',I,q⟩:=h;exact⟨σ',H',I.unwish,q⟩
 |brk=>obtain⟨σ',H',I,q⟩:=h;exact⟨σ',H',I.unwish,q⟩
 |cont=>obtain⟨σ',H',I,q⟩:=h;exact⟨σ',H',I.unwish,q⟩
 |ret u=>obtain⟨v,σ',H',I,r,q⟩:=h;exact⟨v,σ',H',I.unwish,r,q⟩
theorem PE.nox{e:Expr}{t:TE}(h:PE X.nox e t):PE X e t:=λpins s σ H Q I hw=>
 wpAny_mono (h pins s σ H Q (I.wish _) hw) (λ_ _⟨v,H',I',r,q⟩=>⟨v,H',I'.unwish,r,q⟩) λ_ _ z=>False.elim z
theorem PT.nox{e:Expr}{t:TT}(h:PT X.nox e t):PT X e t:=λpins s σ H Q I hw=>
 wpAny_mono (h pins s σ H Q (I.wish _) hw) (λ_ _⟨H',I',q⟩=>⟨H',I'.unwish,q⟩) λ_ _ z=>False.elim z
theorem PSs.nox{st:List Stmt}{t:TS}(h:PSs X.nox st t):PSs X st t:=λpins s σ H D I hw=>
 wpAny_mono (h pins s σ H D (I.wish _) hw) (λ_ _ q=>q.unwish) λ_ _ z=>False.elim z
end
section
variable{X:Cx}{st:Stmt}{Z3:List Stmt}{t u:TS}{e:Expr}{te:TE}{pos:Pos}
def E9:TS:=λD σ H=>D.nx σ H
def xM(t u:TS):TS:=λD σ H=>t { D with nx:=u D } σ H
theorem zM:PSs X [] E9:=λ_ _ σ H _ I h=>wpAny_execs_nil ⟨σ,H,I,h⟩
theorem zA(h1:PS X st t)(h2:PSs X Z3 u):PSs X (st::Z3) (xM t u):=by
 intro pins s σ H D I h;refine wpAny_execs_cons (thn (h1 pins s σ H { D with nx:=u D } I h) λf s1 q=>?_);cases f with
 |next=>
  obtain⟨σ',H',I',q⟩:=q;exact h2 pins s1 σ' H' D I' q
 |ret v=>exact q
 |brk=>exact q
 |cont=>exact q
theorem zB(h1:PS X st t):PSs X [st] t:=by
 intro pins s σ H D I h;refine wpAny_execs_cons (thn (h1 pins s σ H D I h) λf s1 q=>?_);cases f with
 |next=>exact wpAny_execs_nil q
 |ret v=>exact q
 |brk=>exact q
 |cont=>exact q
theorem Inv.quiet{pins:List (Addr×Obj)}{σ:St}(I:Inv X pins σ H s):interactive X.env=false:=by simp[interactive,I.ok.kind]
def DI(te:TE):TS:=λD σ H=>te σ H λ_ H1=>D.nx σ H1
theorem qO(he:PE X e te)(hs:swapsWith e none pos.line X.env=pure false:=by rfl):PS X (.Expr e pos) (DI te):=by
 intro pins s σ H D I h;exact wpAny_Expr_any (thn (he pins s σ H _ I h) λv s1⟨x,H1,I1,r1,q1⟩=>⟨σ,H1,I1,q1⟩) I.quiet hs
def HP(te:TE):TS:=λD σ H=>te σ H D.rt
theorem zJ(he:PE X e te):PS X (.Return (some e) pos) (HP te):=by
 intro pins s σ H D I h;exact wpAny_Return_some (thn (he pins s σ H _ I h) λv s1⟨x,H1,I1,r1,q1⟩=>⟨x,σ,H1,I1,r1,q1⟩)
def Fv(c:TT)(t u:TS):TS:=λD σ H=>c σ H λb H1=>if b=true then t D σ H1 else u D σ H1
theorem zb{c:Expr}{a b:List Stmt}{tc:TT}(hc:PT X c tc)(ha:PSs X a t)(hb:PSs X b u):PS X (.If c a b pos) (Fv tc t u):=by
 intro pins s σ H D I h;refine wpAny_If (thn (hc pins s σ H _ I h) λd s1 zq=>?_);obtain⟨H1,I1,q1⟩:=zq;cases d with
 |true=>exact ha pins s1 σ H1 D I1 q1
 |false=>exact hb pins s1 σ H1 D I1 q1
def FQ:TS:=λ_ _ _=>False
theorem xF:PS X st FQ:=λ_ _ _ _ _ _ h=>h.elim
end
abbrev TG:=V->St->Hp->(St->Hp->Prop)->Prop
abbrev TGs:=List V->St->Hp->(St->Hp->Prop)->Prop
def PG(X:Cx)(target:Expr)(t:TG):Prop:=
 ∀(pins:List (Addr×Obj))(s:Shared)(σ:St)(H:Hp)(v:V)(u:Value)(Q:St->Hp->Prop),Inv X pins σ H s->xX v u->t v σ H Q ->
  wpAny (model X.prog X.w) X.A (assign target X.env u) (λ_ s'=>∃σ' H',Inv X pins σ' H' s'/\Q σ' H') X.xe s
def PGs(X:Cx)(ts:List Expr)(t:TGs):Prop:=
 ∀(pins:List (Addr×Obj))(s:Shared)(σ:St)(H:Hp)(vs:List V)(us:List Value)(Q:St->Hp->Prop),Inv X pins σ H s->qP vs us->t vs σ H Q ->
  wpAny (model X.prog X.w) X.A (assignInOrder ((assignEach ts X.env).map (·.2)) us) (λ_ s'=>∃σ' H',Inv X pins σ' H' s'/\Q σ' H') X.xe s
section
variable{X:Cx}{pos:Pos}
def WR(i:Nat):TG:=λv σ H Q=>Q (σ.set i (some v)) H
variable{i:Nat}
theorem lv{x:Str}(hN:X.N.Nodup)(hi:X.N[i]?=some x)(hx:Loc X.env.scope x)(hf:X.fn x=true\/X.env.scope.names.lookup x=some .local:=by first|exact .inl rfl|exact .inr rfl|assumption):PG X (.Name x pos) (WR i):=by
 intro pins s σ H v u Q I r h;exact wpAny_assign_Name (y4 I hN hi hx r (λs' I'=>⟨_,H,I',h⟩) hf)
def Hu:TGs:=λvs σ H Q=>vs=[]/\Q σ H
def FD(t:TG)(u:TGs):TGs:=λvs σ H Q=>∃v r,vs=v::r/\t v σ H λσ' H'=>u r σ' H' Q
theorem J5:PGs X [] Hu:=by
 intro pins s σ H vs us Q I r h;obtain⟨e,h⟩:=h;subst e;cases r;exact assignInOrder_nil ⟨σ,H,I,h⟩
theorem qL{e:Expr}{es:List Expr}{t:TG}{u:TGs}(h1:PG X e t)(h2:PGs X es u)
  (hs:(assignEach (e::es) X.env).map (·.2)=assign e X.env::(assignEach es X.env).map (·.2):=by rfl):PGs X (e::es) (FD t u):=by
 intro pins s σ H vs us Q I r h;obtain⟨v,vr,e1,h⟩:=h;subst e1;cases r with
 |cons r rr=>
  rw[hs];refine assignInOrder_cons (thn (h1 pins s σ H _ _ _ I r h) λ_ s1 zq=>?_);obtain⟨σ1,H1,I1,q1⟩:=zq;exact h2 pins s1 σ1 H1 _ _ Q I1 rr q1
def Gr(K:W.Frag)(n:Nat)(t:TGs):TG:=λv σ H Q=>∃a xs,v=.ref a/\SqT K H a xs/\xs.length=n/\t xs σ H Q
theorem Dg{es:List Expr}{k:Nat}{t:TGs}{n:Nat}(hc:X.calm=true)(h:PGs X es t)
  (hn:(assignEach es X.env).length=n:=by rfl) (hst:(assignEach es X.env).findIdx? (·.1)=none:=by rfl):PG X (.Tuple es k pos) (Gr X.K n t):=by
 intro pins s σ H v u Q I r hw;obtain⟨a,xs,e1,hq,hl,hw⟩:=hw;subst e1;cases r;obtain⟨its,rv,ht,hz⟩:=I.tuple hq;refine assign_Tuple_tuple (I.ok.hd hc) ht (by simp[hn,<- hl,rv.length]) hst λh' hx=>?_;have I1:Inv X pins σ H { s with heap:=h' }:=I.kept (t':=s.toks) λb o e=>hx b o (ne_of_lt (Heap.lt_size e)) e;exact h pins _ σ H xs _ Q I1 (by simpa using rv) hw
def Bh(te:TE)(g:TG):TS:=λD σ H=>te σ H λx H1=>g x σ H1 D.nx
theorem aN{tg e:Expr}{te:TE}{g:TG}(he:PE X e te)(hg:PG X tg g)(hs:swapsWithSole [tg] e pos.line X.env=pure false:=by rfl)(hw:swappedStores [tg] e X.env=pure none:=by rfl)
  (h1:(assignEach [tg] X.env).map (·.2)=[assign tg X.env]:=by rfl):PS X (.Assign [tg] e pos) (Bh te g):=by
 intro pins s σ H D I h;refine wpAny_Assign_stores (thn (he pins s σ H _ I h) λv s1 zq=>?_) hs hw;obtain⟨x,H1,I1,r1,q1⟩:=zq;rw[h1];exact thn (hg pins s1 σ H1 x v _ I1 r1 q1) λ_ s2 q=>q
theorem gZ{x:Str}{e:Expr}{te:TE}{pos':Pos}(hN:X.N.Nodup)(hi:X.N[i]?=some x)(hx:Loc X.env.scope x)(he:PE X e te)(hs:swapsWith e (some (.Name x pos')) pos.line X.env=pure false:=by rfl)(hf:X.fn x=true\/X.env.scope.names.lookup x=some .local:=by first|exact .inl rfl|exact .inr rfl|assumption):
  PS X (.Assign [.Name x pos'] e pos) (Bh te (WR i)):=by
 intro pins s σ H D I h;refine wpAny_Assign_Name (thn (he pins s σ H _ I h) λv s1 zq=>?_) hs;obtain⟨y,H1,I1,r1,q1⟩:=zq;exact y4 I1 hN hi hx r1 (λs2 I2=>⟨_,H1,I2,q1⟩) hf
def Hq(i j:Nat)(ta:TA):TS:=λD σ H=>ta σ H λvs H1=>∃v w,vs=[v,w]/\D.nx ((σ.set i (some v)).set j (some w)) H1
theorem EO{j:Nat}{x y:Str}{a b:Expr}{ta:TA}{px py pt:Pos}{kt k2 pt2}(hc:X.calm=true)(hN:X.N.Nodup)(hi:X.N[i]?=some x)(hj:X.N[j]?=some y)(hij:i≠j)
  (hx:X.env.scope.names.lookup x=some .local) (hy:X.env.scope.names.lookup y=some .local) (ha:PA X [a,b] ta)
  (hw:swappedStores [.Tuple [.Name x px,.Name y py] kt pt] (.Tuple [a,b] k2 pt2) X.env=pure (some [x,y]))
  (hs:swapsWithSole [.Tuple [.Name x px,.Name y py] kt pt] (.Tuple [a,b] k2 pt2) pos.line X.env=pure false:=by rfl):
  PS X (.Assign [.Tuple [.Name x px,.Name y py] kt pt] (.Tuple [a,b] k2 pt2) pos) (Hq i j ta):=by
 intro pins s σ H D I h;rw[exec_Assign_arm];refine wpAny_bind (wpAny_standAt ?_);rw[hs];refine wpAny_bind (wpAny_pure ?_);rw[if_neg (by decide)];refine wpAny_bind (Tuple_ (thn (ha _ pins s σ H _ I h) λus s1 zq=>?_));obtain⟨vs,H1,I1,r1,q1⟩:=zq;obtain⟨v,w,e1,q1⟩:=q1;subst e1;obtain⟨u1,u2,rfl,rv,rw'⟩:∃u1 u2,us=[u1,u2]/\xX v u1/\xX w u2:=by
  cases r1 with
  |cons p q=>
   cases q with
   |cons p' q'=>
    cases q';exact⟨_,_,rfl,p,p'⟩
 refine wpAny_newObj_type ?_ (by show 2<=sizeLine;decide);have I2:Inv X pins σ H1 { s1 with heap:=s1.heap.push { cls:=.type "tuple",data:=.seq [u1,u2].toArray } }:=I1.kept (t':=s1.toks) λb o e=>Heap.get?_push_of_some _ e;rw[hw];refine wpAny_bind (wpAny_pure ?_);show wpAny (model X.prog X.w) X.A (do rule "assign.swapped-stores"; let items <- unpackItems (.ref s1.heap.objs.size) 2 none;assignInOrder [λv=>bindName X.env y v,λv=>bindName X.env x v] items.reverse;pure Flow.next) _ _ _;refine wpAny_bind (wpAny_rule (wpAny_bind (unpackItems_tuple (items:=#[u1,u2]) (I.ok.hd hc) (IsTup.new s1.heap _) λh' hx'=>?_)));have I3:=I2.kept (h':=h') (t':=s1.toks) λb o e=>hx' b o (ne_of_lt (Heap.lt_size e)) e;show wpAny _ _ (assignInOrder [λv=>bindName X.env y v,λv=>bindName X.env x v] [u2,u1]>>= λ_=>pure Flow.next) _ _ _;refine wpAny_bind (assignInOrder_cons (wpAny_bindName (y4 I3 hN hj (.inl hy) rw' (λs2 I4=>?_) (.inr hy))));refine assignInOrder_cons (wpAny_bindName (y4 I4 hN hi (.inl hx) rv (λs3 I5=>assignInOrder_nil (wpAny_pure ?_)) (.inr hx)));rw[List.set_comm _ _ (Ne.symm hij)]at I5;exact⟨_,H1,I5,q1⟩
end
section
variable{X:Cx}{pos:Pos}
def u5(c:TT)(tb:TS):TS:=λD σ H=>∃W:Nat->St->Hp->Prop,(∃m,W m σ H)/\∀m σ H,W m σ H ->
 c σ H λb H1=>if b=true then ∃N:St->Hp->Prop,(∀σ' H',N σ' H'->∃m',m'<m/\W m' σ' H')/\tb { D with nx:=N,ct:=N,bk:=D.nx } σ H1 else D.nx σ H1
theorem Jd{c:Expr}{body:List Stmt}{tc:TT}{tb:TS}(hp:PassesOwn (model X.prog X.w) X.A X.env X.xe)(hc:PT X c tc)(hb:PSs X body tb):PS X (.While c body [] pos) (u5 tc tb):=by
 intro pins s σ H D I h;obtain⟨W,⟨m0,w0⟩,turn⟩:=h;refine wpAny_While (codeAny_whileLoop (λn s'=>∃σ' H',Inv X pins σ' H' s'/\W n σ' H') ?_ m0 ⟨σ,H,I,w0⟩);rintro n s1 ⟨σ1,H1,I1,w1⟩;refine wpAny_passesOwn hp (thn (hc pins s1 σ1 H1 _ I1 (turn n σ1 H1 w1)) λb s2 zq=>?_);obtain⟨H2,I2,q2⟩:=zq;cases b with
 |true=>
  obtain⟨N,hN,q2⟩:=q2;rw[if_pos rfl];refine wpAny_passesOwn hp (thn (hb pins s2 σ1 H2 _ I2 q2) λf s3 q3=>?_);cases f with
  |next=>
   obtain⟨σ3,H3,I3,n3⟩:=q3;obtain⟨m',hm,w3⟩:=hN σ3 H3 n3;exact⟨m',hm,σ3,H3,I3,w3⟩
  |cont=>
   obtain⟨σ3,H3,I3,n3⟩:=q3;obtain⟨m',hm,w3⟩:=hN σ3 H3 n3;exact⟨m',hm,σ3,H3,I3,w3⟩
  |brk=>exact q3
  |ret v=>exact q3
 |false=>
  rw[if_neg Bool.false_ne_true];exact wpAny_execs_nil ⟨σ1,H2,I2,q2⟩
end
structure It where
 go:Nat->Hp->Prop
 yld:Nat->Hp->V->Hp->Prop
 stop:Nat->Hp->Prop
def i8(X:Cx)(pins:List (Addr×Obj))(H:Hp)(b:Addr):Prop:=
 H b=none/\b≠X.env.locals/\b∉X.fs/\(b∈X.ex\/X.s₀.heap.objs.size<=b)/\(∀x c,X.env.cells.lookup x=some c->c≠b)/\∀p∈X.pn++pins,p.1≠b
variable{pins:List (Addr×Obj)}{σ:St}
theorem Inv.fpOk{H':Hp}(I:Inv X pins σ H s)(hb:s.heap.objs.size<=b)(hn:H' b=none):i8 X pins H' b:=by
 refine⟨hn,Nat.ne_of_gt (lt_of_lt_of_le I.lt hb),I.nofs hb,.inr (le_trans I.sz hb),λx c e z=>?_,λp hp z=>?_⟩
 .obtain⟨v,q⟩:=I.cell x c e;exact absurd (lt_of_lt_of_le q.lt (by rw[z];exact hb)) (lt_irrefl _)
 .exact absurd (lt_of_lt_of_le (Heap.lt_size (I.pin p hp).1) (by rw[z];exact hb)) (lt_irrefl _)
structure CZ(P:Program)(w:World)(K:W.Frag)(tg:Expr)(J:It)(fp:List Addr)(it:Addr)(tn:Nat->Heap->Prop):Prop where
 mem:it∈fp
 obj:∀i h,tn i h->∀b∈fp,∃o,h.get? b=some o/\∀v,o.data≠.cell v
 keep:∀i h h',tn i h->(∀b∈fp,∀o,h.get? b=some o->h'.get? b=some o)->tn i h'
 item:∀(X:Cx),X.prog=P->X.w=w->X.K=K->X.calm=true->∀(i:Nat)(pins:List (Addr×Obj))(s:Shared)(σ:St)(H:Hp)(E:Value->Shared->Prop),Inv X pins σ H s->(∀b∈fp,i8 X pins H b)->tn i s.heap->J.go i H ->
  wpAny (model P w) X.A (pyNext (.ref it)) (λr s1=>∃u,r=some u /\
   wpAny (model P w) X.A (letOwnedTupleGo tg (.ref it) u) (λ_ s2=>∃x H',Inv X pins σ H' s2/\xX x u/\J.yld i H x H'/\tn (i+1) s2.heap/\∀b∈fp,H' b=none) E s1) E s
 done:∀(X:Cx),X.prog=P->X.w=w->X.K=K->X.calm=true->∀(i:Nat)(pins:List (Addr×Obj))(s:Shared)(σ:St)(H:Hp)(E:Value->Shared->Prop),Inv X pins σ H s->(∀b∈fp,i8 X pins H b)->tn i s.heap->J.stop i H ->
  wpAny (model P w) X.A (pyNext (.ref it)) (λr s1=>r=none/\Inv X pins σ H s1) E s
 self:∀(A:Around)(i:Nat)(s:Shared)(Q:Value->Shared->Prop)(E:Value->Shared->Prop),tn i s.heap->Q (.ref it) s->wpAny (model P w) A (pyIter (.ref it)) Q E s
abbrev TI:=St->Hp->(It->Hp->Prop)->Prop
def PIE(X:Cx)(pins:List (Addr×Obj))(σ:St)(tg:Expr)(R:It->Hp->Prop)(itv:Value)(s2:Shared):Prop:=
 ∃(it:Addr)(fp:List Addr)(tn:Nat->Heap->Prop)(J:It)(H':Hp),itv=.ref it/\Inv X pins σ H' s2/\CZ X.prog X.w X.K tg J fp it tn/\tn 0 s2.heap/\(∀b∈fp,i8 X pins H' b)/\R J H'
def PI(X:Cx)(tg iter:Expr)(wi:TI):Prop:=
 ∀(pins:List (Addr×Obj))(s:Shared)(σ:St)(H:Hp)(R:It->Hp->Prop),Inv X pins σ H s->wi σ H R ->
  wpAny (model X.prog X.w) X.A (eval iter X.env) (λv s1=>wpAny (model X.prog X.w) X.A (pyIter v) (PIE X pins σ tg R) X.xe s1) X.xe s
variable{tg:Expr}{Q:Unit ->Shared ->Prop}
theorem oX {M : Model} {it : Addr} {u : Value} {o : Obj} {n : String} {vs : Array Value} (ho : s.heap.get? it = some o) (hc : o.cls = .type n) (hd : o.data = .fields vs)
    (hn : ["enumerate", "zip", "dict_itemiterator", "dict_reverseitemiterator", "odict_iterator", "itertools.zip_longest", "itertools.pairwise"].contains n = false) (hQ : Q () s) : wpAny M A (letOwnedTupleGo tg (.ref it) u) Q E s := by
  unfold letOwnedTupleGo
  cases tg <;> first
    | exact wpAny_pure hQ
    | (cases u <;> first
        | exact wpAny_pure hQ
        | (refine wpAny_bind (wpAny_load ho ?_)
           rw [hc, hd]
           show wpAny M A (if (["enumerate", "zip", "dict_itemiterator", "dict_reverseitemiterator", "odict_iterator", "itertools.zip_longest", "itertools.pairwise"].contains n && vs[0]? == some (rawInt _)) = true then _ else _) Q E s
           rw [if_neg (by intro h; rw [hn, Bool.false_and] at h; cases h)]
           exact wpAny_pure hQ))
def Itl(K:W.Frag)(a:Addr):It:=
 ⟨λi H=>∃xs x,SqL K H a xs/\xs[i]?=some x,λi H x H'=>H'=H/\∀xs,SqL K H a xs->xs[i]?=some x,λi H=>∃xs,SqL K H a xs/\xs.length<=i⟩
def Itt(K:W.Frag)(a:Addr):It:=
 ⟨λi H=>∃xs x,SqT K H a xs/\xs[i]?=some x,λi H x H'=>H'=H/\∀xs,SqT K H a xs->xs[i]?=some x,λi H=>∃xs,SqT K H a xs/\xs.length<=i⟩
def Itr(lo:Int)(n:Nat):It:=⟨λi _=>i<n,λi H x H'=>H'=H/\x=.int (lo+i),λi _=>n<=i⟩
variable{K:W.Frag}
theorem oR(a it:Addr):CZ P w K tg (Itl K a) [it] it (λi h=>h.IsListIter it a i) where
 mem:=by simp
 obj:=λi h st b hb=>by
  have e:b=it:=by simpa using hb
  subst e;obtain⟨o,e,c,d⟩:=st;exact⟨o,e,λv z=>by rw[d]at z;cases z⟩
 keep:=λi h h' st k=>st.at λo e=>k it (by simp) o e
 item:=by
  intro X hP hw hK hc i pins s σ H E I hf st hg;subst hP hw hK;obtain⟨xs,x,hq,hx⟩:=hg;obtain⟨its,rv,p,hz⟩:=I.list hq;obtain⟨u,hu,ru⟩:=rv.get hx;obtain⟨f0,f1,f2,f3,f4,f5⟩:=hf it (by simp);refine wpAny_pyNext_list_item st p.isList (x:=u) (by simpa using hu) λh' st' sb=>?_;have I1:Inv X pins σ H { s with heap:=h' }:=I.turned (t':=s.toks) (λb o hb e=>(sb.2 b hb).trans e) f0 f1 f3 f4 f5;obtain⟨o,e,c,d⟩:=id st';exact⟨u,rfl,oX (s:={ s with heap:=h' }) e c d (by decide) ⟨x,H,I1,ru,⟨rfl,λys hy=>by rw[I.list_inj hy hq];exact hx⟩,st',λb hb=>(hf b hb).1⟩⟩
 done:=by
  intro X hP hw hK hc i pins s σ H E I hf st hg;subst hP hw hK;obtain⟨xs,hq,hx⟩:=hg;obtain⟨its,rv,p,hz⟩:=I.list hq;obtain⟨f0,f1,f2,f3,f4,f5⟩:=hf it (by simp);have hl:=rv.length;exact wpAny_pyNext_list_end (I.ok.hd hc) st p.isList (by simp;omega) λh' eb=>⟨rfl,I.turned (t':=s.toks) (λb o hb e=>eb b o hb e) f0 f1 f3 f4 f5⟩
 self:=λ_ _ _ _ _ st h=>wpAny_pyIter_listiter st h
theorem iS(a it:Addr):CZ P w K tg (Itt K a) [it] it (λi h=>h.IsTupleIter it a i) where
 mem:=by simp
 obj:=λi h st b hb=>by
  have e:b=it:=by simpa using hb
  subst e;obtain⟨o,e,c,d⟩:=st;exact⟨o,e,λv z=>by rw[d]at z;cases z⟩
 keep:=λi h h' st k=>st.at λo e=>k it (by simp) o e
 item:=by
  intro X hP hw hK hc i pins s σ H E I hf st hg;subst hP hw hK;obtain⟨xs,x,hq,hx⟩:=hg;obtain⟨its,rv,p,hz⟩:=I.tuple hq;obtain⟨u,hu,ru⟩:=rv.get hx;obtain⟨f0,f1,f2,f3,f4,f5⟩:=hf it (by simp);refine wpAny_pyNext_tuple_item st (show s.heap.IsTuple a its.toArray from p) (x:=u) (by simpa using hu) λh' st' sb=>?_;have I1:Inv X pins σ H { s with heap:=h' }:=I.turned (t':=s.toks) (λb o hb e=>(sb.2 b hb).trans e) f0 f1 f3 f4 f5;obtain⟨o,e,c,d⟩:=id st';exact⟨u,rfl,oX (s:={ s with heap:=h' }) e c d (by decide) ⟨x,H,I1,ru,⟨rfl,λys hy=>by rw[I.tuple_inj hy hq];exact hx⟩,st',λb hb=>(hf b hb).1⟩⟩
 done:=by
  intro X hP hw hK hc i pins s σ H E I hf st hg;subst hP hw hK;obtain⟨xs,hq,hx⟩:=hg;obtain⟨its,rv,p,hz⟩:=I.tuple hq;obtain⟨f0,f1,f2,f3,f4,f5⟩:=hf it (by simp);have hl:=rv.length;exact wpAny_pyNext_tuple_end (I.ok.hd hc) st (show s.heap.IsTuple a its.toArray from p) (by simp;omega) λh' eb=>⟨rfl,I.turned (t':=s.toks) (λb o hb e=>eb b o hb e) f0 f1 f3 f4 f5⟩
 self:=λ_ _ _ _ _ st h=>wpAny_pyIter_tupleiter st h
theorem gp{K:PySem.W.Frag}(it:Addr)(lo:Int)(n:Nat):CZ P w K tg (Itr lo n) [it] it (λi h=>IsRangeIter h it (lo+(i:Nat)*1) ((n:Int)-(i:Nat)) 1) where
 mem:=by simp
 obj:=λi h st b hb=>by
  have e:b=it:=by simpa using hb
  subst e;exact⟨_,st,λv z=>by
   have z':Data.fields _=Data.cell v:=z;cases z'⟩
 keep:=λi h h' st k=>k it (by simp) _ st
 item:=by
  intro X hP hw hK hc i pins s σ H E I hf st hg;subst hP hw hK;obtain⟨f0,f1,f2,f3,f4,f5⟩:=hf it (by simp);have W:=Walks.range (prog:=X.prog) (w:=X.w) (I.ok.hd hc) it lo 1 n;refine W.item i s _ _ hg st λv h' tk hv st' kk=>?_;obtain⟨t,rfl⟩:=hv;have I1:Inv X pins σ H { s with heap:=h',toks:=tk }:=I.turned (λb o hb e=>kk b o (by simpa using hb) e) f0 f1 f3 f4 f5;refine⟨_,rfl,oX (s:={ s with heap:=h',toks:=tk }) (n:="range_iterator") st' rfl rfl (by decide) ⟨.int (lo+i),H,I1,⟨t,?_⟩,⟨rfl,rfl⟩,st',λb hb=>(hf b hb).1⟩⟩;rw[Int.mul_one]
 done:=by
  intro X hP hw hK hc i pins s σ H E I hf st hg;subst hP hw hK;obtain⟨f0,f1,f2,f3,f4,f5⟩:=hf it (by simp);exact wpAny_pyNext_range_end (I.ok.hd hc) st (by have:n<=i:=hg;omega) λh' eb=>⟨rfl,I.turned (t':=s.toks) (λb o hb e=>eb b o hb e) f0 f1 f3 f4 f5⟩
 self:=λ_ _ _ _ _ st h=>wpAny_pyIter_rangeiter st h
section
variable{X:Cx}{tg:Expr}
def sI(K:W.Frag)(tl:TE):TI:=λσ H R=>tl σ H λx H1=>∃a,x=.ref a/\(∃xs,SqL K H1 a xs)/\R (Itl K a) H1
def HS(K:W.Frag)(tl:TE):TI:=λσ H R=>tl σ H λx H1=>∃a,x=.ref a/\(∃xs,SqT K H1 a xs)/\R (Itt K a) H1
theorem Au{l:Expr}{tl:TE}(hl:PE X l tl):PI X tg l (sI X.K tl):=by
 intro pins s σ H R I h;refine thn (hl pins s σ H _ I h) λv s1 zq=>?_;obtain⟨x,H1,I1,r1,q1⟩:=zq;obtain⟨a,e,⟨xs,hq⟩,q⟩:=q1;subst e;cases r1;obtain⟨its,rv,p,hz⟩:=I1.list hq;refine wpAny_pyIter_list p.isList ?_;refine⟨s1.heap.objs.size,[s1.heap.objs.size],_,_,H1,rfl,I1.kept (t':=s1.toks) λb o e=>Heap.get?_push_of_some _ e,oR a _,⟨_,Heap.get?_push_size _ rfl,rfl,rfl⟩,λb hb=>?_,q⟩;have e:b=s1.heap.objs.size:=by simpa using hb
 subst e;exact I1.fpOk (le_refl _) (I1.hok.fresh (le_refl _))
theorem Eu{l:Expr}{tl:TE}(hl:PE X l tl):PI X tg l (HS X.K tl):=by
 intro pins s σ H R I h;refine thn (hl pins s σ H _ I h) λv s1 zq=>?_;obtain⟨x,H1,I1,r1,q1⟩:=zq;obtain⟨a,e,⟨xs,hq⟩,q⟩:=q1;subst e;cases r1;obtain⟨its,rv,p,hz⟩:=I1.tuple hq;refine wpAny_pyIter_tuple (show s1.heap.IsTuple a its.toArray from p) ?_;refine⟨s1.heap.objs.size,[s1.heap.objs.size],_,_,H1,rfl,I1.kept (t':=s1.toks) λb o e=>Heap.get?_push_of_some _ e,iS a _,⟨_,Heap.get?_push_size _ rfl,rfl,rfl⟩,λb hb=>?_,q⟩;have e:b=s1.heap.objs.size:=by simpa using hb
 subst e;exact I1.fpOk (le_refl _) (I1.hok.fresh (le_refl _))
theorem gh{R:It->Hp->Prop}{lo hi:Int}{t u v:Tok}{tk:Nat}(I:Inv X pins σ H s)(h1:-(2^62)<=lo)(h2:lo<2^62)(h3:-(2^62)<=hi)(h4:hi<2^62)
  (q:R (Itr lo (hi-lo).toNat) H):wpAny (model X.prog X.w) X.A (pyIter (.ref s.heap.objs.size)) (PIE X pins σ tg R) E { s with heap:=s.heap.push { cls:=.type "range",data:=.fields #[.int lo t,.int hi u,.int 1 v] },toks:=tk }:=by
 refine wpAny_pyIter_range (IsRange.new ..) (small_one h1 h2 h3 h4) ?_;have I1:Inv X pins σ H { s with heap:=s.heap.push { cls:=.type "range",data:=.fields #[.int lo t,.int hi u,.int 1 v] },toks:=tk }:=I.kept λb o e=>Heap.get?_push_of_some _ e;refine⟨(s.heap.push { cls:=.type "range",data:=.fields #[.int lo t,.int hi u,.int 1 v] }).objs.size,[(s.heap.push { cls:=.type "range",data:=.fields #[.int lo t,.int hi u,.int 1 v] }).objs.size],_,_,H,rfl,
  I1.kept (t':=tk) λb o e=>Heap.get?_push_of_some _ e,gp _ lo (hi-lo).toNat,?_,λb hb=>?_,q⟩
 .have e1:lo+((0:Nat):Int)*1=lo:=by simp
  have e2:(((hi-lo).toNat:Nat):Int)-((0:Nat):Int)=Builtin.Range.rangeSize lo hi 1:=by rw[rangeSize_one];split<;>omega
  show IsRangeIter _ _ (lo+((0:Nat):Int)*1) ((((hi-lo).toNat:Nat):Int)-((0:Nat):Int)) 1;rw[e1,e2];exact Heap.get?_push_size _ rfl
 .have e:b=(s.heap.push { cls:=.type "range",data:=.fields #[.int lo t,.int hi u,.int 1 v] }).objs.size:=by simpa using hb
  subst e;exact I1.fpOk (le_refl _) (I1.hok.fresh (le_refl _))
def BX(ta:TA):TI:=λσ H R=>ta σ H λvs H1=>∃j:Int,vs=[.int j]/\-(2^62)<=j/\j<2^62/\R (Itr 0 j.toNat) H1
def Dk(ta:TA):TI:=λσ H R=>ta σ H λvs H1=>∃i j:Int,vs=[.int i,.int j]/\(-(2^62)<=i/\i<2^62/\-(2^62)<=j/\j<2^62)/\R (Itr i (j-i).toNat) H1
variable{pos:Pos}
theorem jW{a:Expr}{ta:TA}{p:Pos}(hg:Gl X "range")(hm:X.mg "range"=none)(ha:PA X [a] ta)(hs:starEach [a] X.env=[(false,eval a X.env)]:=by rfl):PI X tg (.Call (.Name "range" p) [a] [] pos) (BX ta):=by
 intro pins s σ H R I h;refine Call_ (Yh I hg hm boot_range (PyProof.Rows.callWith_type1 (thn (ha pos pins s σ H _ I h) λus s1 zq=>?_) hs rfl));obtain⟨vs,H1,I1,r1,q1⟩:=zq;obtain⟨j,e,q1,q2,q⟩:=q1;subst e;cases r1 with
 |cons r rr=>
  cases rr;obtain⟨t,rfl⟩:=r;exact call_range_1 (gh I1 (by omega) (by omega) q1 q2 (by simpa using q))
theorem oj{a b:Expr}{ta:TA}{p:Pos}(hg:Gl X "range")(hm:X.mg "range"=none)(ha:PA X [a,b] ta)(hs:starEach [a,b] X.env=[(false,eval a X.env),(false,eval b X.env)]:=by rfl)(hs2:starEach [b] X.env=[(false,eval b X.env)]:=by rfl):
  PI X tg (.Call (.Name "range" p) [a,b] [] pos) (Dk ta):=by
 intro pins s σ H R I h;refine Call_ (Yh I hg hm boot_range (PyProof.Rows.callWith_type1 (thn (ha pos pins s σ H _ I h) λus s1 zq=>?_) (by rw[hs,hs2]) (by rw[hs2];rfl)));obtain⟨vs,H1,I1,r1,q1⟩:=zq;obtain⟨i,j,e,⟨q1,q2,q3,q4⟩,q⟩:=q1;subst e;cases r1 with
 |cons r rr=>
  cases rr with
  |cons r' rr=>
   cases rr;obtain⟨t,rfl⟩:=r;obtain⟨t',rfl⟩:=r';exact call_range_2 (gh I1 q1 q2 q3 q4 q)
def C5(wi:TI)(g:TG)(tb:TS):TS:=λD σ H=>wi σ H λJ H1=>∃W:Nat->Nat->St->Hp->Prop,(∃m,W 0 m σ H1)/\∀i m σ H,W i m σ H ->
 (J.stop i H/\D.nx σ H)\/(J.go i H/\∃N:St->Hp->Prop,(∀σ' H',N σ' H'->∃m',m'<m/\W (i+1) m' σ' H')/\∀x H',J.yld i H x H'->g x σ H' λσ2 H2=>tb { D with nx:=N,ct:=N,bk:=D.nx } σ2 H2)
def cP(fp:List Addr)(h:Heap):List (Addr×Obj):=fp.filterMap λb=>(h.get? b).map λo=>(b,o)
variable{fp:List Addr}
theorem QE{o:Obj}(hb:b∈fp)(e:h.get? b=some o):(b,o)∈cP fp h:=List.mem_filterMap.mpr ⟨b,hb,by rw[e];rfl⟩
theorem oY{p:Addr×Obj}(hp:p∈cP fp h):p.1∈fp/\h.get? p.1=some p.2:=by
 obtain⟨b,hb,e⟩:=List.mem_filterMap.mp hp;cases q:h.get? b with
 |none=>rw[q]at e;cases e
 |some o=>
  rw[q]at e;have e':(b,o)=p:=Option.some.inj e;subst e';exact⟨hb,q⟩
theorem Inv.pinned(I:Inv X pins σ H s)(hf:∀b∈fp,i8 X pins H b)(ho:∀b∈fp,∃o,s.heap.get? b=some o/\∀v,o.data≠.cell v):Inv X (pins++cP fp s.heap) σ H s:=
 I.pins_of λp hp=>(List.mem_append.mp hp).elim (λz=>I.pin p (mem_append_right _ z)) λz=>by
  obtain⟨hb,e⟩:=oY z;obtain⟨f0,f1,f2,_⟩:=hf p.1 hb;obtain⟨o,e',d⟩:=ho p.1 hb;rw[e]at e';cases e';exact⟨e,f0,f1,f2,d⟩
theorem Inv.unpinned{pl:List (Addr×Obj)}(I:Inv X (pins++pl) σ H s):Inv X pins σ H s:=I.pins_of λp hp=>I.pin p (mem_append_right _ (List.mem_append_left _ hp))
theorem kQ{iter:Expr}{body:List Stmt}{wi:TI}{g:TG}{tb:TS}(hp:PassesOwn (model X.prog X.w) X.A X.env X.xe)(hc:X.calm=true)(hi:PI X tg iter wi)(hg:PG X tg g)(hb:PSs X body tb)
  (hs:∀x,foldedSetIterable iter X.env x=pure x:=by intro _;rfl):PS X (.For tg iter body [] pos) (C5 wi g tb):=by
 intro pins s σ H D I h;refine wpAny_For (thn (hi pins s σ H _ I h) λv s1 h1=>thn h1 λitv s2 h2=>?_) hs;obtain⟨it,fp,tn,J,H2,e,I2,T,st2,f2,W,⟨m0,w0⟩,turn⟩:=h2;subst e;have stat:∀{H':Hp},(∀b∈fp,H' b=none)->∀b∈fp,i8 X pins H' b:=λhn b hb=>⟨hn b hb,(f2 b hb).2⟩
 refine codeAny_forLoop_any (λn s'=>∃i σ' H',Inv X pins σ' H' s'/\tn i s'.heap/\(∀b∈fp,H' b=none)/\W i n σ' H') ?_ m0 ⟨0,σ,H2,I2,st2,λb hb=>(f2 b hb).1,w0⟩;rintro n s3 ⟨i,σ3,H3,I3,st3,fr3,w3⟩;rcases turn i n σ3 H3 w3 with⟨stop,qn⟩|⟨go,N,hN,step⟩
 .refine wpAny_passesOwn hp (thn (T.done X rfl rfl rfl hc i pins s3 σ3 H3 X.xe I3 (stat fr3) st3 stop) λr s4 zq=>?_);obtain⟨hr,I4⟩:=zq;subst hr;exact wpAny_execs_nil ⟨σ3,H3,I4,qn⟩
 .refine wpAny_passesOwn hp (thn (T.item X rfl rfl rfl hc i pins s3 σ3 H3 X.xe I3 (stat fr3) st3 go) λr s4 zq=>?_);obtain⟨u,hr,h4⟩:=zq;subst hr;refine wpAny_passesOwn hp (thn h4 λ_ s5 zq=>?_);obtain⟨x,H5,I5,r5,y5,st5,fr5⟩:=zq;have I5':=I5.pinned (stat fr5) (T.obj _ _ st5);refine wpAny_passesOwn hp (thn (hg _ s5 σ3 H5 x u _ I5' r5 (step x H5 y5)) λ_ s6 zq=>?_);obtain⟨σ6,H6,I6,q6⟩:=zq;refine wpAny_passesOwn hp (thn (hb _ s6 σ6 H6 _ I6 q6) λf s7 q7=>?_);have again:∀{σ7:St}{H7:Hp},Inv X (pins++cP fp s5.heap) σ7 H7 s7->N σ7 H7->∃m,m<n/\∃i σ' H',Inv X pins σ' H' s7/\tn i s7.heap/\(∀b∈fp,H' b=none)/\W i m σ' H':=λ{σ7 H7}I7 n7=>by
   obtain⟨m',hm,w7⟩:=hN σ7 H7 n7;refine⟨m',hm,i+1,σ7,H7,I7.unpinned,T.keep _ _ _ st5 λb hb o e=>(I7.pin (b,o) (mem_append_right _ (mem_append_right _ (QE hb e)))).1,λb hb=>?_,w7⟩;obtain⟨o,e,d⟩:=T.obj _ _ st5 b hb;exact(I7.pin (b,o) (mem_append_right _ (mem_append_right _ (QE hb e)))).2.1
  cases f with
  |next=>obtain⟨σ7,H7,I7,n7⟩:=q7;exact again I7 n7
  |cont=>obtain⟨σ7,H7,I7,n7⟩:=q7;exact again I7 n7
  |brk=>obtain⟨σ7,H7,I7,q7⟩:=q7;exact⟨σ7,H7,I7.unpinned,q7⟩
  |ret v=>obtain⟨x7,σ7,H7,I7,r7,q7⟩:=q7;exact⟨x7,σ7,H7,I7.unpinned,r7,q7⟩
end
variable{g:TG}{tb:TS}{D:Z0}
theorem rn{K:PySem.W.Frag}(Pv:Nat->St->Hp->Prop)(h0:Pv 0 σ H)(hl:∀i σ H,i<=xs.length->Pv i σ H->SqL K H a xs)
  (hs:∀i x σ H,xs[i]?=some x->Pv i σ H->g x σ H λσ2 H2=>tb { D with nx:=Pv (i+1),ct:=Pv (i+1),bk:=D.nx } σ2 H2) (hd:∀σ H,Pv xs.length σ H->D.nx σ H):
  ∃W:Nat->Nat->St->Hp->Prop,(∃m,W 0 m σ H)/\∀i m σ H,W i m σ H ->
   ((Itl K a).stop i H/\D.nx σ H)\/((Itl K a).go i H/\∃N:St->Hp->Prop,(∀σ' H',N σ' H'->∃m',m'<m/\W (i+1) m' σ' H')/\∀x H',(Itl K a).yld i H x H'->g x σ H' λσ2 H2=>tb { D with nx:=N,ct:=N,bk:=D.nx } σ2 H2):=by
 refine⟨λi m σ H=>m=xs.length-i/\i<=xs.length/\Pv i σ H,⟨xs.length,by simp,zero_le _,h0⟩,?_⟩;rintro i m σ H ⟨rfl,hi,p⟩;have q:=hl i σ H hi p;by_cases hlt:i<xs.length
 .refine .inr ⟨⟨xs,xs[i],q,by simp[hlt]⟩,Pv (i+1),λσ' H' p'=>⟨xs.length-(i+1),by omega,rfl,hlt,p'⟩,λx H' y=>?_⟩;obtain⟨e,y⟩:=y;subst e;exact hs i x σ _ (y xs q) p
 .have e:i=xs.length:=by omega
  subst e;exact .inl ⟨⟨xs,q,le_refl _⟩,hd σ H p⟩
theorem Ar{K:PySem.W.Frag}(Pv:Nat->St->Hp->Prop)(h0:Pv 0 σ H)(hl:∀i σ H,i<=xs.length->Pv i σ H->SqT K H a xs)
  (hs:∀i x σ H,xs[i]?=some x->Pv i σ H->g x σ H λσ2 H2=>tb { D with nx:=Pv (i+1),ct:=Pv (i+1),bk:=D.nx } σ2 H2) (hd:∀σ H,Pv xs.length σ H->D.nx σ H):
  ∃W:Nat->Nat->St->Hp->Prop,(∃m,W 0 m σ H)/\∀i m σ H,W i m σ H ->
   ((Itt K a).stop i H/\D.nx σ H)\/((Itt K a).go i H/\∃N:St->Hp->Prop,(∀σ' H',N σ' H'->∃m',m'<m/\W (i+1) m' σ' H')/\∀x H',(Itt K a).yld i H x H'->g x σ H' λσ2 H2=>tb { D with nx:=N,ct:=N,bk:=D.nx } σ2 H2):=by
 refine⟨λi m σ H=>m=xs.length-i/\i<=xs.length/\Pv i σ H,⟨xs.length,by simp,zero_le _,h0⟩,?_⟩;rintro i m σ H ⟨rfl,hi,p⟩;have q:=hl i σ H hi p;by_cases hlt:i<xs.length
 .refine .inr ⟨⟨xs,xs[i],q,by simp[hlt]⟩,Pv (i+1),λσ' H' p'=>⟨xs.length-(i+1),by omega,rfl,hlt,p'⟩,λx H' y=>?_⟩;obtain⟨e,y⟩:=y;subst e;exact hs i x σ _ (y xs q) p
 .have e:i=xs.length:=by omega
  subst e;exact .inl ⟨⟨xs,q,le_refl _⟩,hd σ H p⟩
theorem aR{lo:Int}{n:Nat}(Pv:Nat->St->Hp->Prop)(h0:Pv 0 σ H)
  (hs:∀i σ H,i<n->Pv i σ H->g (.int (lo+i)) σ H λσ2 H2=>tb { D with nx:=Pv (i+1),ct:=Pv (i+1),bk:=D.nx } σ2 H2) (hd:∀σ H,Pv n σ H->D.nx σ H):
  ∃W:Nat->Nat->St->Hp->Prop,(∃m,W 0 m σ H)/\∀i m σ H,W i m σ H ->
   ((Itr lo n).stop i H/\D.nx σ H)\/((Itr lo n).go i H/\∃N:St->Hp->Prop,(∀σ' H',N σ' H'->∃m',m'<m/\W (i+1) m' σ' H')/\∀x H',(Itr lo n).yld i H x H'->g x σ H' λσ2 H2=>tb { D with nx:=N,ct:=N,bk:=D.nx } σ2 H2):=by
 refine⟨λi m σ H=>m=n-i/\i<=n/\Pv i σ H,⟨n,by simp,zero_le _,h0⟩,?_⟩;rintro i m σ H ⟨rfl,hi,p⟩;by_cases hlt:i<n
 .refine .inr ⟨hlt,Pv (i+1),λσ' H' p'=>⟨n-(i+1),by omega,rfl,hlt,p'⟩,λx H' y=>?_⟩;obtain⟨e,y⟩:=y;subst e y;exact hs i σ _ hlt p
 .have e:i=n:=by omega
  subst e;exact .inl ⟨le_refl _,hd σ H p⟩
abbrev R2:=V->V->Hp->VK->Prop
def OpR(X:Cx)(f:Value->Value->Sem Value)(r:R2):Prop:=
 ∀(pins:List (Addr×Obj))(s:Shared)(σ:St)(H:Hp)(x y:V)(v u:Value)(Q:VK),Inv X pins σ H s->xX x v->xX y u->r x y H Q ->
  wpAny (model X.prog X.w) X.A (f v u) (EP X pins σ Q) X.xe s
def UnR(X:Cx)(f:Value->Sem Value)(r:V->Hp->VK->Prop):Prop:=
 ∀(pins:List (Addr×Obj))(s:Shared)(σ:St)(H:Hp)(x:V)(v:Value)(Q:VK),Inv X pins σ H s->xX x v->r x H Q ->
  wpAny (model X.prog X.w) X.A (f v) (EP X pins σ Q) X.xe s
def xa(X:Cx)(f:Value)(r:List V->Hp->VK->Prop):Prop:=
 ∀(pins:List (Addr×Obj))(s:Shared)(σ:St)(H:Hp)(xs:List V)(us:List Value)(Q:VK),Inv X pins σ H s->qP xs us->r xs H Q ->
  wpAny (model X.prog X.w) X.A (call f us) (EP X pins σ Q) X.xe s
def tOp(r:R2)(ta tb:TE):TE:=λσ H Q=>ta σ H λx H1=>tb σ H1 λy H2=>r x y H2 Q
def tUn(r:V->Hp->VK->Prop)(ta:TE):TE:=λσ H Q=>ta σ H λx H1=>r x H1 Q
def rI(C:Int->Int->Prop)(g:Int->Int->V):R2:=λx y H Q=>∃i j,x=.int i/\y=.int j/\C i j/\Q (g i j) H
def rI0(g:Int->Int->V):R2:=λx y H Q=>∃i j,x=.int i/\y=.int j/\Q (g i j) H
def rU(g:Int->V):V->Hp->VK->Prop:=λx H Q=>∃i,x=.int i/\Q (g i) H
section
variable{X:Cx}{a b c:Expr}{ta tb tc:TE}{pos:Pos}
variable{f:Value->Value->Sem Value}
theorem GT(ha:PE X a ta)(hb:PE X b tb){R:V->V->Hp->Prop}(I:Inv X pins σ H s)
  (h:ta σ H λx H1=>tb σ H1 λy H2=>R x y H2) {Q:Value->Shared->Prop}
  (hf:∀v u s2 x y H2,Inv X pins σ H2 s2->xX x v->xX y u->R x y H2->wpAny (model X.prog X.w) X.A (f v u) Q X.xe s2):
  wpAny (model X.prog X.w) X.A (eval a X.env) (λv s₁=>wpAny (model X.prog X.w) X.A (eval b X.env) (λu s₂=>wpAny (model X.prog X.w) X.A (f v u) Q X.xe s₂) X.xe s₁) X.xe s:=by
 refine thn (ha pins s σ H _ I h) λv s1 zq=>?_;obtain⟨x,H1,I1,r1,q1⟩:=zq;refine thn (hb pins s1 σ H1 _ I1 q1) λu s2 zq=>?_;obtain⟨y,H2,I2,r2,q2⟩:=zq;exact hf v u s2 x y H2 I2 r1 r2 q2
theorem zU{op:Operator}{r:R2}(ho:OpR X (binaryOp op) r)(ha:PE X a ta)(hb:PE X b tb):PE X (.BinOp a op b pos) (tOp r ta tb):=by
 intro pins s σ H Q I h;exact wpAny_BinOp (GT ha hb I h λv u s2 x y H2 I2 rx ry q=>ho pins s2 σ H2 x y v u Q I2 rx ry q)
theorem Zl{op:UnaryOp}{r:V->Hp->VK->Prop}(ho:UnR X (unaryOp op) r)(ha:PE X a ta):PE X (.UnaryOp op a pos) (tUn r ta):=by
 intro pins s σ H Q I h;exact UnaryOp_ (thn (ha pins s σ H _ I h) λv s1⟨x,H1,I1,r1,q1⟩=>ho pins s1 σ H1 x v Q I1 r1 q1)
theorem opI{C:Int->Int->Prop}{g:Int->Int->Int}
  (rule:∀(i j:Int)(t u:Tok)(s:Shared)(Q:Value->Shared->Prop)(E:Value->Shared->Prop),C i j->Q (.int (g i j) s.toks) { s with toks:=s.toks+1 }->wpAny (model X.prog X.w) X.A (f (.int i t) (.int j u)) Q E s):
  OpR X f (rI C λi j=>.int (g i j)):=by
 intro pins s σ H x y v u Q I rx ry h;obtain⟨i,j,rfl,rfl,hc,q⟩:=h;obtain⟨t,rfl⟩:=rx;obtain⟨t',rfl⟩:=ry;exact rule i j t t' s _ _ hc ⟨.int (g i j),H,I.tok _,⟨_,rfl⟩,q⟩
theorem HM{g:Int->Int->Int}
  (rule:∀(i j:Int)(t u:Tok)(s:Shared)(Q:Value->Shared->Prop)(E:Value->Shared->Prop),Q (.int (g i j) s.toks) { s with toks:=s.toks+1 }->wpAny (model X.prog X.w) X.A (f (.int i t) (.int j u)) Q E s):
  OpR X f (rI0 λi j=>.int (g i j)):=by
 intro pins s σ H x y v u Q I rx ry h;obtain⟨i,j,rfl,rfl,q⟩:=h;obtain⟨t,rfl⟩:=rx;obtain⟨t',rfl⟩:=ry;exact rule i j t t' s _ _ ⟨.int (g i j),H,I.tok _,⟨_,rfl⟩,q⟩
theorem GB{g:Int->Int->Bool}
  (rule:∀(i j:Int)(t u:Tok)(s:Shared)(Q:Value->Shared->Prop)(E:Value->Shared->Prop),Q (.bool (g i j)) s->wpAny (model X.prog X.w) X.A (f (.int i t) (.int j u)) Q E s):
  OpR X f (rI0 λi j=>.bl (g i j)):=by
 intro pins s σ H x y v u Q I rx ry h;obtain⟨i,j,rfl,rfl,q⟩:=h;obtain⟨t,rfl⟩:=rx;obtain⟨t',rfl⟩:=ry;exact rule i j t t' s _ _ ⟨.bl (g i j),H,I,rfl,q⟩
def E3(i j:Int):Prop:=0<=j/\j<=1000000/\i.natAbs<2^64
def Fo(i j:Int):Prop:=(-(2^64)<i/\i<2^64)\/(-(2^64)<j/\j<2^64)
theorem Fo.ok{i j:Int}(h:Fo i j):IntMulOk i j:=by
 rcases h with⟨h1,h2⟩|⟨h1,h2⟩
 .exact .of_left (intBits_le_64 h1 h2)
 .exact .of_right (intBits_le_64 h1 h2)
theorem two_pow_nn(k:Nat):(0:Int)<=2^k:=by
 rw[two_pow_cast];exact Int.natCast_nonneg _
theorem zm:OpR X (binaryOp .Add) (rI0 λi j=>.int (i+j)):=HM λ_ _ _ _ _ _ _ q=>add_int q
theorem jP:OpR X (binaryOp .Sub) (rI0 λi j=>.int (i-j)):=HM λ_ _ _ _ _ _ _ q=>sub_int q
theorem Dy:OpR X (binaryOp .Mod) (rI (λ_ j=>0<j) λi j=>.int (i%j)):=opI λi j _ _ _ _ _ hc q=>by
 have h1:(0:Int)<j:=hc;exact mod_int' (by omega) (by rw[Int.fmod_eq_emod_of_nonneg i (by omega)];exact q)
theorem De:OpR X (binaryOp .Pow) (rI E3 λi j=>.int (i^j.toNat)):=opI λ_ _ _ _ _ _ _ hc q=>pow_int_small hc.1 hc.2.1 hc.2.2 q
theorem FC:OpR X (binaryOp .RShift) (rI (λ_ j=>0<=j) λi j=>.int (i/2^j.toNat)):=opI λi j _ _ _ _ _ hc q=>
 rshift_int hc (by rw[Int.fdiv_eq_ediv_of_nonneg i (two_pow_nn _)];exact q)
theorem unI{f:Value->Sem Value}{g:Int->Int}
  (rule:∀(i:Int)(t:Tok)(s:Shared)(Q:Value->Shared->Prop)(E:Value->Shared->Prop),Q (.int (g i) s.toks) { s with toks:=s.toks+1 }->wpAny (model X.prog X.w) X.A (f (.int i t)) Q E s):
  UnR X f (rU λi=>.int (g i)):=by
 intro pins s σ H x v Q I rx h;obtain⟨i,rfl,q⟩:=h;obtain⟨t,rfl⟩:=rx;exact rule i t s _ _ ⟨.int (g i),H,I.tok _,⟨_,rfl⟩,q⟩
theorem xi:UnR X (unaryOp .USub) (rU λi=>.int (-i)):=unI λ_ _ _ _ _ q=>neg_int q
end
def Hg:V->V->Bool
 |.non,.non=>true|.non,.int _=>true|.int _,.non=>true|.non,.bl _=>true|.bl _,.non=>true|.non,.str _=>true|.str _,.non=>true
 |.int _,.int _=>true|.bl _,.bl _=>true|.str _,.str _=>true|.byt _,.byt _=>true
 |.int _,.str _=>true|.str _,.int _=>true|.bl _,.str _=>true|.str _,.bl _=>true
 |_,_=>false
def rEq:R2:=λx y H Q=>Hg x y=true/\Q (.bl (decide (x=y))) H
def rNe:R2:=λx y H Q=>Hg x y=true/\Q (.bl (!decide (x=y))) H
theorem nN{i j:Int}:decide (V.int i=V.int j)=(i==j):=by
 rw[Bool.eq_iff_iff];simp
theorem uY{i j:Bool}:decide (V.bl i=V.bl j)=(i==j):=by
 rw[Bool.eq_iff_iff];simp
theorem nE{i j:Str}:decide (V.str i=V.str j)=(i==j):=by
 rw[Bool.eq_iff_iff];simp
theorem mS{i j:Array UInt8}:decide (V.byt i=V.byt j)=(i.toList==j.toList):=by
 rw[Bool.eq_iff_iff];cases i;cases j;simp
section
variable{X:Cx}{a b c:Expr}{ta tb tc:TE}{pos:Pos}
theorem qS{Q:VK}{k k':Bool}(I:Inv X pins σ H s)(q:Q (.bl k) H)(e:k=k'):EP X pins σ Q (.bool k') s:=by
 subst e;exact⟨.bl k,H,I,rfl,q⟩
theorem qD:OpR X (compareOp .Eq) rEq:=by
 intro pins s σ H x y v u Q I rx ry h;obtain⟨hs,q⟩:=h;cases x with
 |non=>
  cases rx;cases y with
  |non=>cases ry;exact PySem.EqNone.eq_none_none (qS I q (by simp))
  |bl j=>cases ry;exact PySem.EqNone.eq_none_bool (qS I q (by simp))
  |int j=>obtain⟨t',rfl⟩:=ry;exact PySem.EqNone.eq_none_int (qS I q (by simp))
  |str j=>obtain⟨t',rfl⟩:=ry;exact PySem.EqNone.eq_none_str (qS I q (by simp))
  |_=>exact absurd (show false=true from hs) Bool.false_ne_true
 |bl i=>
  cases rx;cases y with
  |non=>cases ry;exact PySem.EqNone.eq_bool_none (qS I q (by simp))
  |bl j=>cases ry;exact eq_bool (qS I q uY)
  |str j=>obtain⟨t',rfl⟩:=ry;exact PySem.EqMixed.eq_bool_str (qS I q (by simp))
  |_=>exact absurd (show false=true from hs) Bool.false_ne_true
 |int i=>
  obtain⟨t,rfl⟩:=rx;cases y with
  |non=>cases ry;exact PySem.EqNone.eq_int_none (qS I q (by simp))
  |int j=>obtain⟨t',rfl⟩:=ry;exact eq_int (qS I q nN)
  |str j=>obtain⟨t',rfl⟩:=ry;exact PySem.EqMixed.eq_int_str (qS I q (by simp))
  |_=>exact absurd (show false=true from hs) Bool.false_ne_true
 |str i=>
  obtain⟨t,rfl⟩:=rx;cases y with
  |non=>cases ry;exact PySem.EqNone.eq_str_none (qS I q (by simp))
  |bl j=>cases ry;exact PySem.EqMixed.eq_str_bool (qS I q (by simp))
  |int j=>obtain⟨t',rfl⟩:=ry;exact PySem.EqMixed.eq_str_int (qS I q (by simp))
  |str j=>obtain⟨t',rfl⟩:=ry;exact eq_str (qS I q nE)
  |_=>exact absurd (show false=true from hs) Bool.false_ne_true
 |byt i=>
  obtain⟨t,rfl⟩:=rx;cases y with
  |byt j=>obtain⟨t',rfl⟩:=ry;exact W.eq_bytes (qS I q mS)
  |_=>exact absurd (show false=true from hs) Bool.false_ne_true
 |_=>cases y<;>exact absurd (show false=true from hs) Bool.false_ne_true
theorem ZV:OpR X (compareOp .NotEq) rNe:=by
 intro pins s σ H x y v u Q I rx ry h;obtain⟨hs,q⟩:=h;cases x with
 |non=>
  cases rx;cases y with
  |non=>cases ry;exact PySem.EqNone.ne_none_none (qS I q (by simp))
  |bl j=>cases ry;exact PySem.EqNone.ne_none_bool (qS I q (by simp))
  |int j=>obtain⟨t',rfl⟩:=ry;exact PySem.EqNone.ne_none_int (qS I q (by simp))
  |str j=>obtain⟨t',rfl⟩:=ry;exact PySem.EqNone.ne_none_str (qS I q (by simp))
  |_=>exact absurd (show false=true from hs) Bool.false_ne_true
 |bl i=>
  cases rx;cases y with
  |non=>cases ry;exact PySem.EqNone.ne_bool_none (qS I q (by simp))
  |bl j=>cases ry;exact ne_bool (qS I q (congrArg not uY))
  |str j=>obtain⟨t',rfl⟩:=ry;exact PySem.EqMixed.ne_bool_str (qS I q (by simp))
  |_=>exact absurd (show false=true from hs) Bool.false_ne_true
 |int i=>
  obtain⟨t,rfl⟩:=rx;cases y with
  |non=>cases ry;exact PySem.EqNone.ne_int_none (qS I q (by simp))
  |int j=>obtain⟨t',rfl⟩:=ry;exact ne_int (qS I q (congrArg not nN))
  |str j=>obtain⟨t',rfl⟩:=ry;exact PySem.EqMixed.ne_int_str (qS I q (by simp))
  |_=>exact absurd (show false=true from hs) Bool.false_ne_true
 |str i=>
  obtain⟨t,rfl⟩:=rx;cases y with
  |non=>cases ry;exact PySem.EqNone.ne_str_none (qS I q (by simp))
  |bl j=>cases ry;exact PySem.EqMixed.ne_str_bool (qS I q (by simp))
  |int j=>obtain⟨t',rfl⟩:=ry;exact PySem.EqMixed.ne_str_int (qS I q (by simp))
  |str j=>obtain⟨t',rfl⟩:=ry;exact ne_str (qS I q (congrArg not nE))
  |_=>exact absurd (show false=true from hs) Bool.false_ne_true
 |byt i=>
  obtain⟨t,rfl⟩:=rx;cases y with
  |byt j=>obtain⟨t',rfl⟩:=ry;exact W.ne_bytes (qS I q (congrArg not mS))
  |_=>exact absurd (show false=true from hs) Bool.false_ne_true
 |_=>cases y<;>exact absurd (show false=true from hs) Bool.false_ne_true
theorem Vl:OpR X (compareOp .Lt) (rI0 λi j=>.bl (decide (i<j))):=GB λ_ _ _ _ _ _ _ q=>lt_int q
theorem Vf:OpR X (compareOp .LtE) (rI0 λi j=>.bl (decide (i<=j))):=GB λ_ _ _ _ _ _ _ q=>le_int q
theorem kz:OpR X (compareOp .Gt) (rI0 λi j=>.bl (decide (j<i))):=GB λ_ _ _ _ _ _ _ q=>gt_int q
theorem rC:OpR X (compareOp .GtE) (rI0 λi j=>.bl (decide (j<=i))):=GB λ_ _ _ _ _ _ _ q=>ge_int q
theorem nV:OpR X (compareOp .Lt) (λx y H Q=>∃i j,x=.str i/\y=.str j/\Q (.bl (decide (i.cps.toList<j.cps.toList))) H):=by
 intro pins s σ H x y v u Q I rx ry h;obtain⟨i,j,rfl,rfl,q⟩:=h;obtain⟨t,rfl⟩:=rx;obtain⟨t',rfl⟩:=ry;exact lt_str (qS I q rfl)
theorem lq:OpR X (compareOp .In) (λx y H Q=>∃i j,x=.str i/\y=.str j/\Q (.bl (!(Builtin.Str.occurrences j i 0 j.length 1).isEmpty)) H):=by
 intro pins s σ H x y v u Q I rx ry h;obtain⟨i,j,rfl,rfl,q⟩:=h;obtain⟨t,rfl⟩:=rx;obtain⟨t',rfl⟩:=ry;exact in_str (qS I q rfl)
theorem C7:OpR X (compareOp .IsNot) (λx y H Q=>y=.non/\Q (.bl (!decide (x=.non))) H):=by
 intro pins s σ H x y v u Q I rx ry h;obtain⟨rfl,q⟩:=h;cases ry;refine isnot_none_gen (qS I q ?_);cases x<;>first
  |(cases rx;rfl)
  |(obtain⟨t,rfl⟩:=rx;rfl)
variable{op:CmpOp}
theorem Ae(b:Expr)(h:op≠.In:=by decide)(h2:op≠.NotIn:=by decide):behindInMarks op b=false:=by
 have e1:(op==CmpOp.In)=false:=by cases op<;>first|rfl|exact absurd rfl h
 have e2:(op==CmpOp.NotIn)=false:=by cases op<;>first|rfl|exact absurd rfl h2
 cases b<;>simp[behindInMarks,e1,e2]
variable{r:R2}
theorem ki(ho:OpR X (compareOp op) r)(ha:PE X a ta)(hb:PE X b tb)(hm:behindInMarks op b=false):PE X (.Compare a [op] [b] pos) (tOp r ta tb):=by
 intro pins s σ H Q I h;exact wpAny_Compare1 (GT ha hb I h λv u s2 x y H2 I2 rx ry q=>ho pins s2 σ H2 x y v u Q I2 rx ry q) hm
def dy(t:TE):TT:=λσ H Q=>t σ H λx H'=>∃k,x=.bl k/\Q k H'
theorem Jr(ho:OpR X (compareOp op) r)(ha:PE X a ta)(hb:PE X b tb)(hm:behindInMarks op b=false):PT X (.Compare a [op] [b] pos) (dy (tOp r ta tb)):=by
 intro pins s σ H Q I h;refine wpAny_isTrue_Compare1 (thn (ha pins s σ H _ I h) λv s1⟨x,H1,I1,r1,q1⟩=>thn (hb pins s1 σ H1 _ I1 q1) λu s2⟨y,H2,I2,r2,q2⟩=>
  thn (ho pins s2 σ H2 x y v u _ I2 r1 r2 q2) λc s3⟨z,H3,I3,r3,k,e,q3⟩=>?_) hm
 subst e;cases r3;exact wpAny_truthy_bool ⟨H3,I3,q3⟩
def pJ(r r':R2)(ta tb tc:TE):TE:=λσ H Q=>ta σ H λx H1=>tb σ H1 λy H2=>r x y H2 λz H3=>∃k,z=.bl k /\
 (if k=true then tc σ H3 λw' H4=>r' y w' H4 Q else Q (.bl false) H3)
theorem gH{op':CmpOp}{r':R2}(ho:OpR X (compareOp op) r)(ho':OpR X (compareOp op') r')(ha:PE X a ta)(hb:PE X b tb)(hc:PE X c tc)
  (hm:lastMarks [op,op'] [b,c]=false:=by with_unfolding_all rfl):PE X (.Compare a [op,op'] [b,c] pos) (pJ r r' ta tb tc):=by
 intro pins s σ H Q I h;refine Compare_chain (thn (ha pins s σ H _ I h) λv s1⟨x,H1,I1,r1,q1⟩=>chain_link (thn (hb pins s1 σ H1 _ I1 q1) λu s2⟨y,H2,I2,r2,q2⟩=>
  thn (ho pins s2 σ H2 x y v u _ I2 r1 r2 q2) λd s3⟨z,H3,I3,r3,k,e,q3⟩=>?_)) hm
 subst e;cases r3;refine wpAny_truthy_bool ?_;cases k with
 |false=>exact ite_ff ⟨.bl false,H3,I3,rfl,q3⟩
 |true=>exact ite_tt (chain_last (thn (hc pins s3 σ H3 _ I3 q3) λw' s4⟨z',H4,I4,r4,q4⟩=>ho' pins s4 σ H4 y z' u w' Q I4 r2 r4 q4))
theorem K3{op':CmpOp}{r':R2}(ho:OpR X (compareOp op) r)(ho':OpR X (compareOp op') r')(ha:PE X a ta)(hb:PE X b tb)(hc:PE X c tc)
  (hm:lastMarks [op,op'] [b,c]=false:=by with_unfolding_all rfl):PT X (.Compare a [op,op'] [b,c] pos) (dy (pJ r r' ta tb tc)):=by
 intro pins s σ H Q I h;refine isTrue_chain (thn (ha pins s σ H _ I h) λv s1⟨x,H1,I1,r1,q1⟩=>test_link (thn (hb pins s1 σ H1 _ I1 q1) λu s2⟨y,H2,I2,r2,q2⟩=>
  thn (ho pins s2 σ H2 x y v u _ I2 r1 r2 q2) λd s3⟨z,H3,I3,r3,k,e,q3⟩=>?_)) hm
 subst e;cases r3;refine wpAny_truthy_bool ?_;cases k with
 |false=>
  obtain⟨k',e',q'⟩:=q3;cases e';exact ite_ff ⟨H3,I3,q'⟩
 |true=>
  refine ite_tt (test_last (thn (hc pins s3 σ H3 _ I3 q3) λw' s4⟨z',H4,I4,r4,q4⟩=>thn (ho' pins s4 σ H4 y z' u w' _ I4 r2 r4 q4) λd' s5 zq=>?_));obtain⟨z2,H5,I5,r5,k2,e2,q5⟩:=zq;subst e2;cases r5;exact wpAny_truthy_bool ⟨H5,I5,q5⟩
theorem Y4:(sizeLine:Nat)<2^63:=by rw[sizeLine_eq];decide
theorem iT:OpR X (binaryOp .Add) (λx y H Q=>∃i j,x=.str i/\y=.str j/\i.length+j.length<=sizeLine/\Q (.str (i++j)) H):=by
 intro pins s σ H x y v u Q I rx ry h;obtain⟨i,j,rfl,rfl,hz,q⟩:=h;obtain⟨t,rfl⟩:=rx;obtain⟨t',rfl⟩:=ry;exact add_str (λt' tk=>⟨.str (i++j),H,I.tok _,⟨_,rfl⟩,q⟩) hz
theorem YK(r:qP [x] us):∃u,us=[u]/\xX x u:=by
 cases r with
 |cons r1 r2=>cases r2;exact⟨_,rfl,r1⟩
theorem nz(r:qP [x,y] us):∃u w',us=[u,w']/\xX x u/\xX y w':=by
 cases r with
 |cons r1 r2=>
  cases r2 with
  |cons r3 r4=>cases r4;exact⟨_,_,rfl,r1,r3⟩
theorem rF:xa X (.builtin "abs") (λxs H Q=>∃i,xs=[.int i]/\Q (.int (if i<0 then -i else i)) H):=by
 intro pins s σ H xs us Q I r h;obtain⟨i,rfl,q⟩:=h;obtain⟨u,rfl,t,rfl⟩:=YK r;exact call_abs_int λu tk=>⟨.int (if i<0 then -i else i),H,I.tok _,⟨_,rfl⟩,q⟩
theorem mF(hc:X.calm=true):xa X (.builtin "max") (λxs H Q=>∃i j,xs=[.int i,.int j]/\Q (.int (if j>i then j else i)) H):=by
 intro pins s σ H xs us Q I r h;obtain⟨i,j,rfl,q⟩:=h;obtain⟨u,w',rfl,⟨t,rfl⟩,⟨t',rfl⟩⟩:=nz r;refine max_two_ints (I.ok.hd hc) λh' tk k=>⟨_,H,I.kept k,?_,q⟩
 by_cases hj:j>i
 .rw[if_pos hj,if_pos hj];exact⟨_,rfl⟩
 .rw[if_neg hj,if_neg hj];exact⟨_,rfl⟩
theorem mC(hc:X.calm=true):xa X (.builtin "min") (λxs H Q=>∃i j,xs=[.int i,.int j]/\Q (.int (if j<i then j else i)) H):=by
 intro pins s σ H xs us Q I r h;obtain⟨i,j,rfl,q⟩:=h;obtain⟨u,w',rfl,⟨t,rfl⟩,⟨t',rfl⟩⟩:=nz r;refine min_two_ints (I.ok.hd hc) λh' tk k=>⟨_,H,I.kept k,?_,q⟩
 by_cases hj:j<i
 .rw[if_pos hj,if_pos hj];exact⟨_,rfl⟩
 .rw[if_neg hj,if_neg hj];exact⟨_,rfl⟩
theorem nP:xa X (.type "int") (λxs H Q=>(∃i,xs=[.int i]/\Q (.int i) H)\/∃k,xs=[.bl k]/\Q (.int (if k then 1 else 0)) H):=by
 intro pins s σ H xs us Q I r h;rcases h with⟨i,rfl,q⟩|⟨k,rfl,q⟩
 .obtain⟨u,rfl,t,rfl⟩:=YK r;exact call_int_int ⟨.int i,H,I,⟨_,rfl⟩,q⟩
 .obtain⟨u,rfl,r1⟩:=YK r;cases r1;exact call_int_bool ⟨.int (if k then 1 else 0),H,I.tok _,⟨_,rfl⟩,q⟩
theorem Wy:xa X (.type "str") (λxs H Q=>∃i,xs=[.int i]/\i.natAbs.log2<1920/\Q (.str (toString i)) H):=by
 intro pins s σ H xs us Q I r h;obtain⟨i,rfl,hz,q⟩:=h;obtain⟨u,rfl,t,rfl⟩:=YK r;exact PySem.P.str_of_int hz ⟨.str _,H,I.tok _,⟨_,rfl⟩,q⟩
end
structure Av(h:Heap)(x dx C:Addr)(mA:Str->Option Value):Prop where
 obj:h.get? x=some (W.instObj C dx)
 ns:h.Ns1 dx mA
 ne:dx≠x
theorem nH{dx:Addr}{mA:Str->Option Value}(n:h.Ns1 dx mA):∃od,h.get? dx=some od/\∀name,W.lookIn name od=some (mA name):=by
 obtain⟨o,es,ep,ho,hd,hk,_,hm⟩:=n;refine⟨o,ho,λname=>?_⟩;have e:=hm name;unfold nsFind findBy at e;rw[<- Array.find?_toList]at e;unfold W.lookIn;rw[hd];dsimp only;split
 .rename_i y q;rw[q]at e;exact congrArg some e
 .rename_i q;rw[q]at e;have a:es.toList.any (·.refKey)=false:=by
   rw[List.any_eq_false];intro y hy;obtain⟨z,t,hkey⟩:=hk y (Array.mem_toList_iff.mp hy);simp[DictEntry.refKey,hkey]
  have a':¬es.toList.any (·.refKey)=true:=by rw[a];exact Bool.false_ne_true
  rw[if_neg a'];exact congrArg some e
variable{C:Addr}
theorem Av.look{x dx:Addr}{mA:Str->Option Value}(I:Av h x dx C mA):∃od,W.InstAt h x (W.instObj C dx) C (some od)/\∀name,W.lookIn name od=some (mA name):=
 let⟨od,ho,hl⟩:=nH I.ns
 ⟨od,⟨I.obj,rfl,rfl,ho⟩,hl⟩
section
variable{prog:Program}{w:World}{A:Around}{E:Value ->Shared ->Prop}{s:Shared}{K:W.Frag}{x dx C f:Addr}{mA:Str ->Option Value}{name:Str}{v:Value}
theorem Ax{expr:Bool}{Q:Value->Shared->Prop}(X:K.In s.heap)(I:Av s.heap x dx C mA)(hg:W.plainGet K C name=true)(hh:W.hasDictIn K C=true)
  (ha:W.findIn K (.ref C) name=some none) (hv:mA name=some v) (hv':W.handedIn v=true) (h:Q v { s with toks:=s.toks+1 }):
  wpAny (model prog w) A (getAttr (.ref x) name expr) Q E s:=by
 obtain⟨od,J,hl⟩:=I.look;exact W.get_value X J (W.plainGet_of hg).1 (W.findObj_own hh ha rfl (by rw[hl,hv])) hv' h
theorem sk{pl:Sem Bool}{Q:Value×List Value->Shared->Prop}(X:K.In s.heap)(I:Av s.heap x dx C mA)(hg:W.plainGet K C name=true)
  (hf:W.findIn K (.ref C) name=some (some (.ref f))) (ht:W.isFn K (.ref f)=true) (hv:mA name=none) (h:Q (.ref f,[.ref x]) s):
  wpAny (model prog w) A (getMethod (.ref x) name pl) Q E s:=by
 obtain⟨od,J,hl⟩:=I.look;exact W.method_fn X J (W.plainGet_of hg).1 (W.plainGet_of hg).2 hf (beq_iff_eq.mp ht) (by show(W.lookIn name od).map (·.isSome)=some false;rw[hl,hv];rfl) h
theorem BH{ns:List Str}(X:K.In s.heap)(I:Av s.heap x dx C mA)
  (hs:W.findIn K (.ref C) "__setattr__"=some (some (.builtin "object.__setattr__"))) (hp:W.plainOver K C=true) (ht:W.takerIn K C name=some none) (hh:W.hasDictIn K C=true)
  (hw:PySem.Within mA ns) (hsz:ns.length<=sizeLine)
  (h:∀h',Av h' x dx C (λy=>if y=name then some v else mA y)->Heap.SameBut dx s.heap h'->Q () { s with heap:=h',toks:=s.toks+2 }):
  wpAny (model prog w) A (setAttr (.ref x) name v) Q E s:=by
 obtain⟨od,J,hl⟩:=I.look;refine W.set_plain X J hs (W.osa_open (s:={ s with toks:=s.toks+1 }) (r:=none) X J hp ht λb=>?_);obtain⟨cd,hc,hd'⟩:=W.any_some hh;have hx:s.heap.get? x=some ⟨.ref C,some dx,.plain,#[]⟩:=I.obj;refine wpAny_bind (wpAny_pure (wpAny_bind (wpAny_bind (wpAny_loadPart hx (wpAny_bind (W.Looks.here (s:={ s with toks:=s.toks+1 }) (W.looks_clsIn X hc) ?_))))));rw[hd'];refine wpAny_pure (a:=some dx) (wpAny_bind (wpAny_pure (wpAny_bind ?_)));refine wpAny_nsSet1 (s:={ s with toks:=s.toks+1 }) I.ns λh' hn2 hs2=>?_;obtain⟨oD,esD,epD,hoD,hdD,hcD⟩:=hn2.count (PySem.Within.cons name v hw);refine wpAny_bind (wpAny_lookBehind hoD (by rw[hdD];exact pastItsLine_dict (le_trans hcD (by rw[length_cons];omega))) ?_);exact wpAny_pure (h _ ⟨(hs2.2 _ (Ne.symm I.ne)).trans I.obj,hn2,I.ne⟩ hs2)
theorem rG {R:Result->Shared->Prop} {vs:List Value} {kw:List (Str × Value)} (X:K.In s.heap) (hm:W.makesIn K C=true)
  (hi:W.findIn K (.ref C) "__init__" = some (some (.ref f))) (hf:W.typeIn K (.ref f)=some (.type "function"))
  (h:codeAny (model prog w) (A.under (.builtin "type.__call__" ⟨.ref C::vs,kw⟩)) (.call (.ref f) ⟨.ref (s.heap.objs.size+1)::vs,kw⟩) (W.InitBack (s.heap.objs.size+1) R)
   { s with heap:=(s.heap.push W.emptyDict).push (W.instObj C s.heap.objs.size) }) :
  codeAny (model prog w) A (.call (.ref C) ⟨vs,kw⟩) R s:=by
 obtain ⟨hh,g,d,t,os⟩:=s
 exact W.make_core (W.makes_of X hm) (W.looks_findIn X hi) (fun self=>W.bind_fn X self hf) (.inl rfl) h
end
def JZ(f:Str)(v:V):List (Str×V)->List (Str×V)
 |[]=>[(f,v)]
 |(g,x)::r=>if g=f then(g,v)::r else(g,x)::JZ f v r
theorem Yo(f g:Str)(v:V):∀fs:List (Str×V),(JZ f v fs).lookup g=if g=f then some v else fs.lookup g
 |[]=>by
  show List.lookup g [(f,v)]=_;by_cases h:g=f
  .have hb:(g==f)=true:=beq_iff_eq.mpr h;simp only[List.lookup,hb,if_pos h]
  .have hb:(g==f)=false:=beq_eq_false_iff_ne.mpr h;simp only[List.lookup,hb,if_neg h]
 |(k,x)::r=>by
  have ih:=Yo f g v r;rw[show JZ f v ((k,x)::r)=(if k=f then(k,v)::r else(k,x)::JZ f v r)from rfl];by_cases hk:k=f
  .rw[if_pos hk];by_cases h:g=k
   .have hb:(g==k)=true:=beq_iff_eq.mpr h;simp only[List.lookup,hb,if_pos (h.trans hk)]
   .have hb:(g==k)=false:=beq_eq_false_iff_ne.mpr h;simp only[List.lookup,hb,if_neg (λe:g=f=>h (e.trans hk.symm))]
  .rw[if_neg hk];by_cases h:g=k
   .have hb:(g==k)=true:=beq_iff_eq.mpr h;simp only[List.lookup,hb,if_neg (λe:g=f=>hk (h.symm.trans e))]
   .have hb:(g==k)=false:=beq_eq_false_iff_ne.mpr h;simp only[List.lookup,hb];exact ih
theorem Yg(f:Str)(v:V):∀fs:List (Str×V),f∈(JZ f v fs).map (·.1)/\∀g,g∈fs.map (·.1)->g∈(JZ f v fs).map (·.1)
 |[]=>⟨by simp[JZ],λg h=>by simp at h⟩
 |(k,x)::r=>by
  obtain⟨i1,i2⟩:=Yg f v r;rw[show JZ f v ((k,x)::r)=(if k=f then(k,v)::r else(k,x)::JZ f v r)from rfl];by_cases hk:k=f
  .rw[if_pos hk];subst hk;exact⟨by simp,λg h=>by simpa using h⟩
  .rw[if_neg hk];refine⟨?_,λg h=>?_⟩
   .rw[List.map_cons];exact mem_cons_of_mem _ i1
   .rw[List.map_cons]at h ⊢;rcases List.mem_cons.mp h with e|e
    .exact List.mem_cons.mpr (.inl e)
    .exact mem_cons_of_mem _ (i2 g e)
theorem VV(f:Str)(v:V):∀fs:List (Str×V),(JZ f v fs).length<=fs.length+1
 |[]=>by simp[JZ]
 |(k,x)::r=>by
  have ih:=VV f v r;rw[show JZ f v ((k,x)::r)=(if k=f then(k,v)::r else(k,x)::JZ f v r)from rfl];by_cases hk:k=f
  .rw[if_pos hk,length_cons,length_cons];omega
  .rw[if_neg hk,length_cons,length_cons];omega
theorem pN.some_of{v:V}{o:Option Value}(r:pN (some v) o):∃u,o=some u/\xX v u:=by
 cases o with
 |none=>exact(show False from r).elim
 |some u=>exact⟨u,rfl,r⟩
theorem pN.none_of{o:Option Value}(r:pN none o):o=none:=by
 cases o with
 |none=>rfl
 |some u=>exact(show False from r).elim
theorem om{v:V}{u:Value}(r:xX v u):W.handedIn u=true:=by
 cases v with
 |non=>cases (show u=Value.none from r);rfl
 |bl b=>cases (show u=Value.bool b from r);rfl
 |int i=>obtain⟨t,e⟩:=(show ∃t,u=Value.int i t from r);cases e;rfl
 |str x=>obtain⟨t,e⟩:=(show ∃t,u=Value.str x t from r);cases e;rfl
 |byt b=>obtain⟨t,e⟩:=(show ∃t,u=Value.bytes b t from r);cases e;rfl
 |flt b=>obtain⟨t,e⟩:=(show ∃t,u=Value.float b t from r);cases e;rfl
 |ref a=>cases (show u=Value.ref a from r);rfl
 |ty n=>cases (show u=Value.type n from r);rfl
section
variable{P:Program}{w:World}{H H':Hp}{h h':Heap}{a C dx:Addr}{fs fs':List (Str×V)}
theorem WM(hok:HOk P w H h)(e:H a=some (.ins C dx fs)):∃mA,Av h a dx C mA/\(∀f,pN (fs.lookup f) (mA f))/\PySem.Within mA (fs.map (·.1))/\fs.length<=1000/\H dx=some (.own a):=by
 obtain⟨d,z,ne,ob,mA,n,r,q⟩:=(show x0 P w H h a (.ins C dx fs)from hok a _ e)
 exact⟨mA,⟨ob,n,ne⟩,r,q,z,d⟩
end
structure Cls(K:W.Frag)(C:Addr):Prop where
 pg:W.plainGet K C Str.empty=true
 hd:W.hasDictIn K C=true
 po:W.plainOver K C=true
 sa:W.findIn K (.ref C) "__setattr__"=some (some (.builtin "object.__setattr__"))
theorem Cls.get(c:Cls K C)(f:Str):W.plainGet K C f=true:=c.pg
def ZK(K:W.Frag)(C:Addr)(f:Str):Prop:=W.findIn K (.ref C) f=some none
theorem ZK.taker{f:Str}(n:ZK K C f):W.takerIn K C f=some none:=by
 unfold W.takerIn;rw[show W.findIn K (.ref C) f=some none from n];rfl
structure GA(K:W.Frag)(C:Addr)(m:Str)(f:Addr):Prop where
 at_:W.findIn K (.ref C) m=some (some (.ref f))
 fn:W.isFn K (.ref f)=true
 kp:W.keepIn K (.ref f)=true
section
variable{X:Cx}{pins:List (Addr×Obj)}{σ:St}{H:Hp}{s:Shared}{a C dx:Addr}{fs:List (Str×V)}{f:Str}{v:V}{A:Around}{E:Value ->Shared ->Prop}
theorem gu{b:Bool}{Q:Value->Shared->Prop}(I:Inv X pins σ H s)(e:H a=some (.ins C dx fs))(c:Cls X.K C)(n:ZK X.K C f)(l:fs.lookup f=some v)
  (h:∀u s',Inv X pins σ H s'->xX v u->Q u s'):wpAny (model X.prog X.w) A (getAttr (.ref a) f b) Q E s:=by
 obtain⟨mA,O,r,_,_,_⟩:=WM I.hok e;obtain⟨u,hu,ru⟩:=pN.some_of (v:=v) (o:=mA f) (by rw[<- l];exact r f);exact Ax I.kIn O (c.get f) c.hd n hu (om ru) (h u _ (I.tok _) ru)
theorem J7{m:Str}{g:Addr}{pl:Sem Bool}{Q:Value×List Value->Shared->Prop}(I:Inv X pins σ H s)(e:H a=some (.ins C dx fs))(c:Cls X.K C)(k:GA X.K C m g)(l:fs.lookup m=none)
  (h:Q (.ref g,[.ref a]) s):wpAny (model X.prog X.w) A (getMethod (.ref a) m pl) Q E s:=by
 obtain⟨mA,O,r,_,_,_⟩:=WM I.hok e;have hn:mA m=none:=pN.none_of (by rw[<- l];exact r m);exact sk I.kIn O (c.get m) k.at_ k.fn hn h
theorem iY{u:Value}(I:Inv X pins σ H s)(e:H a=some (.ins C dx fs))(c:Cls X.K C)(n:ZK X.K C f)(hl:fs.length<1000)(ry:xX y u)
  (h:∀s',Inv X pins σ (upd H a (.ins C dx (JZ f y fs))) s'->Q () s'):wpAny (model X.prog X.w) A (setAttr (.ref a) f u) Q E s:=by
 obtain⟨mA,O,r,wi,_,ho⟩:=WM I.hok e;have hz:(fs.map (·.1)).length<=sizeLine:=by rw[List.length_map,sizeLine_eq];omega
 refine BH I.kIn O c.sa c.po n.taker c.hd wi hz λh' O' sb=>h _ ?_;have hd:∃o,h'.get? dx=some o:=let⟨o,_,_,e',_⟩:=O'.ns;⟨o,e'⟩;refine I.write (x:=a) (e:=dx) (by rw[e];exact True.intro) (.inr ho) (λb q hb z=>(sb.2 b hb).trans z) hd ?_;refine⟨by rw[zu O.ne];exact ho,?_,O.ne,O'.obj,_,O'.ns,λg=>?_,λg hg=>?_⟩
 .have:=VV f y fs;omega
 .show pN ((JZ f y fs).lookup g) (if g=f then some u else mA g);rw[Yo];by_cases q:g=f
  .rw[if_pos q,if_pos q];exact ry
  .rw[if_neg q,if_neg q];exact r g
 .by_cases q:g=f
  .rw[q];exact(Yg f y fs).1
  .refine(Yg f y fs).2 g (wi g λz=>hg ?_);show(if g=f then some u else mA g)=none;rw[if_neg q];exact z
theorem Inv.made(I:Inv X pins σ H s):Inv X pins σ (upd (upd H s.heap.objs.size (.own (s.heap.objs.size+1))) (s.heap.objs.size+1) (.ins C s.heap.objs.size []))
  { s with heap:=(s.heap.push W.emptyDict).push (W.instObj C s.heap.objs.size) }:=by
 have e1:(s.heap.push W.emptyDict).get? s.heap.objs.size=some W.emptyDict:=Heap.get?_push_size s.heap rfl;have e2:((s.heap.push W.emptyDict).push (W.instObj C s.heap.objs.size)).get? (s.heap.objs.size+1)=some (W.instObj C s.heap.objs.size):=by
  have:=Heap.get?_push_size (s.heap.push W.emptyDict) (o:=W.instObj C s.heap.objs.size) rfl
  rwa [Heap.size_push]at this
 have e3:(s.heap.push W.emptyDict).Ns s.heap.objs.size (λ_=>none):=⟨W.emptyDict,#[],_,e1,rfl,(λe he=>absurd he (by simp)),λ_=>rfl⟩
 have I1:=I.laid (a:=s.heap.objs.size) (o:=.own (s.heap.objs.size+1)) (h':=s.heap.push W.emptyDict) (t':=s.toks) (λb u q=>Heap.get?_push_of_some _ q) (le_refl _) ⟨_,e1⟩;refine I1.laid (a:=s.heap.objs.size+1) (o:=.ins C s.heap.objs.size []) (t':=s.toks) (λb u q=>Heap.get?_push_of_some _ q) (Nat.le_of_eq (Heap.size_push _ _)) ?_;have ne:s.heap.objs.size≠s.heap.objs.size+1:=ne_of_lt (Nat.lt_succ_self _);refine⟨by rw[zu ne,zO],zero_le _,ne,e2,λ_=>none,(Heap.Ns1.of_empty e3).at λo q=>Heap.get?_push_of_some _ q,λ_=>True.intro,λy hy=>absurd rfl hy⟩
theorem Az{prog:Program}{env:Env}{e:Expr}{pos:Pos}{Q:Value->Shared->Prop}(hb:attributeBase e f env (eval e env)=eval e env)
  (h:wpAny (model prog w) A (eval e env) (λo s₁=>wpAny (model prog w) A (getAttr o f true) Q E s₁) E s):wpAny (model prog w) A (eval (.Attribute e f pos) env) Q E s:=
 Attribute_any_ h (by rw[arm_eval_Attribute,hb])
end
def DG(K:W.Frag)(ta:TE)(f:Str):TE:=λσ H Q=>ta σ H λx H1=>∃a C dx fs v,x=.ref a/\H1 a=some (.ins C dx fs)/\Cls K C/\ZK K C f/\fs.lookup f=some v/\Q v H1
def Ha(K:W.Frag)(ta tv:TE)(f:Str):TS:=λD σ H=>tv σ H λy H1=>ta σ H1 λx H2=>∃a C dx fs,x=.ref a/\H2 a=some (.ins C dx fs)/\Cls K C/\ZK K C f/\fs.length<1000 /\
 D.nx σ (upd H2 a (.ins C dx (JZ f y fs)))
section
variable{X:Cx}{o e value:Expr}{f:Str}{pos pos' tpos:Pos}{ta tv:TE}
theorem FK(he:PE X e ta)(hb:attributeBase e f X.env (eval e X.env)=eval e X.env):PE X (.Attribute e f pos) (DG X.K ta f):=by
 intro pins s σ H Q I h;refine Az hb (thn (he pins s σ H _ I h) λu s1 zq=>?_);obtain⟨x,H1,I1,rx,a,C,dx,fs,v,ex,ea,c,n,l,q⟩:=zq;subst ex;obtain rfl:u=Value.ref a:=rx;exact gu I1 ea c n l λu' s2 I2 ru=>⟨v,H1,I2,ru,q⟩
theorem jq(ha:PE X o ta)(hv:PE X value tv)(hs:swapsWith value (some (.Attribute o f pos')) pos.line X.env=pure false):PS X (.Assign [.Attribute o f pos'] value pos) (Ha X.K ta tv f):=by
 intro pins s σ H D I h;refine plainObj_wpAny_Assign_Attribute (thn (hv pins s σ H _ I h) λu s1⟨y,H1,I1,ry,q⟩=>thn (ha pins s1 σ H1 _ I1 q) λov s2 zq=>?_) hs;obtain⟨x,H2,I2,rx,a,C,dx,fs,ex,ea,c,n,l,q2⟩:=zq;subst ex;obtain rfl:ov=Value.ref a:=rx;exact iY I2 ea c n l ry λs3 I3=>⟨σ,_,I3,q2⟩
end
section
variable{X:Cx}{pins:List (Addr×Obj)}{σ:St}{H:Hp}{s:Shared}{A:Around}{E:Value ->Shared ->Prop}{Q:Value ->Shared ->Prop}{c:Value}{b:Bool}
inductive fJ(K:W.Frag)(H:Hp):V->Value->Prop where
 |non:fJ K H .non (.type "NoneType")
 |bl (x:Bool):fJ K H (.bl x) (.type "bool")
 |int (i:Int):fJ K H (.int i) (.type "int")
 |str (x:Str):fJ K H (.str x) (.type "str")
 |flt (x:UInt64):fJ K H (.flt x) (.type "float")
 |lst {a:Addr} {xs:List V} (e:H a=some (.lst xs)):fJ K H (.ref a) (.type "list")
 |frz {a:Addr} {o:Obj} {xs:List V} (e:H a=some (.frz o (.lst xs))):fJ K H (.ref a) (.type "list")
 |tup {a:Addr} {xs:List V} (e:H a=some (.tup xs)):fJ K H (.ref a) (.type "tuple")
 |dK {a:Addr} {kvs:List (Key×V)} (e:H a=some (.dK kvs)):fJ K H (.ref a) (.type "dict")
 |dT {a:Addr} {kvs:List (List Key×V)} (e:H a=some (.dT kvs)):fJ K H (.ref a) (.type "dict")
 |ins {a C dx:Addr} {fs:List (Str×V)} (e:H a=some (.ins C dx fs)) (cl:Cls K C) (ha:W.findIn K (.ref C) "__class__"=some (some (.builtin "object.__class__")))
   (hn:W.specialIn K (.builtin "object.__class__") "__get__"=some (some (.builtin "getset_descriptor.__get__"))) (htk:W.takesIn K (.builtin "object.__class__")=some true)
   (hm:W.mroIn K C (.type "object")=some true):fJ K H (.ref a) (.ref C)
theorem lH{u t:Value}(I:Inv X pins σ H s)(rx:xX x u)(ty:fJ X.K H x t)(e:W.kitOne X.K t c=some b)(h:∀tk,Q (.bool b) { s with toks:=tk }):
  wpAny (model X.prog X.w) A (call (.builtin "isinstance") [u,c]) Q E s:=by
 cases ty with
 |non=>cases (show u=Value.none from rx);exact W.kia_one W.kitx_none I.kIn True.intro e (λz=>nomatch z) h
 |bl y=>cases (show u=Value.bool y from rx);exact W.kia_one W.kitx_bool I.kIn True.intro e (λz=>nomatch z) h
 |int i=>obtain⟨t,q⟩:=(show ∃t,u=Value.int i t from rx);cases q;exact W.kia_one W.kitx_int I.kIn True.intro e (λz=>nomatch z) h
 |str y=>obtain⟨t,q⟩:=(show ∃t,u=Value.str y t from rx);cases q;exact W.kia_one W.kitx_str I.kIn True.intro e (λz=>nomatch z) h
 |flt y=>obtain⟨t,q⟩:=(show ∃t,u=Value.float y t from rx);cases q;exact W.kia_one W.kitx_float I.kIn True.intro e (λz=>nomatch z) h
 |@lst a xs ea=>
  cases (show u=Value.ref a from rx);obtain⟨_,_,n,_,h1⟩:=(show x0 X.prog X.w H s.heap a (.lst xs)from I.hok a _ ea)
  exact W.kia_one W.kitx_list I.kIn ⟨_,h1,rfl⟩ e (λz=>nomatch z) h
 |@frz a ob xs ea=>
  cases (show u=Value.ref a from rx);obtain⟨_,_,_,n,_,h1⟩:=(show x0 X.prog X.w H s.heap a (.frz ob (.lst xs))from I.hok a _ ea)
  exact W.kia_one W.kitx_list I.kIn ⟨_,h1,rfl⟩ e (λz=>nomatch z) h
 |@tup a xs ea=>
  cases (show u=Value.ref a from rx);obtain⟨_,_,_,p⟩:=(show x0 X.prog X.w H s.heap a (.tup xs)from I.hok a _ ea)
  obtain⟨o,h1,h2,_⟩:=p;exact W.kia_one W.kitx_tuple I.kIn ⟨o,h1,h2⟩ e (λz=>nomatch z) h
 |@dK a kvs ea=>
  cases (show u=Value.ref a from rx);obtain⟨_,_,vs,_,p⟩:=(show x0 X.prog X.w H s.heap a (.dK kvs)from I.hok a _ ea)
  obtain⟨o,es,ep,h1,h2,_⟩:=p;exact W.kia_one W.kitx_dict I.kIn ⟨o,h1,h2.1⟩ e (λz=>nomatch z) h
 |@dT a kvs ea=>
  cases (show u=Value.ref a from rx);obtain⟨_,_,xs,_,o,es,ep,h1,h2,_⟩:=(show x0 X.prog X.w H s.heap a (.dT kvs)from I.hok a _ ea)
  exact W.kia_one W.kitx_dict I.kIn ⟨o,h1,h2.1⟩ e (λz=>nomatch z) h
 |@ins a C dx fs ea cl ha hn htk hm=>
  cases (show u=Value.ref a from rx);obtain⟨mA,O,_⟩:=WM I.hok ea;obtain⟨od,J,_⟩:=O.look;exact W.kia_one (W.kitx_own (cl.get _) cl.hd ha hn htk hm) I.kIn J e (λz=>nomatch z) h
end
structure xP(k:Nat)(A:Around):Prop where
 hd:A.handled=none
 dp:A.depth+3*k+5<recursionLimit
 un:A.units+16*k+200<cLine
variable{k:Nat}
theorem xP.mono{j:Nat}(r:xP k A)(h:j<=k):xP j A:=⟨r.hd,by have:=r.dp;omega,by have:=r.un;omega⟩
theorem xP.deeper(r:xP (k+1) A)(env:Env):xP k (A.deeper env):=
 ⟨r.hd,by have:=r.dp;show A.depth+1+3*k+5<_;omega,by have:=r.un;show A.units+3+16*k+200<_;omega⟩
theorem xP.in1(r:xP (k+1) A):xP k A.in1:=
 ⟨r.hd,by have:=r.dp;show A.depth+3*k+5<_;omega,by have:=r.un;show A.units+1+16*k+200<_;omega⟩
theorem hJ{kw:List (Str×Value)}:(A.under (.builtin "type.__call__" ⟨.ref C::us,kw⟩)).depth=A.depth+1:=by
 first|rfl|simp[Around.under,Code.weight,Code.isCreation,Code.isGuard,Code.isCaller,Code.frames,Code.isFrame,guardIds]
theorem iJ{kw:List (Str×Value)}:(A.under (.builtin "type.__call__" ⟨.ref C::us,kw⟩)).units=A.units+1:=by
 first|rfl|simp[Around.under,Code.cUnits,Code.frames,Code.isFrame]
theorem xP.make(r:xP (k+1) A)(C:Addr)(us:List Value)(kw:List (Str×Value)):xP k (A.under (.builtin "type.__call__" ⟨.ref C::us,kw⟩)):=
 ⟨r.hd,by have:=r.dp;rw[hJ];omega,by have:=r.un;rw[iJ];omega⟩
theorem xP.depth(r:xP k A):A.depth<recursionLimit:=by have:=r.dp;omega
theorem xP.units(r:xP k A):A.units+64<cLine:=by have:=r.un;omega
def WK:TA:=λ_ H Q=>Q [] H
def jJ(ta:TE)(tr:TA):TA:=λσ H Q=>ta σ H λx H1=>tr σ H1 λxs H2=>Q (x::xs) H2
section
variable{X:Cx}{e:Expr}{es:List Expr}{te:TE}{t:TA}{pos:Pos}
theorem ZS:PA X [] WK:=λ_ _ _ _ H Q I h=>Calls.spliced_nil ⟨[],H,I,.nil,h⟩
theorem zV(ha:PE X e te)(hr:PA X es t)(hs:starEach (e::es) X.env=(false,eval e X.env)::starEach es X.env:=by rfl):PA X (e::es) (jJ te t):=by
 intro pos pins s σ H Q I h;rw[hs];show wpAny _ _ (spliced ((false,eval e X.env)::backTo pos (starEach es X.env))) _ _ s;refine Calls.spliced_cons (thn (ha pins s σ H _ I h) λu s1 zq=>?_);obtain⟨x,H1,I1,r1,q1⟩:=zq;exact thn (hr pos pins s1 σ H1 _ I1 q1) λus s2⟨xs,H2,I2,r2,q2⟩=>⟨x::xs,H2,I2,.cons r1 r2,q2⟩
def He(t:TA):TE:=λσ H Q=>t σ H λxs H1=>xs.length<=sizeLine/\∀p,H1 p=none->Q (.ref p) (upd H1 p (.tup xs))
def HV(t:TA):TE:=λσ H Q=>t σ H λxs H1=>xs.length<=sizeLine/\∀p,H1 p=none->Q (.ref p) (upd H1 p (.lst xs))
theorem zY{x1}(h:PA X es t):PE X (.Tuple es x1 pos) (He t):=by
 intro pins s σ H Q I hq;refine wpAny_Tuple_spliced (thn (h pos pins s σ H _ I hq) λus s1⟨xs,H1,I1,r,z,q⟩=>⟨by rw[<- r.length];exact z,?_⟩);have hf:H1 s1.heap.objs.size=none:=I1.hok.fresh (le_refl _);refine⟨.ref s1.heap.objs.size,upd H1 s1.heap.objs.size (.tup xs),I1.laid (t':=s1.toks) (λb u e=>Heap.get?_push_of_some _ e) (le_refl _) ?_,rfl,q _ hf⟩;exact⟨z,us,r,⟨_,Heap.get?_push_size _ rfl,rfl,_,rfl⟩⟩
theorem ze(h:PA X es t):PE X (.List es pos) (HV t):=by
 intro pins s σ H Q I hq;refine wpAny_List_spliced (thn (h pos pins s σ H _ I hq) λus s1⟨xs,H1,I1,r,z,q⟩=>⟨by rw[<- r.length];exact z,?_⟩);have hf:H1 s1.heap.objs.size=none:=I1.hok.fresh (le_refl _);refine⟨.ref s1.heap.objs.size,upd H1 s1.heap.objs.size (.lst xs),I1.laid (t':=s1.toks) (λb u e=>Heap.get?_push_of_some _ e) (le_refl _) ?_,rfl,q _ hf⟩;exact⟨z,us,0,r,Heap.get?_push_size _ rfl⟩
end
abbrev Sp:=List V->Hp->VK->XK->Prop
abbrev CXT:=List Env->Hp->Shared->XK->Value->Shared->Prop
structure ie(P:Program)(w:World)(K:W.Frag)(mg:Str->Option Value)(base:Heap)(A:Around)(outer:List Env)(s:Shared)(H:Hp):Prop where
 frames:A.frames=some outer
 mod:Mod K mg base
 bs:∀b o,base.get? b=some o->s.heap.get? b=some o/\H b=none
 bsz:base.objs.size<=s.heap.objs.size
 funs:s.heap.FunFrames base outer
 frf:∀b∈frs outer,H b=none
 hok:HOk P w H s.heap
 bare:AllBare s.gens
def CE(outer:List Env)(P:Program)(w:World)(H:Hp)(s:Shared)(Q:VK)(u:Value)(s':Shared):Prop:=
 ∃v H',s'.os=s.os/\AllBare s'.gens/\Un (frs outer) [] H H' s.heap s'.heap/\HOk P w H' s'.heap/\xX v u/\Q v H'
def CR(CX:CXT)(outer:List Env)(P:Program)(w:World)(H:Hp)(s:Shared)(Q:VK)(E:XK)(r:Result)(s':Shared):Prop:=
 match r with
 |.ok (.ret u)=>CE outer P w H s Q u s'
 |.ok _=>False
 |.error e=>CX outer H s E e s'
structure yX(P:Program)(w:World)(K:W.Frag)(mg:Str->Option Value)(base:Heap)(CX:CXT)(k:Nat)(f:Addr)(fd:FuncData)(ps:List Str)(sp:Sp):Prop where
 len:∀vs H Q E,sp vs H Q E->vs.length=ps.length
 run:∀(A:Around)(outer:List Env)(s:Shared)(H:Hp)(args:Args)(us:List Value)(vs:List V)(Q:VK)(E:XK),xP k A->ie P w K mg base A outer s H->BindsTo s fd args (ps.zip us)->qP vs us->sp vs H Q E ->
  codeAny (model P w) A (.call (.ref f) args) (CR CX outer P w H s Q E) s
variable{mg:Str->Option Value}{base:Heap}{CX:CXT}{f:Addr}{fd:FuncData}{ps:List Str}{sp:Sp}
theorem yX.mono{j:Nat}(F:yX P w K mg base CX j f fd ps sp)(h:j<=k):
  yX P w K mg base CX k f fd ps sp:=⟨F.len,λA outer s H args us vs Q E hr=>F.run A outer s H args us vs Q E (hr.mono h)⟩
theorem yX.imp{sp':Sp}(F:yX P w K mg base CX k f fd ps sp)
  (h:∀vs H Q E,sp' vs H Q E->sp vs H Q E):yX P w K mg base CX k f fd ps sp':=
 ⟨λvs H Q E q=>F.len vs H Q E (h _ _ _ _ q),λA outer s H args us vs Q E hr he hb hv hs=>F.run A outer s H args us vs Q E hr he hb hv (h _ _ _ _ hs)⟩
variable{outer:List Env}
theorem ie.make(e:ie P w K mg base A outer s H)(C:Addr)(us:List Value)(kw:List (Str×Value)):
  ie P w K mg base (A.under (.builtin "type.__call__" ⟨.ref C::us,kw⟩)) outer s H:=⟨by first|exact e.frames|(simpa[Around.under,Code.envs,Code.isFrame,pushEnvs]using e.frames),e.mod,e.bs,e.bsz,e.funs,e.frf,e.hok,e.bare⟩
theorem ie.in1(e:ie P w K mg base A outer s H):
  ie P w K mg base A.in1 outer s H:=⟨e.frames,e.mod,e.bs,e.bsz,e.funs,e.frf,e.hok,e.bare⟩
section
variable{X:Cx}{pins:List (Addr×Obj)}{σ:St}{H:Hp}{s s':Shared}
theorem Inv.env0(I:Inv X pins σ H s):ie X.prog X.w X.K X.mg X.base X.A X.stack s H:=
 ⟨I.ok.frames,I.ok.mod,I.bs,le_trans I.ok.bsz I.sz,I.stack,I.stkFree,I.hok,I.bare⟩
theorem Inv.after{Q:VK}{u:Value}(I:Inv X pins σ H s)(h:CE X.stack X.prog X.w H s Q u s'):EP X pins σ Q u s':=by
 obtain⟨v,H',os,bare,un,hok,r,q⟩:=h;obtain⟨hh,g,d,t,os'⟩:=s';obtain rfl:os'=s.os:=os;exact⟨v,H',I.call (h':=hh) (g':=g) (d':=d) (t':=t) (ch:=[]) un hok bare (λb z=>absurd z (by simp)),r,q⟩
end
def JU(sp:Sp)(dvs:List V)(E:XK)(t:TA):TE:=λσ H Q=>t σ H λvs H1=>sp (vs++dvs) H1 Q E
def VN(C:Addr)(m:Str)(sp:Sp)(dvs:List V)(E:XK)(ta:TE)(t:TA):TE:=λσ H Q=>ta σ H λx H1=>∃a dx fs,x=.ref a/\H1 a=some (.ins C dx fs)/\fs.lookup m=none /\
 t σ H1 λvs H2=>sp (x::(vs++dvs)) H2 Q E
def Bw(C:Addr)(sp:Sp)(dvs:List V)(E:XK)(t:TA):TE:=λσ H Q=>t σ H λvs H1=>∀x dx,H1 x=none->H1 dx=none->dx≠x ->
 sp (.ref x::(vs++dvs)) (upd (upd H1 dx (.own x)) x (.ins C dx [])) (λv H2=>v=.non/\Q (.ref x) H2) E
def xz(K:W.Frag)(fd:FuncData)(ps:List Str)(ds:List Value):Prop:=
 ∀(s:Shared)(us:List Value),K.In s.heap->(us++ds).length=ps.length->BindsTo s fd ⟨us,[]⟩ (ps.zip (us++ds))
theorem xz.all(h:∀us:List Value,us.length=ps.length->bindArgs fd ⟨us,[]⟩=pure (ps.zip us)):xz K fd ps []:=λs us _ hl=>by
 rw[List.append_nil]at hl ⊢;exact .of_eq (h us hl)
def xU(CX:CXT)(X:Cx)(E:XK):Prop:=∀(pins:List (Addr×Obj))(σ:St)(H:Hp)(s:Shared)(e:Value)(s':Shared),Inv X pins σ H s->CX X.stack H s E e s'->X.xe e s'
section
variable{X:Cx}{CX:CXT}{k:Nat}{f C:Addr}{fd:FuncData}{ps:List Str}{sp:Sp}{dvs:List V}{ds:List Value}{E:XK}{x m:Str}{p pos apos:Pos}{e o:Expr}{es:List Expr}{ta:TE}{t:TA}
theorem KM{Q:VK}{vs:List V}(F:yX X.prog X.w X.K X.mg X.base CX k f fd ps sp)(hr:xP k X.A)(hb:xz X.K fd ps ds)(hd:qP dvs ds)(hx:xU CX X E)
  (I:Inv X pins σ H s) (r:qP vs us) (h:sp (vs++dvs) H Q E):wpAny (model X.prog X.w) X.A (call (.ref f) us) (EP X pins σ Q) X.xe s:=by
 have r2:qP (vs++dvs) (us++ds):=r.append hd;have hl:(us++ds).length=ps.length:=by rw[<- r2.length];exact F.len _ _ _ _ h
 refine wpAny_call (codeAny_mono (F.run X.A X.stack s H ⟨us,[]⟩ (us++ds) (vs++dvs) Q E hr I.env0 (hb s us I.kIn hl) r2 h) λr s' hq=>?_);cases r with
 |error e=>exact hx pins σ H s e s' I hq
 |ok fl=>
  cases fl with
  |ret u=>exact I.after hq
  |next=>exact False.elim hq
  |brk=>exact False.elim hq
  |cont=>exact False.elim hq
theorem By(F:yX X.prog X.w X.K X.mg X.base CX k f fd ps sp)(hr:xP k X.A)(hg:Gl X x)(hm:X.mg x=some (.ref f))(hk:W.keepIn X.K (.ref f)=true)(hb:xz X.K fd ps ds)(hd:qP dvs ds)(hx:xU CX X E)
  (ha:PA X (e::es) t) (hdb:Nd x:=by decide) (he:starEach (e::es) X.env=(false,eval e X.env)::starEach es X.env:=by rfl) (hpl:(backTo pos (starEach es X.env)).any (·.1)=false:=by rfl):
  PE X (.Call (.Name x p) (e::es) [] pos) (JU sp dvs E t):=by
 intro pins s σ H Q I h;refine wpAny_Call_Name_kw (jG I hg hm ?_ hdb);refine W.callWith_K (h₀:=X.base) I.ok.mod.kin hk (thn (ha pos pins s σ H _ I h) λus s1⟨vs,H1,I1,r,q⟩=>⟨I1.kIn,?_⟩) he hpl;exact KM F hr hb hd hx I1 r q
theorem tL(F:yX X.prog X.w X.K X.mg X.base CX k f fd ps sp)(hr:xP k X.A)(hg:Gl X x)(hm:X.mg x=some (.ref f))(hk:W.keepIn X.K (.ref f)=true)(hb:xz X.K fd ps ds)(hd:qP dvs ds)(hx:xU CX X E)
  (hdb:Nd x:=by decide):PE X (.Call (.Name x p) [] [] pos) (JU sp dvs E WK):=by
 intro pins s σ H Q I h;refine wpAny_Call_Name_kw (jG I hg hm ?_ hdb);exact W.callWith_K0 I.kIn hk (KM (us:=[]) F hr hb hd hx I .nil h)
theorem B8 {pl:Sem Bool} (he:PE X o ta) (c:Cls X.K C) (hm:GA X.K C m f) (F:yX X.prog X.w X.K X.mg X.base CX k f fd ps sp) (hr:xP k X.A) (hb:xz X.K fd ps ds) (hd:qP dvs ds) (hx:xU CX X E) (ha:PA X (e::es) t)
  (hst:starEach (e::es) X.env=(false,eval e X.env)::starEach es X.env:=by rfl) (hpl:(backTo pos (starEach es X.env)).any (·.1)=false:=by rfl)
  (ht:eval (.Call (.Attribute o m apos) (e::es) [] pos) X.env=(do
   let ov <- eval o X.env
   standAt apos.atName
   let (f,first) <- holding [ov] (getMethod ov m pl)
   callWith pos f first (backTo pos (starEach (e::es) X.env)) (backToKw pos (keywordEach [] X.env))):=by rfl) :
  PE X (.Call (.Attribute o m apos) (e::es) [] pos) (VN C m sp dvs E ta t):=by
 intro pins s σ H Q I h
 refine W.methodCall_KW (pl:=pl) (thn (he pins s σ H _ I h) fun u s1 zq=>?_) ht
 obtain ⟨x,H1,I1,rx,a,dx,fs,ex,ea,l,q⟩:=zq
 subst ex
 obtain rfl:u=Value.ref a:=rx
 refine J7 I1 ea c hm l ?_
 refine W.callWith_K (first:=[.ref a]) (h₀:=X.base) I.ok.mod.kin hm.kp (thn (ha pos pins s1 σ H1 _ I1 q) fun us s2 ⟨vs,H2,I2,r,q2⟩=>⟨I2.kIn,?_⟩) hst hpl
 exact KM (us:=.ref a::us) (vs:=.ref a::vs) F hr hb hd hx I2 (.cons rfl r) q2
theorem tU {pl:Sem Bool} (he:PE X o ta) (c:Cls X.K C) (hm:GA X.K C m f) (F:yX X.prog X.w X.K X.mg X.base CX k f fd ps sp) (hr:xP k X.A) (hb:xz X.K fd ps ds) (hd:qP dvs ds) (hx:xU CX X E)
  (ht:eval (.Call (.Attribute o m apos) [] [] pos) X.env=(do
   let ov <- eval o X.env
   standAt apos.atName
   let (f,first) <- holding [ov] (getMethod ov m pl)
   callWith pos f first (backTo pos (starEach [] X.env)) (backToKw pos (keywordEach [] X.env))):=by rfl) :
  PE X (.Call (.Attribute o m apos) [] [] pos) (VN C m sp dvs E ta WK):=by
 intro pins s σ H Q I h
 refine W.methodCall_KW (pl:=pl) (thn (he pins s σ H _ I h) fun u s1 zq=>?_) ht
 obtain ⟨x,H1,I1,rx,a,dx,fs,ex,ea,l,q⟩:=zq
 subst ex
 obtain rfl:u=Value.ref a:=rx
 refine J7 I1 ea c hm l ?_
 exact W.callWith_K0 (first:=[.ref a]) I1.kIn hm.kp (KM (us:=[.ref a]) (vs:=[.ref a]) F hr hb hd hx I1 (.cons rfl .nil) q)
structure Mk(K:W.Frag)(C f:Addr):Prop where
 makes:W.makesIn K C=true
 init:W.findIn K (.ref C) "__init__"=some (some (.ref f))
 fn:W.isFn K (.ref f)=true
 kp:W.keepIn K (.ref C)=true
theorem pX{Q:VK}{vs:List V}(M:Mk X.K C f)(F:yX X.prog X.w X.K X.mg X.base CX k f fd ps sp)(hr:xP (k+1) X.A)(hb:xz X.K fd ps ds)(hd:qP dvs ds)
  (hx:xU CX X E) (I:Inv X pins σ H s) (r:qP vs us)
  (h:∀x dx,H x=none->H dx=none->dx≠x->sp (.ref x::(vs++dvs)) (upd (upd H dx (.own x)) x (.ins C dx [])) (λv H2=>v=.non/\Q (.ref x) H2) E):
  wpAny (model X.prog X.w) X.A (call (.ref C) us) (EP X pins σ Q) X.xe s:=by
 have hq:=h (s.heap.objs.size+1) s.heap.objs.size (I.hok.fresh (Nat.le_succ _)) (I.hok.fresh (le_refl _)) (ne_of_lt (Nat.lt_succ_self _));have I2:=Inv.made (C:=C) I;have r2:qP (V.ref (s.heap.objs.size+1)::(vs++dvs)) (Value.ref (s.heap.objs.size+1)::(us++ds)):=.cons rfl (r.append hd);have hl:(Value.ref (s.heap.objs.size+1)::us++ds).length=ps.length:=by
  have e:=r2.length;rw[F.len _ _ _ _ hq]at e;exact e.symm
 refine wpAny_call (rG (f:=f) I.kIn M.makes M.init (beq_iff_eq.mp M.fn) (codeAny_mono (F.run _ X.stack _ _ ⟨Value.ref (s.heap.objs.size+1)::us,[]⟩ (Value.ref (s.heap.objs.size+1)::(us++ds)) _ _ E (hr.make C us [])
  (I2.env0.make C us []) (hb _ (Value.ref (s.heap.objs.size+1)::us) I2.kIn hl) r2 hq) λr s' hq'=>?_))
 cases r with
 |error e=>exact hx pins σ _ _ e s' I2 hq'
 |ok fl=>
  cases fl with
  |ret u=>
   obtain⟨v,H',I3,rv,ev,q3⟩:=I2.after hq';subst ev;exact⟨rv,⟨V.ref (s.heap.objs.size+1),H',I3,rfl,q3⟩⟩
  |next=>exact False.elim hq'
  |brk=>exact False.elim hq'
  |cont=>exact False.elim hq'
theorem C8(M:Mk X.K C f)(F:yX X.prog X.w X.K X.mg X.base CX k f fd ps sp)(hr:xP (k+1) X.A)(hg:Gl X x)(hm:X.mg x=some (.ref C))(hb:xz X.K fd ps ds)(hd:qP dvs ds)(hx:xU CX X E)
  (ha:PA X (e::es) t) (hdb:Nd x:=by decide) (he:starEach (e::es) X.env=(false,eval e X.env)::starEach es X.env:=by rfl) (hpl:(backTo pos (starEach es X.env)).any (·.1)=false:=by rfl):
  PE X (.Call (.Name x p) (e::es) [] pos) (Bw C sp dvs E t):=by
 intro pins s σ H Q I h;refine wpAny_Call_Name_kw (jG I hg hm ?_ hdb);refine W.callWith_K (h₀:=X.base) I.ok.mod.kin M.kp (thn (ha pos pins s σ H _ I h) λus s1⟨vs,H1,I1,r,q⟩=>⟨I1.kIn,?_⟩) he hpl;exact pX M F hr hb hd hx I1 r q
end
section
variable{X:Cx}{CX:CXT}{k:Nat}{f C:Addr}{fd:FuncData}{ps ks:List Str}{sp:Sp}{E:XK}{x m:Str}{p pos apos kpos:Pos}{e o:Expr}{es:List Expr}{kws:List Keyword}{te ta:TE}{t tk:TA}{nm:Option Str}
variable{g:List Value ->List Value ->List Value}{gV:List V ->List V ->List V}
end
structure zI(N P:List Str)(sc:Scope):Prop where
 kind:sc.kind=.function
 co:sc.isCoroutine=false
 gen:sc.isGenerator=false
 nd:N.Nodup
 pre:N.take P.length=P
 par:∀x∈P,sc.names.lookup x=some .local\/sc.names.lookup x=some .cell
 nofree:∀y∈sc.names,y.2≠.free
theorem WY{kindOf:Str->Option NameKind}{x:Str}:∀{binds:List (Str×Value)}{m:Str->Option Value},(∀v,(x,v)∉binds)->bindL kindOf binds m x=m x
 |[],_,_=>rfl
 |(n,v)::r,m,h=>by
  unfold bindL;rw[WY λw hw=>h w (mem_cons_of_mem _ hw)];split
  .have:x≠n:=by rintro rfl;exact h v List.mem_cons_self
   simp[this]
  .rfl
theorem Wp{kindOf:Str->Option NameKind}{x:Str}:∀{binds:List (Str×Value)}{m:Str->Option Value},(∀v,(x,v)∉binds)->bindC kindOf binds m x=m x
 |[],_,_=>rfl
 |(n,v)::r,m,h=>by
  unfold bindC;rw[Wp λw hw=>h w (mem_cons_of_mem _ hw)];split
  .rfl
  .have:x≠n:=by rintro rfl;exact h v List.mem_cons_self
   simp[this]
theorem aP{kindOf:Str->Option NameKind}{x:Str}{v:Value}:∀{P:List Str}{vs:List Value}{i:Nat}{m:Str->Option Value},P.Nodup->P[i]?=some x->vs[i]?=some v->kindOf x=some .local ->
  bindL kindOf (P.zip vs) m x=some v
 |[],_,_,_,_,h,_,_=>by simp at h
 |_::_,[],_,_,_,_,h,_=>by simp at h
 |p::P,w::vs,0,m,nd,h1,h2,hk=>by
  simp at h1 h2;subst h1;subst h2;show bindL kindOf ((p,w)::P.zip vs) m p=_;unfold bindL;rw[WY λv hv=>(List.nodup_cons.mp nd).1 (List.of_mem_zip hv).1,if_pos hk];simp
 |p::P,w::vs,i+1,m,nd,h1,h2,hk=>by
  show bindL kindOf ((p,w)::P.zip vs) m x=_;unfold bindL;exact aP (i:=i) (List.nodup_cons.mp nd).2 (by simpa using h1) (by simpa using h2) hk
theorem dL{kindOf:Str->Option NameKind}{x:Str}{v:Value}:∀{P:List Str}{vs:List Value}{i:Nat}{m:Str->Option Value},P.Nodup->P[i]?=some x->vs[i]?=some v->kindOf x≠some .local ->
  bindC kindOf (P.zip vs) m x=some v
 |[],_,_,_,_,h,_,_=>by simp at h
 |_::_,[],_,_,_,_,h,_=>by simp at h
 |p::P,w::vs,0,m,nd,h1,h2,hk=>by
  simp at h1 h2;subst h1;subst h2;show bindC kindOf ((p,w)::P.zip vs) m p=_;unfold bindC;rw[Wp λv hv=>(List.nodup_cons.mp nd).1 (List.of_mem_zip hv).1,if_neg hk];simp
 |p::P,w::vs,i+1,m,nd,h1,h2,hk=>by
  show bindC kindOf ((p,w)::P.zip vs) m x=_;unfold bindC;exact dL (i:=i) (List.nodup_cons.mp nd).2 (by simpa using h1) (by simpa using h2) hk
def start(N:List Str)(vs:List V):St:=vs.map some++List.replicate (N.length-vs.length) none
def Ze(CX:CXT)(P:Program)(w:World)(K:W.Frag)(mg:Str->Option Value)(base:Heap)(N:List Str)(qual:Str)(scope:Scope)(f:Addr)(cd:Value)(A:Around)(outer:List Env)(s:Shared)(H:Hp)(E:XK):Cx where
 prog:=P
 w:=w
 K:=K
 mg:=mg
 base:=base
 A:=A.deeper (envOfC qual scope s.heap.objs.size f cd)
 N:=N
 s₀:=s
 H₀:=H
 env:=envOfC qual scope s.heap.objs.size f cd
 outer:=outer
 stack:=envOfC qual scope s.heap.objs.size f cd::outer
 ex:=[]
 calm:=true
 fn:=λ_=>true
 pn:=[]
 xe:=λe s'=>wpAny (model P w) (A.deeper (envOfC qual scope s.heap.objs.size f cd)) (leaving (envOfC qual scope s.heap.objs.size f cd) e) (λ_ s''=>CX outer H s E e s'') (λe' s''=>CX outer H s E e' s'') s'
theorem gN{sc:Scope}{n:Nat}{x:Str}(h:sc.names.lookup x=some .cell):∃c,(cellsFrom n sc.names []).lookup x=some c:=by
 have q:=W.cellsFrom_some sc.names n [] (.inl h);exact Option.isSome_iff_exists.mp q
theorem aa{N:List Str}{qual:Str}{scope:Scope}{cd:Value}{s1:Shared}{E:XK}{vs:List V}
  (S:zI N ps scope) (hd:A.handled=none) (e0:ie P w K mg base A outer s H) (hl:vs.length=ps.length) (r:qP vs us)
  (x:InCallC s s.heap.objs.size (bindL (envOfC qual scope s.heap.objs.size f cd).kindOf (ps.zip us) λ_=>none) (cellsFrom (s.heap.objs.size+1) scope.names []) (bindC (envOfC qual scope s.heap.objs.size f cd).kindOf (ps.zip us) λ_=>none) s1):
  Inv (Ze CX P w K mg base N qual scope f cd A outer s H E) [] (start N vs) H s1:=by
 have hpl:ps.length<=N.length:=by have:=congrArg List.length S.pre;rw[List.length_take]at this;omega
 obtain⟨h1,tk,rfl,hk⟩:=x.done;have noA:∀b:Addr,b∉(Ze CX P w K mg base N qual scope f cd A outer s H E).ex:=λb z=>absurd (show b∈([]:List Addr)from z) (by simp);refine⟨⟨e0.mod,S.kind,rfl,rfl,le_refl _,λy z c h1 h2=>?_,λy hy=>?_,λy c _ h=>?_,λ_=>hd,Around.frames_deeper e0.frames,.inr ⟨rfl,rfl⟩,λb z=>absurd z (noA b),e0.bs,e0.bsz,λb _ _=>noA b,λb z=>absurd z (noA b),e0.funs,e0.frf⟩,
  rfl,e0.bare,Un.kept hk,⟨_,x.toInCall.ns,λi y v h1 h2 h3=>?_⟩,λy c h=>⟨_,x.cell y c h⟩,e0.hok.fresh (le_refl _),λy c h=>?_,λp hp=>absurd (show p∈([]:List (Addr×Obj))from hp) (by simp),e0.hok.kept hk,?_⟩
 .exact name_of_addr x.apart (PySem.mem_of_lookup h1) (PySem.mem_of_lookup h2)
 .have hy:scope.names.lookup y=some .cell\/scope.names.lookup y=some .free:=hy;rcases hy with hy|hy
  .exact gN hy
  .exact absurd rfl (S.nofree _ (PySem.mem_of_lookup hy))
 .exact Nat.le_of_lt (x.above y c (PySem.mem_of_lookup h))
 .have hi:i<vs.length:=by
   unfold start at h2;by_cases hi:i<vs.length
   .exact hi
   .rw[List.getElem?_append_right (by simpa using hi)]at h2;rw[List.getElem?_replicate]at h2;split at h2<;>cases h2
  have ha:vs[i]?=some v:=by
   unfold start at h2;rw[List.getElem?_append_left (by simpa using hi),List.getElem?_map]at h2;cases e:vs[i]? with
   |none=>rw[e]at h2;cases h2
   |some a=>rw[e]at h2;cases h2;rfl
  obtain⟨u,hu,rv⟩:=r.get ha;have hp:ps[i]?=some y:=by
   rw[<- S.pre,List.getElem?_take_of_lt (by omega)];exact h1
  have ndP:ps.Nodup:=by rw[<- S.pre];exact S.nd.sublist (List.take_sublist _ _)
  refine⟨u,rv,?_⟩;rcases S.par y (List.mem_of_getElem? hp)with k|k
  .exact .inl ⟨k,aP ndP hp hu k⟩
  .obtain⟨c,e⟩:=gN (n:=s.heap.objs.size+1) k;refine .inr ⟨.inl k,c,e,?_⟩;have q:=x.cell y c e;rw[dL ndP hp hu (by show scope.names.lookup y≠_;rw[k];decide)]at q;exact q
 .exact e0.hok.fresh (Nat.le_of_lt (x.above y c (PySem.mem_of_lookup h)))
 .unfold start;show _=N.length;rw[List.length_append,List.length_map,List.length_replicate];omega
theorem iV {name qual:Str} {params:Arguments} {body:List Stmt} {scope:Scope} {dV kV doc pm cdv ct oc:Value} {an od:Option Addr}
  {osl:Array (Option Value)} {N:List Str} (lk:K.lookup f=some ⟨oc,od,.func (W.fnOf name qual params body scope dV kV doc pm an cdv ct),osl⟩) (hcd:W.codeIn K cdv qual=true) (S:zI N ps scope)
  (len : ∀ vs H Q E,sp vs H Q E->vs.length=ps.length)
  (hbody : ∀ (A:Around) (outer:List Env) (s:Shared) (H:Hp) (vs:List V) (Q:VK) (E:XK),xP k (A.deeper (envOfC qual scope s.heap.objs.size f cdv))->sp vs H Q E ->
   ∃ t,PSs (Ze CX P w K mg base N qual scope f cdv A outer s H E) body t/\t { nx:=fun _ H'=>Q .non H',rt:=Q } (start N vs) H) :
  yX P w K mg base CX (k+1) f (W.fnOf name qual params body scope dV kV doc pm an cdv ct) ps sp:=by
 refine ⟨len,fun A outer s H args us vs Q E hr e0 hb r hsp=>?_⟩
 have hl:=len _ _ _ _ hsp
 have KX:K.In s.heap:=e0.mod.kin.keeps fun b o e=>(e0.bs b o e).1
 have lim:s.heap.NoLimit:=e0.mod.nolimit.keeps fun b o e=>(e0.bs b o e).1
 have hkind : ∀ y ∈ ps.zip us,scope.names.lookup y.1=some .local\/(scope.names.lookup y.1=some .cell/\((cellsFrom (s.heap.objs.size+1) scope.names []).lookup y.1).isSome=true):=fun ⟨n,v⟩ hy=>by
  rcases S.par n (List.of_mem_zip hy).1 with q | q
  ·exact .inl q
  ·exact .inr ⟨q,W.cellsFrom_some _ _ _ (.inl q)⟩
 refine codeAny_call_function hr.depth (KX _ _ lk) rfl S.co S.gen rfl (W.codeRec_of KX hcd) (hb _ _ _ _ ?_)
 refine wpAny_newFunctionEnv_cells S.kind hkind fun env he s1 x=>?_
 subst he
 refine ⟨lim.keeps x.toInCall.keep,codeAny_func ?_⟩
 obtain ⟨t,ht,hq⟩:=hbody A outer s H vs Q E (hr.deeper _) hsp
 have I:Inv (Ze CX P w K mg base N qual scope f cdv A outer s H E) [] (start N vs) H s1:=aa S hr.hd e0 hl r x
 refine wpAny_mono (ht [] s1 (start N vs) H _ I hq) (fun fl s' hs=>?_) fun e s' hs=>hs
 have fin : ∀ {σ':St} {H':Hp} {v:V} {u:Value},Inv (Ze CX P w K mg base N qual scope f cdv A outer s H E) [] σ' H' s'->xX v u->Q v H'->CE outer P w H s Q u s':=
  fun {σ' H' v u} J rv q=>⟨v,H',J.os,J.bare,J.base,J.hok,rv,q⟩
 cases fl with
 | ret u =>
  obtain ⟨v,σ',H',J,rv,q⟩:=hs
  exact fin J rv q
 | next =>
  obtain ⟨σ',H',J,q⟩:=hs
  exact fin (v:=V.non) (u:=Value.none) J rfl q
 | brk =>
  obtain ⟨_,_,_,q⟩:=hs
  exact False.elim q
 | cont =>
  obtain ⟨_,_,_,q⟩:=hs
  exact False.elim q
section
variable{X:Cx}{x:Str}{p pos:Pos}{e:Expr}{es:List Expr}{t:TA}{id T:String}{r:List V ->Hp ->VK ->Prop}
def tCB(r:List V->Hp->VK->Prop)(t:TA):TE:=λσ H Q=>t σ H λvs H1=>r vs H1 Q
theorem rM(hc:xa X (.builtin id) r)(hg:Gl X x)(hm:X.mg x=none)(hv:bootBuiltins x=some (.builtin id))(ha:PA X (e::es) t)(hn:x≠"__name__":=by decide)(hdb:Nd x:=by decide)
  (he:starEach (e::es) X.env=(false,eval e X.env)::starEach es X.env:=by rfl) (hpl:(backTo pos (starEach es X.env)).any (·.1)=false:=by rfl):PE X (.Call (.Name x p) (e::es) [] pos) (tCB r t):=by
 intro pins s σ H Q I h;refine wpAny_Call_Name_kw (Yh I hg hm hv ?_ hn hdb);exact PyProof.Rows.callWith_builtin1 (thn (ha pos pins s σ H _ I h) λus s1⟨vs,H1,I1,r1,q1⟩=>hc pins s1 σ H1 vs us Q I1 r1 q1) he hpl
theorem zo(hc:xa X (.type T) r)(hg:Gl X x)(hm:X.mg x=none)(hv:bootBuiltins x=some (.type T))(ha:PA X (e::es) t)(hn:x≠"__name__":=by decide)(hdb:Nd x:=by decide)
  (he:starEach (e::es) X.env=(false,eval e X.env)::starEach es X.env:=by rfl) (hpl:(backTo pos (starEach es X.env)).any (·.1)=false:=by rfl):PE X (.Call (.Name x p) (e::es) [] pos) (tCB r t):=by
 intro pins s σ H Q I h;refine wpAny_Call_Name_kw (Yh I hg hm hv ?_ hn hdb);exact PyProof.Rows.callWith_type1 (thn (ha pos pins s σ H _ I h) λus s1⟨vs,H1,I1,r1,q1⟩=>hc pins s1 σ H1 vs us Q I1 r1 q1) he hpl
end
end L2
namespace HT
open PySem PyProof.Rows
section
open PySem.SeqAt
open PySem.AutoSeq1 (wpAny_loadPart')
open PySem.MeetsSeq PySem.MeetsSeq2 PySem.MeetsSeq3
end
section
variable{prog:Program}{w:World}{A:Around}{E:Value ->Shared ->Prop}{s:Shared}
theorem cat_tup{t b:Addr}{vs ws:List Value}{Q:Value->Shared->Prop}(ht:IsTup s.heap t vs.toArray)(hb:IsTup s.heap b ws.toArray)(hv:vs≠[])
  (h1:ws=[]->Q (.ref t) s) (h2:ws≠[]->Q (.ref s.heap.objs.size) { s with heap:=s.heap.push { cls:=.type "tuple",data:=.seq (vs++ws).toArray } })
  (hsz:vs.length+ws.length<=sizeLine):wpAny (model prog w) A (binaryOp .Add (.ref t) (.ref b)) Q E s:=by
 obtain⟨⟨cls,dd,data,sl⟩,ho,hc,n,hd⟩:=id ht;obtain⟨⟨cls2,dd2,data2,sl2⟩,ho2,hc2,n2,hd2⟩:=id hb;simp only at hc hd hc2 hd2;subst hc hd hc2 hd2;have e:vs.toArray++ws.toArray=(vs++ws).toArray:=by simp
 by_cases hw:ws=[]
 .exact concat_meets ⟨_,ho,rfl⟩ ⟨_,ho2,rfl⟩ noFill_tuple_add seq_tuple_add PySem.F.slot_tuple_add PySem.F.entry_tuple_add (PySem.F.args_tuple_add_2 _ _)
   (tuple_addW1 t b vs.toArray ws.toArray n n2 dd dd2 sl sl2 (by simpa using hv) (by simp[hw])) ⟨ho,ho2,h1 hw⟩
 .refine concat_meets ⟨_,ho,rfl⟩ ⟨_,ho2,rfl⟩ noFill_tuple_add seq_tuple_add PySem.F.slot_tuple_add PySem.F.entry_tuple_add (PySem.F.args_tuple_add_2 _ _)
   (tuple_addW2 t b vs.toArray ws.toArray n n2 dd dd2 sl sl2 (by simpa using hv) (by simpa using hw) (by rw[List.size_toArray,List.size_toArray];exact hsz)) ⟨ho,ho2,?_⟩
  rw[e];exact h2 hw
def sIx(n d:Nat):Option Int->Nat
 |none=>d
 |some v=>if v<0 then(v+(n:Int)).toNat else min v.toNat n
theorem sIx_none(n d:Nat):sIx n d none=d:=rfl
theorem sIx_nat(n d k:Nat):sIx n d (some (k:Int))=min k n:=by
 show(if(k:Int)<0 then((k:Int)+(n:Int)).toNat else min (k:Int).toNat n)=min k n;rw[if_neg (by omega),Int.toNat_natCast]
theorem FL(n d:Nat)(hd:d<=n)(o:Option Int):sIx n d o<=n:=by
 cases o with
 |none=>exact hd
 |some v=>
  show(if v<0 then(v+(n:Int)).toNat else min v.toNat n)<=n;by_cases hv:v<0
  .rw[if_pos hv];omega
  .rw[if_neg hv];exact Nat.min_le_right _ _
theorem nR(v:Int)(n d:Nat):(if v<0 then max (v+(n:Int)) 0 else min v (n:Int))=((sIx n d (some v):Nat):Int):=by
 show(if v<0 then max (v+(n:Int)) 0 else min v (n:Int))=(((if v<0 then(v+(n:Int)).toNat else min v.toNat n):Nat):Int);by_cases hv:v<0
 .simp only[if_pos hv];omega
 .simp only[if_neg hv];omega
theorem hI(lo hi:Option Int)(n:Nat):Builtin.Slice.sliceAdjust lo hi 1 (n:Int)=(((sIx n 0 lo:Nat):Int),((sIx n n hi:Nat):Int)):=by
 have h1:¬((1:Int)<0):=by omega
 unfold Builtin.Slice.sliceAdjust;simp only[h1,if_false];refine Prod.ext ?_ ?_
 .cases lo with
  |none=>rfl
  |some v=>exact nR v n 0
 .cases hi with
  |none=>rfl
  |some v=>exact nR v n n
theorem gq(i j:Nat):Builtin.Slice.slicePlaces (i:Int) (j:Int) 1=j-i:=by
 unfold Builtin.Slice.slicePlaces;have h1:(1:Int)>0:=by omega
 simp only[h1,if_true,Int.ediv_one];split<;>omega
theorem Vy{v:Value}{o:Option Int}{Q:Option Int->Shared->Prop}(p:IsPart v o)(h:Q o s):wpAny (model prog w) A (Builtin.Slice.slicePartIndex v) Q E s:=by
 cases p with
 |none=>exact slicePart_none h
 |int i t=>exact slicePart_int h
theorem X5{sl:Addr}{vl vu:Value}{lo hi:Option Int}{n:Nat}{Q:Int×Int×Nat->Shared->Prop}(hs:s.heap.IsSliceOf sl vl vu .none)(pl:IsPart vl lo)(pu:IsPart vu hi)
  (h:Q (((sIx n 0 lo:Nat):Int),1,sIx n n hi-sIx n 0 lo) s):wpAny (model prog w) A (Builtin.Slice.sliceApplied (.ref sl) (pure (n:Int))) Q E s:=by
 obtain⟨os,hos,hcs,hds⟩:=id hs;unfold Builtin.Slice.sliceApplied Builtin.Slice.sliceFields;refine wpAny_bind (wpAny_bind (wpAny_field hos hds (x:=vl) rfl (wpAny_bind (wpAny_field hos hds (x:=vu) rfl (wpAny_bind (wpAny_field hos hds (x:=.none) rfl (wpAny_pure ?_)))))));refine wpAny_bind (slicePart_none ?_);show wpAny _ _ (if((1:Int)== 0)=true then _ else _) _ _ s;rw[if_neg (by decide)];refine wpAny_bind (Vy pl (wpAny_bind (Vy pu (wpAny_bind (wpAny_pure ?_)))));show wpAny _ _ (match Builtin.Slice.sliceAdjust lo hi 1 (n:Int)with|(lo,hi)=>pure (lo,(1:Int),Builtin.Slice.slicePlaces lo hi 1)) _ _ s;rw[hI lo hi n];show wpAny _ _ (pure (((sIx n 0 lo:Nat):Int),(1:Int),Builtin.Slice.slicePlaces ((sIx n 0 lo:Nat):Int) ((sIx n n hi:Nat):Int) 1)) _ _ s;rw[gq];exact wpAny_pure h
theorem rp(xs:Array Value)(i k:Nat):((List.range k).filterMap λ(m:Nat)=>xs[((i:Int)+(m:Int)*1).toNat]?).toArray=((xs.toList.drop i).take k).toArray:=by
 have e:(λ(m:Nat)=>xs[((i:Int)+(m:Int)*1).toNat]?)=λm=>xs[i+m]?:=by
  funext m
  have:((i:Int)+(m:Int)*1).toNat=i+m:=by omega
  rw[this]
 rw[e];have:=pick_run xs i k;rw[List.filterMap_map]at this;have e2:((λx=>xs[x]?)∘λx=>i+x)=λm=>xs[i+m]?:=rfl;rw[e2]at this;rw[this]
theorem getItem_tuple_cut{t sl:Addr}{items:Array Value}{vl vu:Value}{lo hi:Option Int}{Q:Value->Shared->Prop}(ht:IsTup s.heap t items)(hs:s.heap.IsSliceOf sl vl vu .none)(pl:IsPart vl lo)(pu:IsPart vu hi)
  (hw:¬(sIx items.size 0 lo=0/\sIx items.size items.size hi=items.size))
  (h:Q (.ref s.heap.objs.size) { s with heap:=s.heap.push { cls:=.type "tuple",data:=.seq ((items.toList.drop (sIx items.size 0 lo)).take (sIx items.size items.size hi-sIx items.size 0 lo)).toArray } })
  (hsz:items.size<=sizeLine):wpAny (model prog w) A (getItem (.ref t) (.ref sl)) Q E s:=by
 have htake:sizeOk (.seq ((items.toList.drop (sIx items.size 0 lo)).take (sIx items.size items.size hi-sIx items.size 0 lo)).toArray):=by
  show((items.toList.drop (sIx items.size 0 lo)).take (sIx items.size items.size hi-sIx items.size 0 lo)).toArray.size<=sizeLine;rw[List.size_toArray,List.length_take,List.length_drop,Array.length_toList];omega
 have hj:sIx items.size items.size hi<=items.size:=FL _ _ (Nat.le_refl _) hi;obtain⟨os,hos,hcs,hds⟩:=id hs;have hTs:s.TypeIs (.ref sl) "slice":=⟨os,hos,hcs⟩
 unfold getItem;try with_reducible refine wpAny_holding ?_
 first|refine wpAny_bind (wpAny_pure ?_)|skip
 refine wpAny_bind (wpAny_sequenceKey ht.typeIs (by decide) ?_);refine wpAny_bind (wpAny_callSpecial?_slot (name:=Str.ofString "__getitem__") ht.typeIs PyProof.Rows.slot_tuple_getitem
  (wpAny_call_entry PyProof.Rows.slot_tuple_getitem ht.typeIs entry_tuple_getitem ?_ (args_tuple_getitem _ _)))
 show wpAny _ _ (Builtin.Tuple.tupleItemsOf (.ref t)>>= _) _ _ s;refine wpAny_bind (tupleItemsOf_ ht ?_);refine wpAny_bind (wpAny_typeOf hTs ?_);rw[if_pos (by decide)];refine wpAny_bind (X5 hs pl pu ?_);have hno:¬((((sIx items.size 0 lo:Nat):Int)== 0&&(1:Int)== 1&&(sIx items.size items.size hi-sIx items.size 0 lo)== items.size)=true):=by
  intro q;rw[Bool.and_eq_true,Bool.and_eq_true]at q;have q1:((sIx items.size 0 lo:Nat):Int)=0:=eq_of_beq q.1.1;have q2:sIx items.size items.size hi-sIx items.size 0 lo=items.size:=eq_of_beq q.2;exact hw ⟨by omega,by omega⟩
 show wpAny _ _ (if(((sIx items.size 0 lo:Nat):Int)== 0&&(1:Int)== 1&&(sIx items.size items.size hi-sIx items.size 0 lo)== items.size)=true then _ else _) _ _ s;rw[if_neg hno,rp];first
  |exact wpAny_bind (m:=Builtin.Tuple.tupleExact _) (wpAny_newObj_type (wpAny_pure ⟨_,rfl,wpAny_pure h⟩) htake)
  |exact wpAny_bind (m:=Builtin.Tuple.tupleExact _) (wpAny_newObj_type (wpAny_bind (wpAny_pure (wpAny_pure ⟨_,rfl,wpAny_pure h⟩))) htake)
  |exact wpAny_bind (wpAny_bind (m:=Builtin.Tuple.tupleExact _) (wpAny_newObj_type (wpAny_pure (wpAny_pure ⟨_,rfl,wpAny_pure h⟩)) htake))
  |exact wpAny_bind (wpAny_bind (m:=Builtin.Tuple.tupleExact _) (wpAny_newObj_type (wpAny_pure ⟨_,rfl,wpAny_pure h⟩) htake))
end
end HT
namespace L2
open PySem PySem.Spec PyProof.Rows
open List (length_append size_toArray)
open Nat (le_refl)
abbrev TO:=St->Hp->(Option Int->Hp->Prop)->Prop
def PO(X:Cx)(e:Option Expr)(t:TO):Prop:=
 ∀(pins:List (Addr×Obj))(s:Shared)(σ:St)(H:Hp)(Q:Option Int->Hp->Prop),Inv X pins σ H s->t σ H Q ->
  wpAny (model X.prog X.w) X.A (evalPart e X.env) (λu s'=>∃o H',Inv X pins σ H' s'/\IsPart u o/\Q o H') X.xe s
def pG:TO:=λ_ H Q=>Q none H
def FR(t:TE):TO:=λσ H Q=>t σ H λx H1=>∃i,x=.int i/\Q (some i) H1
theorem iq{ns:List Int}:∀{us:List Value},qP (ns.map V.int) us->IntsAre us ns:=by
 induction ns with
 |nil=>intro us r;rw[List.map_nil]at r;cases r;exact .nil
 |cons n ns ih=>
  intro us r;rw[List.map_cons]at r;cases r with
  |cons r1 r2=>
   obtain⟨t,e⟩:=r1;subst e;exact .cons n t (ih r2)
section
variable{X:Cx}{e:Expr}{te:TE}{lo hi:Option Expr}{tl th:TO}{pos p2:Pos}
theorem qm:PO X none pG:=by
 intro pins s σ H Q I h;rw[evalPart_none];exact wpAny_pure ⟨none,H,I,.none,h⟩
theorem zt(h:PE X e te):PO X (some e) (FR te):=by
 intro pins s σ H Q I hw;rw[evalPart_some];refine thn (h pins s σ H _ I hw) λu s1 zq=>?_;obtain⟨x,H1,I1,r1,q1⟩:=zq;obtain⟨i,rfl,q⟩:=q1;obtain⟨t,rfl⟩:=r1;exact⟨some i,H1,I1,.int i t,q⟩
def SlR(X:Cx)(r:V->Option Int->Option Int->Hp->VK->Prop):Prop:=
 ∀(pins:List (Addr×Obj))(s:Shared)(σ:St)(H:Hp)(x:V)(v vl vu:Value)(lo hi:Option Int)(sl:Addr)(Q:VK),Inv X pins σ H s->xX x v->s.heap.IsSliceOf sl vl vu .none->IsPart vl lo->IsPart vu hi->r x lo hi H Q ->
  ∃T id,typeLookup (.type T) "__getitem__"=pure (some (.builtin id))/\s.TypeIs v T/\wpAny (model X.prog X.w) X.A (getItem v (.ref sl)) (EP X pins σ Q) X.xe s
def tSl(r:V->Option Int->Option Int->Hp->VK->Prop)(te:TE)(tl th:TO):TE:=λσ H Q=>te σ H λx H1=>tl σ H1 λl H2=>th σ H2 λu H3=>r x l u H3 Q
theorem zx{r:V->Option Int->Option Int->Hp->VK->Prop}(hr:SlR X r)(he:PE X e te)(hl:PO X lo tl)(hu:PO X hi th):PE X (.Subscript e (.Slice lo hi none p2) pos) (tSl r te tl th):=by
 intro pins s σ H Q I h;refine Subscript_ (thn (he pins s σ H _ I h) λv s1 zq=>?_);obtain⟨x,H1,I1,r1,q1⟩:=zq;refine wpAny_Slice (thn (hl pins s1 σ H1 _ I1 q1) λvl s2⟨l,H2,I2,pl,q2⟩=>thn (hu pins s2 σ H2 _ I2 q2) λvu s3 zq=>?_);obtain⟨u,H3,I3,pu,q3⟩:=zq;rw[evalPart_none];refine wpAny_pure ?_;have I4:Inv X pins σ H3 { s3 with heap:=s3.heap.push { cls:=.type "slice",data:=.fields #[vl,vu,.none] } }:=I3.kept (t':=s3.toks) λb ob q=>Heap.get?_push_of_some _ q;obtain⟨T,id,hT,ht,hg⟩:=hr pins { s3 with heap:=s3.heap.push { cls:=.type "slice",data:=.fields #[vl,vu,.none] } } σ H3 x v vl vu l u s3.heap.objs.size Q I4 r1 (Heap.IsSliceOf.new ..) pl pu q3;show wpAny (model X.prog X.w) X.A (subscriptTail e (.Slice lo hi none p2) v (.ref s3.heap.objs.size)) (EP X pins σ Q) X.xe { s3 with heap:=s3.heap.push { cls:=.type "slice",data:=.fields #[vl,vu,.none] } };exact tail_any (ops:=[.ref s3.heap.objs.size,v]) ht hT hg (by with_unfolding_all rfl)
def iz(xs:List V)(lo hi:Option Int):List V:=(xs.drop (HT.sIx xs.length 0 lo)).take (HT.sIx xs.length xs.length hi-HT.sIx xs.length 0 lo)
theorem Ym(xs:List V)(lo hi:Option Int):(iz xs lo hi).length<=xs.length:=by
 unfold iz;rw[List.length_take,List.length_drop];omega
def Gj(K:W.Frag):V->Option Int->Option Int->Hp->VK->Prop:=λx lo hi H Q=>∃a xs,x=.ref a/\SqT K H a xs /\
 ¬(HT.sIx xs.length 0 lo=0/\HT.sIx xs.length xs.length hi=xs.length)/\∀p,H p=none->Q (.ref p) (upd H p (.tup (iz xs lo hi)))
theorem Do:SlR X (Gj X.K):=by
 intro pins s σ H x v vl vu lo hi sl Q I rx hs pl pu h;obtain⟨a,xs,rfl,hx,hw,q⟩:=h;cases rx;obtain⟨its,r,ht,hz⟩:=I.tuple hx;have hlen:its.toArray.size=xs.length:=by rw[size_toArray];exact r.length.symm
 refine⟨"tuple",_,PyProof.Rows.slot_tuple_getitem.lookup,ht.typeIs,?_⟩;refine HT.getItem_tuple_cut ht hs pl pu (by rw[hlen];exact hw) ?_ (by rw[hlen];exact hz);rw[hlen];refine⟨.ref s.heap.objs.size,_,I.laid (t':=s.toks) (o:=.tup (iz xs lo hi)) (λb ob q=>Heap.get?_push_of_some _ q) (le_refl _) ?_,rfl,q _ (I.hok.fresh (le_refl _))⟩;exact⟨Nat.le_trans (Ym xs lo hi) hz,_,(r.drop (HT.sIx xs.length 0 lo)).take (HT.sIx xs.length xs.length hi-HT.sIx xs.length 0 lo),IsTup.new _ _⟩
def ix(K:W.Frag):R2:=λx y H Q=>∃a b xs ys,x=.ref a/\y=.ref b/\SqT K H a xs/\SqT K H b ys/\xs≠[]/\xs.length+ys.length<=sizeLine /\
 (ys=[]->Q (.ref a) H)/\(ys≠[]->∀p,H p=none->Q (.ref p) (upd H p (.tup (xs++ys))))
theorem qP.nil_iff{xs:List V}{us:List Value}(r:qP xs us):us=[]↔xs=[]:=by
 cases r with
 |nil=>simp
 |cons _ _=>simp
theorem BC:OpR X (binaryOp .Add) (ix X.K):=by
 intro pins s σ H x y v u Q I rx ry h;obtain⟨a,b,xs,ys,rfl,rfl,ha,hb,hx,hz,q1,q2⟩:=h;cases rx;cases ry;obtain⟨its,r1,p1,_⟩:=I.tuple ha;obtain⟨its2,r2,p2,_⟩:=I.tuple hb;refine HT.cat_tup p1 p2 (λz=>hx (r1.nil_iff.mp z)) (λz=>⟨.ref a,H,I,rfl,q1 (r2.nil_iff.mp z)⟩) (λz=>?_) (by rw[<- r1.length,<- r2.length];exact hz);refine⟨.ref s.heap.objs.size,_,I.laid (t':=s.toks) (o:=.tup (xs++ys)) (λb ob q=>Heap.get?_push_of_some _ q) (le_refl _) ?_,rfl,q2 (λw=>z (r2.nil_iff.mpr w)) _ (I.hok.fresh (le_refl _))⟩;exact⟨by rw[length_append];exact hz,_,r1.append r2,IsTup.new _ _⟩
end
def ixN(n:Nat)(i:Int):Option Nat:=if 0<=i then(if i<n then some i.toNat else none)else if -(n:Int)<=i then some (i+n).toNat else none
def atI{α:Type}(xs:List α)(i:Int):Option α:=(ixN xs.length i).bind λj=>xs[j]?
variable{n:Nat}
theorem Cu{i:Int}{j:Nat}(h:ixN n i=some j):seqIndex? i n=some j/\j<n/\-(n:Int)<=i/\i<n:=by
 unfold ixN at h;by_cases h0:0<=i
 .rw[if_pos h0]at h;by_cases h1:i<n
  .rw[if_pos h1]at h;have e:i.toNat=j:=Option.some.inj h;exact⟨by rw[seqIndex_of h0 h1,e],by omega,by omega,h1⟩
  .rw[if_neg h1]at h;cases h
 .rw[if_neg h0]at h;by_cases h1:-(n:Int)<=i
  .rw[if_pos h1]at h;have e:(i+n).toNat=j:=Option.some.inj h;exact⟨by rw[seqIndex_neg (by omega) h1,e],by omega,h1,by omega⟩
  .rw[if_neg h1]at h;cases h
theorem eW{α:Type}{xs:List α}{i:Int}{v:α}(h:atI xs i=some v):∃j,seqIndex? i xs.length=some j/\xs[j]?=some v/\j<xs.length/\-(xs.length:Int)<=i/\i<xs.length:=by
 unfold atI at h;cases e:ixN xs.length i with
 |none=>rw[e]at h;cases h
 |some j=>
  rw[e]at h;obtain⟨h1,h2,h3,h4⟩:=Cu e;exact⟨j,h1,h,h2,h3,h4⟩
theorem nX{α:Type}{xs:List α}{j:Nat}{v:α}(h:xs[j]?=some v):atI xs (j:Int)=some v:=by
 have hj:j<xs.length:=(List.getElem?_eq_some_iff.mp h).1;have e:ixN xs.length (j:Int)=some j:=by
  unfold ixN;rw[if_pos (by omega),if_pos (by omega)];simp
 unfold atI;rw[e];exact h
def eU(b:Expr):Prop:=∀o i,subscripted b false o i=operate [o,i] (getItem o i)
def IxR(X:Cx)(r:R2):Prop:=
 ∀(value slice:Expr)(pins:List (Addr×Obj))(s:Shared)(σ:St)(H:Hp)(x y:V)(v u:Value)(Q:VK),Inv X pins σ H s->xX x v->xX y u->r x y H Q ->
  subscripted slice false v u=operate [v,u] (getItem v u)->wpAny (model X.prog X.w) X.A (subscriptTail value slice v u) (EP X pins σ Q) X.xe s
def MtR(X:Cx)(id:String)(r:V->List V->Hp->VK->Prop):Prop:=
 ∀(pins:List (Addr×Obj))(s:Shared)(σ:St)(H:Hp)(x:V)(xs:List V)(v:Value)(us:List Value)(Q:VK),Inv X pins σ H s->xX x v->qP xs us->r x xs H Q ->
  wpAny (model X.prog X.w) X.A (call (.builtin id) (v::us)) (EP X pins σ Q) X.xe s
section
variable{X:Cx}{a b:Expr}{ta tb:TE}{pos:Pos}
theorem rZ{r:R2}(hr:IxR X r)(ha:PE X a ta)(hb:PE X b tb)(hs:eU b):PE X (.Subscript a b pos) (tOp r ta tb):=by
 intro pins s σ H Q I h;exact Subscript_ (GT ha hb I h λv u s2 x y H2 I2 rx ry q=>hr a b pins s2 σ H2 x y v u Q I2 rx ry q (hs _ _))
def Aa(K:W.Frag):R2:=λx y H Q=>∃p xs i v,x=.ref p/\y=.int i/\SqL K H p xs/\atI xs i=some v/\Q v H
def AJ(K:W.Frag):R2:=λx y H Q=>∃p xs i v,x=.ref p/\y=.int i/\SqT K H p xs/\atI xs i=some v/\Q v H
def uQ:R2:=λx y H Q=>∃z i c,x=.str z/\y=.int i/\z.length<=sizeLine/\atI z.cps.toList i=some c/\Q (.str ⟨#[c]⟩) H
theorem A9:IxR X (Aa X.K):=by
 intro value slice pins s σ H x y v u Q I rx ry h hs;obtain⟨p,xs,i,z,rfl,rfl,hq,he,q⟩:=h;cases rx;obtain⟨t,rfl⟩:=ry;obtain⟨its,r,pl,hz⟩:=I.list hq;obtain⟨j,h1,h2,h3,h4,h5⟩:=eW he;obtain⟨w,ew,rw'⟩:=r.get h2;have hl:=r.length;have hn:=Y4;have fin:EP X pins σ Q w s:=⟨z,H,I,rw',q⟩
 by_cases h0:0<=i
 .have hj:i.toNat=j:=by
   rw[seqIndex_of h0 h5]at h1;exact Option.some.inj h1
  exact item_listR pl.isList h0 (by omega) (by rw[hj];simpa using ew) fin hs
 .have hj:(i+(its.toArray.size:Int)).toNat=j:=by
   rw[seqIndex_neg (by omega) h4]at h1;rw[size_toArray,<- hl];exact Option.some.inj h1
  exact subscriptTail_builtinR (x:=w) pl.isList.typeIs slot_list_getitem.lookup
   (wpAny_getItem_list_neg (Q:=λr s'=>r=w/\EP X pins σ Q r s') pl.isList (by omega) (by rw[size_toArray]<;>omega) (by omega) (by rw[hj];simpa using ew) ⟨rfl,fin⟩) hs
theorem FI:IxR X (AJ X.K):=by
 intro value slice pins s σ H x y v u Q I rx ry h hs;obtain⟨p,xs,i,z,rfl,rfl,hq,he,q⟩:=h;cases rx;obtain⟨t,rfl⟩:=ry;obtain⟨its,r,pl,hz⟩:=I.tuple hq;obtain⟨j,h1,h2,h3,h4,h5⟩:=eW he;obtain⟨w,ew,rw'⟩:=r.get h2;have hl:=r.length;have hn:=Y4;have fin:EP X pins σ Q w s:=⟨z,H,I,rw',q⟩
 exact subscriptTail_builtinR (x:=w) pl.typeIs slot_tuple_getitem.lookup
  (getItem_tuple (j:=j) (Q:=λr s'=>r=w/\EP X pins σ Q r s') pl (by omega) (by omega) (by rw[size_toArray,<- hl];exact h1) (by simpa using ew) ⟨rfl,fin⟩) hs
theorem jY:IxR X uQ:=by
 intro value slice pins s σ H x y v u Q I rx ry h hs;obtain⟨z,i,c,rfl,rfl,hz,he,q⟩:=h;obtain⟨t,rfl⟩:=rx;obtain⟨t',rfl⟩:=ry;obtain⟨j,h1,h2,h3,h4,h5⟩:=eW he;have hl:z.cps.toList.length=z.length:=by simp[Str.length]
 rw[hl]at h1 h4 h5;have hn:=Y4;exact tail_any (typeIs_str s z t) slot_str_getitem.lookup (getItem_str (c:=c) (by
  have e1:decide (i < -(2^63:Int))=false:=decide_eq_false (by omega);have e2:decide (i≥2^63)=false:=decide_eq_false (by omega);rw[e1,e2,Bool.or_false]) (by rw[h1];simpa using h2) ⟨.str ⟨#[c]⟩,H,I.tok _,⟨_,rfl⟩,q⟩) hs
variable{s:Shared}
theorem Inv.lst{pins:List (Addr×Obj)}{σ:St}{H:Hp}{p:Addr}{xs:List V}(I:Inv X pins σ H s)(h:H p=some (.lst xs)):
  ∃(its:List Value)(n:Nat),qP xs its/\s.heap.get? p=some { cls:=.type "list",data:=.seq its.toArray n }/\xs.length<=sizeLine:=by
 obtain⟨z,its,n,r,e⟩:=I.hok p _ h;exact⟨its,n,r,e,z⟩
theorem dR(lo hi:Option Int)(n:Nat):(sliceBounds lo hi none n).1=((HT.sIx n 0 lo:Nat):Int)/\(sliceBounds lo hi none n).2.1=((HT.sIx n n hi:Nat):Int)/\(sliceBounds lo hi none n).2.2=1:=by
 refine⟨?_,?_,rfl⟩
 .cases lo with
  |none=>simp[sliceBounds,HT.sIx]
  |some i=>
   simp only[sliceBounds,HT.sIx,Option.getD_none,show(1:Int)>0 by decide,if_true];by_cases h:i<0
   .simp only[h,if_true]<;>omega
   .simp only[h,if_false]<;>omega
 .cases hi with
  |none=>simp[sliceBounds,HT.sIx]
  |some i=>
   simp only[sliceBounds,HT.sIx,Option.getD_none,show(1:Int)>0 by decide,if_true];by_cases h:i<0
   .simp only[h,if_true]<;>omega
   .simp only[h,if_false]<;>omega
theorem WG(its:List Value)(lo hi:Option Int):slicePick its.toArray lo hi none=((its.drop (HT.sIx its.length 0 lo)).take (HT.sIx its.length its.length hi-HT.sIx its.length 0 lo)).toArray:=by
 obtain⟨h1,h2,h3⟩:=dR lo hi its.toArray.size;unfold slicePick;rw[h1,h2,h3];simp only[sliceRange_one,pick_run,size_toArray]<;>rfl
def Gq(K:W.Frag):V->Option Int->Option Int->Hp->VK->Prop:=λx lo hi H Q=>∃a xs,x=.ref a/\SqL K H a xs/\∀p,H p=none->Q (.ref p) (upd H p (.lst (iz xs lo hi)))
theorem Bl:SlR X (Gq X.K):=by
 intro pins s σ H x v vl vu lo hi sl Q I rx hs pl pu h;obtain⟨a,xs,rfl,hx,q⟩:=h;cases rx;obtain⟨its,r,ht,hz⟩:=I.list hx;have hlen:=r.length;refine⟨"list",_,slot_list_getitem.lookup,ht.isList.typeIs,?_⟩;refine wpAny_getItem_list_slice ht.isList hs pl pu .none (by simp) ?_ (by rw[size_toArray]<;>omega);rw[WG,<- hlen];refine⟨.ref s.heap.objs.size,_,I.laid (t':=s.toks) (o:=.lst (iz xs lo hi)) (λb ob q=>Heap.get?_push_of_some _ q) (le_refl _) ?_,rfl,q _ (I.hok.fresh (le_refl _))⟩;exact⟨Nat.le_trans (Ym xs lo hi) hz,_,0,(r.drop (HT.sIx xs.length 0 lo)).take (HT.sIx xs.length xs.length hi-HT.sIx xs.length 0 lo),Heap.get?_push_size _ rfl⟩
def Vs:V->Bool
 |.non=>true
 |.bl _=>true
 |.int _=>true
 |.str _=>true
 |_=>false
def eqV:V->V->Bool
 |.non,.non=>true
 |.bl a,.bl b=>a==b
 |.bl a,.int b=>(if a then 1 else 0)== b
 |.int a,.bl b=>a==(if b then 1 else 0)
 |.int a,.int b=>a==b
 |.str a,.str b=>a==b
 |_,_=>false
variable{x:V}
theorem FJ{A:Around}{y:V}{u v:Value}(ry:xX y u)(rx:xX x v)(fy:Vs y=true)(fx:Vs x=true):SeqAt.EqAt A s u v (eqV y x):=by
 cases y with
 |non=>
  cases ry;cases x with
  |non=>cases rx;exact SeqAt.EqAt.same _
  |bl b=>cases rx;exact SeqAt.EqAt.none_bool b
  |int b=>obtain⟨t,rfl⟩:=rx;exact SeqAt.EqAt.none_int b t
  |str b=>obtain⟨t,rfl⟩:=rx;exact SeqAt.EqAt.none_str b t
  |_=>exact absurd (show false=true from fx) Bool.false_ne_true
 |bl a=>
  cases ry;cases x with
  |non=>cases rx;exact SeqAt.EqAt.bool_none a
  |bl b=>cases rx;exact SeqAt.EqAt.bool_bool a b
  |int b=>obtain⟨t,rfl⟩:=rx;exact SeqAt.EqAt.bool_int a b t
  |str b=>obtain⟨t,rfl⟩:=rx;exact SeqAt.EqAt.bool_str a b t
  |_=>exact absurd (show false=true from fx) Bool.false_ne_true
 |int a=>
  obtain⟨t',rfl⟩:=ry;cases x with
  |non=>cases rx;exact SeqAt.EqAt.int_none a t'
  |bl b=>cases rx;exact SeqAt.EqAt.int_bool a t' b
  |int b=>obtain⟨t,rfl⟩:=rx;exact SeqAt.EqAt.int_int a t' b t
  |str b=>obtain⟨t,rfl⟩:=rx;exact SeqAt.EqAt.int_str a t' b t
  |_=>exact absurd (show false=true from fx) Bool.false_ne_true
 |str a=>
  obtain⟨t',rfl⟩:=ry;cases x with
  |non=>cases rx;exact SeqAt.EqAt.str_none a t'
  |bl b=>cases rx;exact SeqAt.EqAt.str_bool a t' b
  |int b=>obtain⟨t,rfl⟩:=rx;exact SeqAt.EqAt.str_int a t' b t
  |str b=>obtain⟨t,rfl⟩:=rx;exact SeqAt.EqAt.str_str a t' b t
  |_=>exact absurd (show false=true from fx) Bool.false_ne_true
 |_=>exact absurd (show false=true from fy) Bool.false_ne_true
def eqU(x:V)(u:Value):Bool:=match u with
 |.none=>eqV .non x
 |.bool b=>eqV (.bl b) x
 |.int i _=>eqV (.int i) x
 |.str z _=>eqV (.str z) x
 |_=>false
theorem AC{y:V}{u:Value}(r:xX y u)(f:Vs y=true):eqU x u=eqV y x:=by
 cases y with
 |non=>cases r;rfl
 |bl b=>cases r;rfl
 |int i=>obtain⟨t,rfl⟩:=r;rfl
 |str z=>obtain⟨t,rfl⟩:=r;rfl
 |_=>exact absurd (show false=true from f) Bool.false_ne_true
theorem VY{x:V}:∀{xs:List V}{us:List Value},qP xs us->xs.all Vs=true->us.any (eqU x)=xs.any λy=>eqV y x
 |_,_,.nil,_=>rfl
 |y::xs,u::us,.cons r t,f=>by
  rw[List.all_cons,Bool.and_eq_true]at f;rw[List.any_cons,List.any_cons,AC r f.1,VY t f.2]
theorem QB{A:Around}{s:Shared}{x:V}{v:Value}(rx:xX x v)(fx:Vs x=true):∀{xs:List V}{us:List Value},qP xs us->xs.all Vs=true->∀u∈us,SeqAt.EqAt A s u v (eqU x u)
 |_,_,.nil,_=>λu hu=>by cases hu
 |y::xs,u::us,.cons r t,f=>λu' hu=>by
  rw[List.all_cons,Bool.and_eq_true]at f;rcases List.mem_cons.mp hu with rfl|hu
  .rw[AC r f.1];exact FJ r rx f.1 fx
  .exact QB rx fx t f.2 u' hu
def inV(x:V)(xs:List V):Bool:=xs.any λy=>eqV y x
def rIn(K:W.Frag)(neg:Bool):R2:=λx y H Q=>∃p xs,y=.ref p/\(SqL K H p xs\/SqT K H p xs)/\Vs x=true/\xs.all Vs=true/\Q (.bl (if neg then !inV x xs else inV x xs)) H
theorem YW:OpR X (compareOp .In) (rIn X.K false):=by
 intro pins s σ H x y v u Q I rx ry h;obtain⟨p,xs,rfl,hq,fx,fs,q⟩:=h;cases ry;rcases hq with hq|hq
 .obtain⟨its,r,pl,hz⟩:=I.list hq;refine SeqAt.in_listAt (eqU x) pl.isList (λw hw=>QB rx fx r fs w (by simpa using hw)) ⟨.bl _,H,I,rfl,?_⟩;rw[show its.toArray.any (eqU x)=its.any (eqU x)by simp,VY r fs];exact q
 .obtain⟨its,r,pl,hz⟩:=I.tuple hq;refine SeqAt.in_tupleAt (eqU x) pl (λw hw=>QB rx fx r fs w (by simpa using hw)) ⟨.bl _,H,I,rfl,?_⟩;rw[show its.toArray.any (eqU x)=its.any (eqU x)by simp,VY r fs];exact q
theorem Xl:OpR X (compareOp .NotIn) (rIn X.K true):=by
 intro pins s σ H x y v u Q I rx ry h;obtain⟨p,xs,rfl,hq,fx,fs,q⟩:=h;cases ry;rcases hq with hq|hq
 .obtain⟨its,r,pl,hz⟩:=I.list hq;refine SeqAt.notIn_listAt (eqU x) pl.isList (λw hw=>QB rx fx r fs w (by simpa using hw)) ⟨.bl _,H,I,rfl,?_⟩;rw[show its.toArray.any (eqU x)=its.any (eqU x)by simp,VY r fs];exact q
 .obtain⟨its,r,pl,hz⟩:=I.tuple hq;refine SeqAt.notIn_tupleAt (eqU x) pl (λw hw=>QB rx fx r fs w (by simpa using hw)) ⟨.bl _,H,I,rfl,?_⟩;rw[show its.toArray.any (eqU x)=its.any (eqU x)by simp,VY r fs];exact q
theorem WU:xa X (.builtin "len") (λxs H Q=>∃p ys,xs=[.ref p]/\(SqL X.K H p ys\/SqT X.K H p ys)/\Q (.int ys.length) H):=by
 intro pins s σ H xs us Q I r h;obtain⟨p,ys,rfl,hq,q⟩:=h;obtain⟨u,rfl,rx⟩:=YK r;cases rx;have hn:=Y4;rcases hq with hq|hq
 .obtain⟨its,r',pl,hz⟩:=I.list hq;have hlen:=r'.length;exact Calls.call_len_list pl.isList (by simp only[size_toArray]<;>omega) ⟨.int ys.length,H,I.tok _,⟨s.toks+1,by rw[size_toArray,hlen]⟩,q⟩
 .obtain⟨its,r',pl,hz⟩:=I.tuple hq;have hlen:=r'.length;exact len_tuple pl (by simp only[size_toArray]<;>omega) ⟨.int ys.length,H,I.tok _,⟨s.toks+1,by rw[size_toArray,hlen]⟩,q⟩
theorem dj:xa X (.builtin "len") (λxs H Q=>∃z,xs=[.str z]/\z.length<=sizeLine/\Q (.int z.length) H):=by
 intro pins s σ H xs us Q I r h;obtain⟨z,rfl,hz,q⟩:=h;obtain⟨u,rfl,t,rfl⟩:=YK r;have hn:=Y4;exact len_str (by omega) ⟨.int z.length,H,I.tok _,⟨_,rfl⟩,q⟩
theorem cR:xa X (.type "list") (λxs H Q=>∃p ys,xs=[.ref p]/\(SqL X.K H p ys\/SqT X.K H p ys)/\∀l,H l=none->Q (.ref l) (upd H l (.lst ys))):=by
 intro pins s σ H xs us Q I r h;obtain⟨p,ys,rfl,hq,q⟩:=h;obtain⟨u,rfl,rx⟩:=YK r;cases rx;have fin:∀(its:List Value),qP ys its->ys.length<=sizeLine->∀(h':Heap)(c':Nat),(∀b o',s.heap.get? b=some o'->h'.get? b=some o') ->
   h'.get? s.heap.objs.size=some { cls:=.type "list",dict:=none,data:=.seq its.toArray c',slots:=#[] }->EP X pins σ Q (.ref s.heap.objs.size) { s with heap:=h' }:=λits r' hz h' c' kp e=>
  ⟨.ref s.heap.objs.size,_,I.laid (t':=s.toks) kp (le_refl _) (show x0 X.prog X.w _ h' _ (.lst ys)from⟨hz,its,c',r',e⟩),rfl,q _ (I.hok.fresh (le_refl _))⟩
 rcases hq with hq|hq
 .obtain⟨its,r',pl,hz⟩:=I.list hq;have hlen:=r'.length;obtain⟨o,ho,hc,n,hd⟩:=pl.isList;exact call_list_seq p (.inl rfl) ho hc hd (λh' c' kp e=>fin its r' hz h' c' kp e) (by simp only[size_toArray]<;>omega)
 .obtain⟨its,r',pl,hz⟩:=I.tuple hq;have hlen:=r'.length;obtain⟨o,ho,hc,n,hd⟩:=pl;exact call_list_seq p (.inr rfl) ho hc hd (λh' c' kp e=>fin its r' hz h' c' kp e) (by simp only[size_toArray]<;>omega)
def tyV(K:W.Frag)(T:String)(x:V)(H:Hp):Prop:=match x with
 |.str _=>T="str"
 |.int _=>T="int"
 |.ref p=>(T="list"/\∃xs,SqL K H p xs)\/(T="tuple"/\∃o,K.lookup p=some o/\o.cls=.type "tuple"/\o.dict=none) \/
   (T="dict"/\((∃kvs,H p=some (.dK kvs))\/∃kvs,H p=some (.dT kvs)))\/(T="set"/\∃S n,H p=some (.set S n))
 |_=>False
theorem t5{pins:List (Addr×Obj)}{σ:St}{H:Hp}{T:String}{v:Value}(I:Inv X pins σ H s)(r:xX x v)(ty:tyV X.K T x H):
  s.TypeIs v T/\∀a,v=.ref a->∃ob,s.heap.get? a=some ob/\ob.dict=none:=by
 cases x with
 |str z=>
  obtain⟨t,rfl⟩:=r;cases (show T="str" from ty);exact⟨typeIs_str s z t,λ_ e=>nomatch e⟩
 |int i=>
  obtain⟨t,rfl⟩:=r;cases (show T="int" from ty);exact⟨typeIs_int s i t,λ_ e=>nomatch e⟩
 |ref p=>
  cases r;rcases ty with⟨rfl,xs,hq⟩|⟨rfl,o,hk,hc,hd⟩|⟨rfl,hk⟩|⟨rfl,S,n,hk⟩
  .obtain⟨its,_,pl,_⟩:=I.list hq;refine⟨pl.isList.typeIs,λa e=>?_⟩;cases e;obtain⟨o,n,e,c,hd,_⟩:=pl;exact⟨o,e,hd⟩
  .refine⟨⟨o,I.kIn p o hk,hc⟩,λa e=>?_⟩;cases e;exact⟨o,I.kIn _ o hk,hd⟩
  .have z:∃o,s.heap.get? p=some o/\o.ExactDict:=by
    rcases hk with⟨kvs,hk⟩|⟨kvs,hk⟩
    .obtain⟨_,_,_,_,o,_,_,e,ex,_⟩:=I.hok p _ hk;exact⟨o,e,ex⟩
    .obtain⟨_,_,_,_,o,_,_,e,ex,_⟩:=I.hok p _ hk;exact⟨o,e,ex⟩
   obtain⟨o,e,ex⟩:=z;refine⟨⟨o,e,ex.1⟩,λa e2=>?_⟩;cases e2;exact⟨o,e,ex.2.1⟩
  .obtain⟨o,_,_,_,e,ex,_⟩:=I.hok p _ hk;refine⟨⟨o,e,ex.1⟩,λa e2=>?_⟩;cases e2;exact⟨o,e,ex.2.1⟩
 |_=>exact False.elim ty
def Hk(K:W.Frag)(T:String)(r:V->List V->Hp->VK->Prop)(to:TE):TE:=λσ H Q=>to σ H λx H1=>tyV K T x H1/\r x [] H1 Q
def tBM(K:W.Frag)(T:String)(r:V->List V->Hp->VK->Prop)(to:TE)(t:TA):TE:=λσ H Q=>to σ H λx H1=>tyV K T x H1/\t σ H1 λxs H2=>r x xs H2 Q
variable{o e:Expr}{es:List Expr}{to:TE}{t:TA}{name:Str}{apos cpos:Pos}{T id:String}{r:V ->List V ->Hp ->VK ->Prop}
theorem u8(pa:PlainAttrs T)(slot:Slot T name id)(hty:typeOf (.builtin id)=pure (.type "method_descriptor"))(hm:MtR X id r)(ho:PE X o to)
  (hbase:attributeBase o name X.env (eval o X.env)=eval o X.env:=by rfl) (hline:(apos.endLine==cpos.line)=true:=by rfl):PE X (.Call (.Attribute o name apos) [] [] cpos) (Hk X.K T r to):=by
 intro pins s σ H Q I h;refine wpAny_Call_method0_late hbase hline (thn (ho pins s σ H _ I h) λv s1 zq=>?_);obtain⟨x,H1,I1,r1,ty,q1⟩:=zq;obtain⟨h1,h2⟩:=t5 I1 r1 ty;exact⟨T,id,pa,slot,hty,h1,h2,Calls.callWith_builtin rfl (PySem.evalArgs_none (hm pins s1 σ H1 x [] v [] Q I1 r1 .nil q1))⟩
theorem HG (pa:PlainAttrs T) (slot:Slot T name id) (hty:typeOf (.builtin id)=pure (.type "method_descriptor")) (hm:MtR X id r) (ho:PE X o to) (ha:PA X (e::es) t)
  (hbase:attributeBase o name X.env (eval o X.env)=eval o X.env:=by rfl)
  (hfew:((backTo cpos (starEach (e::es) X.env)).all (fun x=>!x.1) && (backToKw cpos (keywordEach [] X.env)).all (fun x=>x.1.isSome)
   && decide ((e::es).length+([]:List Keyword).length+(if ([]:List Keyword).isEmpty then 0 else 1) < 30))=true:=by rfl)
  (hline:(apos.endLine == cpos.line)=true:=by rfl) (hs:starEach (e::es) X.env=(false,eval e X.env)::starEach es X.env:=by rfl) (hplain:(backTo cpos (starEach es X.env)).any (·.1)=false:=by rfl) :
  PE X (.Call (.Attribute o name apos) (e::es) [] cpos) (tBM X.K T r to t):=by
 intro pins s σ H Q I h
 refine wpAny_Call_method_late hbase hfew hline rfl (thn (ho pins s σ H _ I h) fun v s1 zq=>?_)
 obtain ⟨x,H1,I1,r1,ty,q1⟩:=zq
 obtain ⟨h1,h2⟩:=t5 I1 r1 ty
 refine ⟨T,id,pa,slot,hty,h1,h2,?_⟩
 have hA:=ha cpos pins s1 σ H1 _ I1 q1
 rw [hs] at hA ⊢
 refine Calls.callWith_builtin (by show (false || (backTo cpos (starEach es X.env)).any (·.1))=false;rw [hplain] <;> rfl) (Calls.evalArgs_plain ?_)
 exact thn hA fun us s2 ⟨vs,H2,I2,r2,q2⟩=>hm pins s2 σ H2 x vs v us Q I2 r1 r2 q2
end
def MtM(X:Cx)(id:String)(r:V->List V->Hp->VK->Prop):Prop:=
 ∀(pins:List (Addr×Obj))(s:Shared)(σ:St)(H:Hp)(x:V)(xs:List V)(v:Value)(us:List Value)(Q:VK),Inv X pins σ H s->xX x v->qP xs us->r x xs H Q ->
  wpAny (model X.prog X.w) X.A (call (.builtin id) (v::us)) (EP X pins σ Q) X.xe s
theorem qP.one:∀{x:V}{us:List Value},qP [x] us->∃u,us=[u]/\xX x u
 |_,_,.cons r .nil=>⟨_,rfl,r⟩
theorem qP.zero:∀{us:List Value},qP [] us->us=[]
 |_,.nil=>rfl
theorem qP.reverse{xs:List V}{us:List Value}(h:qP xs us):qP xs.reverse us.reverse:=by
 induction h with
 |nil=>exact .nil
 |cons r t ih=>rw[List.reverse_cons,List.reverse_cons];exact qP.append ih (.cons r .nil)
theorem qP.rep{xs:List V}{us:List Value}(h:qP xs us):∀k:Nat,qP (List.replicate k xs).flatten (List.replicate k us).flatten
 |0=>.nil
 |k+1=>by
  rw[List.replicate_succ,List.replicate_succ,List.flatten_cons,List.flatten_cons];exact qP.append h (qP.rep h k)
section
variable{X:Cx}{pins:List (Addr×Obj)}{σ:St}{H:Hp}{s:Shared}{l b:Addr}{xs ys zs:List V}
theorem Inv.lset{its its':List Value}{f:Array Value->Array Value}{t':Nat}(I:Inv X pins σ H s)(hH:H l=some (.lst xs))
  (e:s.heap.get? l=some { cls:=.type "list",data:=.seq its.toArray n }) (hf:f its.toArray=its'.toArray) (hv:qP ys its') (hz:ys.length<=sizeLine):
  Inv X pins σ (upd H l (.lst ys)) { s with heap:=s.heap.update l (Obj.mapSeq f),toks:=t' }:=by
 have q:=PySem.IsL.update e f;rw[hf]at q;refine I.write (x:=l) (e:=l) (by rw[hH];exact trivial) (.inl rfl) (λb' u hb hu=>(Heap.get?_update_other s.heap (Obj.mapSeq f) (Ne.symm hb)).trans hu) ⟨_,q⟩ ?_;exact⟨hz,its',_,hv,q⟩
theorem Inv.lnew{its:List Value}{t':Nat}(I:Inv X pins σ H s)(hv:qP ys its)(hz:ys.length<=sizeLine):
  Inv X pins σ (upd H s.heap.objs.size (.lst ys)) { s with heap:=s.heap.push { cls:=.type "list",data:=.seq its.toArray },toks:=t' }:=
 I.laid (λ_ _ q=>Heap.get?_push_of_some _ q) (le_refl _) ⟨hz,its,0,hv,Heap.get?_push_size _ rfl⟩
theorem Inv.fresh(I:Inv X pins σ H s):H s.heap.objs.size=none:=I.hok.fresh (le_refl _)
theorem Inv.lstM(I:Inv X pins σ H s)(hH:H l=some (.lst xs)):xs.length<=sizeLine/\∃(its:List Value)(n:Nat),qP xs its/\xs.length=its.length/\s.heap.get? l=some { cls:=.type "list",data:=.seq its.toArray n }:=by
 obtain⟨z,its,n,r,e⟩:=I.hok l _ hH;exact⟨z,its,n,r,r.length,e⟩
theorem tJ(h:n<=sizeLine):Builtin.List.listTooLong n=false:=by
 unfold Builtin.List.listTooLong;exact decide_eq_false (by omega)
end
section
variable{X:Cx}
def eX:V->List V->Hp->VK->Prop:=λx vs H Q=>∃l xs y,x=.ref l/\vs=[y]/\H l=some (.lst xs)/\xs.length<sizeLine/\Q .non (upd H l (.lst (xs++[y])))
theorem xE:MtM X "list.append" eX:=by
 intro pins s σ H x vs v us Q I rx rv h;obtain⟨l,xs,y,rfl,rfl,hH,hz,q⟩:=h;cases rx;obtain⟨u,rfl,ru⟩:=rv.one;obtain⟨z,its,n,r,hl,e⟩:=I.lstM hH;refine call_meets F.slot_list_append ⟨_,e,rfl⟩ F.entry_list_append (F.args_list_append_2 _ _) (PySem.list_append l its.toArray n u (by rw[size_toArray];omega)) ⟨e,?_⟩;refine⟨.non,_,I.lset (its':=its++[u]) hH e (by simp) (r.append (.cons ru .nil)) ?_,rfl,q⟩;rw[length_append,List.length_singleton];omega
def mX:V->List V->Hp->VK->Prop:=λx vs H Q=>∃l b xs zs,x=.ref l/\vs=[.ref b]/\H l=some (.lst xs)/\H b=some (.lst zs)/\xs.length+zs.length<=sizeLine/\Q .non (upd H l (.lst (xs++zs)))
theorem yd:MtM X "list.extend" mX:=by
 intro pins s σ H x vs v us Q I rx rv h;obtain⟨l,b,xs,zs,rfl,rfl,hH,hB,hz,q⟩:=h;cases rx;obtain⟨u,rfl,ru⟩:=rv.one;cases ru;obtain⟨z,its,n,r,hl,e⟩:=I.lstM hH;obtain⟨z2,its2,n2,r2,hl2,e2⟩:=I.lstM hB;have hsz:its.toArray.size+its2.toArray.size<=sizeLine:=by rw[size_toArray,size_toArray];omega
 have hlong:¬(!its.toArray.isEmpty&&Builtin.List.listTooLong (its.toArray.size+its2.toArray.size))=true:=by
  rw[tJ hsz,Bool.and_false];exact Bool.false_ne_true
 refine call_meets F.slot_list_extend ⟨_,e,rfl⟩ F.entry_list_extend (F.args_list_extend_2 _ _)
  (AutoSeq1.list_extend_list_list_0 l its.toArray n b its2.toArray n2 hlong (by rw[size_toArray];omega) (by omega)) ⟨e,e2,?_⟩
 refine⟨.non,_,I.lset (its':=its++its2) hH e (by simp) (r.append r2) ?_,rfl,q⟩;rw[length_append];omega
def gL:V->List V->Hp->VK->Prop:=λx vs H Q=>∃l xs,x=.ref l/\vs=[]/\H l=some (.lst xs)/\Q .non (upd H l (.lst xs.reverse))
theorem iL:MtM X "list.reverse" gL:=by
 intro pins s σ H x vs v us Q I rx rv h;obtain⟨l,xs,rfl,rfl,hH,q⟩:=h;cases rx;have hus:=rv.zero;subst hus;obtain⟨z,its,n,r,hl,e⟩:=I.lstM hH;refine call_meets F.slot_list_reverse ⟨_,e,rfl⟩ F.entry_list_reverse (F.args_list_reverse_1 _) (AutoSeq1.list_reverse_list_0 l its.toArray n (by rw[size_toArray];omega)) ⟨e,?_⟩;refine⟨.non,_,I.lset (its':=its.reverse) hH e (by simp) r.reverse ?_,rfl,q⟩;rw[List.length_reverse];omega
def oF:R2:=λx y H Q=>∃l b xs zs,x=.ref l/\y=.ref b/\H l=some (.lst xs)/\H b=some (.lst zs)/\xs.length+zs.length<=sizeLine/\∀p,H p=none->Q (.ref p) (upd H p (.lst (xs++zs)))
theorem xR:OpR X (binaryOp .Add) oF:=by
 intro pins s σ H x y v u Q I rx ry h;obtain⟨l,b,xs,zs,rfl,rfl,hH,hB,hz,q⟩:=h;cases rx;cases ry;obtain⟨z,its,n,r,hl,e⟩:=I.lstM hH;obtain⟨z2,its2,n2,r2,hl2,e2⟩:=I.lstM hB;refine PySem.P.add_list e e2 ?_ (by rw[size_toArray,size_toArray];omega);have ea:its.toArray++its2.toArray=(its++its2).toArray:=by simp
 rw[ea];exact⟨.ref _,_,I.lnew (t':=s.toks) (r.append r2) (by rw[length_append];omega),rfl,q _ I.fresh⟩
end
section
variable{prog:Program}{w:World}{A:Around}{E:Value ->Shared ->Prop}{s:Shared}
set_option maxRecDepth 100000 in
end
end L2
namespace Att
open PySem PySem.W PySem.Calls PyProof.Rows
theorem Yd{P:Params}{h:Heap}:∀(ns:List Int)(vs:List Value),WellAll P h vs (ns.map WData.int)->IntsAre vs ns:=by
 intro ns;induction ns with
 |nil=>
  intro vs w;rw[List.map_nil]at w;cases w;exact .nil
 |cons n ns ih=>
  intro vs w;rw[List.map_cons]at w;cases w with
  |cons a b=>
   cases a;exact .cons _ _ (ih _ b)
theorem mf{l:OpenLaw}{n:Nat}(hn:l.most=some n){P:Params}{h:Heap}{args:List WData}{vals:List Value}
  (hpre:l.row.toRowW.claim.pre args=true) (hwl:WellAll P h vals args):
  ∃a vs ns,vals=[Value.ref a]/\args=[WData.list (ns.map WData.int)]/\h.get? a=some { cls:=.type "list",data:=.seq vs.toArray }/\IntsAre vs ns/\ns.length<=n:=by
 have hsh:WShape.hasAll [] args [.list .int]=true:=(pre_splitW hpre).1;have hc:l.pre.holds [] { args:=args }=true:=(pre_splitW hpre).2;obtain⟨d,r,rfl,h1,h2⟩:=hasAllW_cons hsh;obtain rfl:=hasAllW_nil h2;obtain⟨xs,rfl,h3⟩:=hasW_list h1;obtain⟨ns,rfl⟩:=items_int h3;have hlen:ns.length<=n:=by
  unfold OpenLaw.pre at hc;have h4:(WTm.not (.lt (.lit (.int (n:Int))) (.len (.arg 0)))).holds [] { args:=[.list (ns.map .int)] }=true:=by
   have h4:=(holds_andW hc).1;rw[hn]at h4;exact h4
  have h5:=condW_of h4 (w_not (w_lt w_lit (w_len_list (w_arg rfl))));rw[List.length_map]at h5;refine Nat.le_of_not_lt λq=>?_;have q':(n:Int)<((ns.length:Nat):Int):=by omega
  first
   |(rw[decide_eq_true q']at h5;exact absurd h5 (by decide))
   |(simp at h5;omega)
 cases hwl with
 |cons w1 w2=>
  cases w2;cases w1 with
  |list ho hall=>exact⟨_,_,ns,rfl,rfl,ho,Yd ns _ hall,hlen⟩
theorem lT(l:OpenLaw)(args:List WData):l.row.toRowW.claim.post args (.bool true) args=true:=
 postW_of (r:=l.row.toRowW) (X:=(true==true))
  (show WShape.has [] (.bool true) .bool=true by first|rfl|decide|simp[WShape.has,WShape.arms,WShape.armsAll])
  (show(WTm.eq .res (.lit (.bool true))).value [] { args:=args,res:=some (.bool true),after:=args }=some (.bool (true==true))from w_eq_bool (w_res rfl) w_lit) rfl
theorem attach_call {l:OpenLaw} {n:Nat} {q:Program} {loose:List Str} {XP:(Str->Option Value)->Heap->Prop} {YP:World->Heap->Prop} {d:DefRec}
  (hn:l.most=some n) (hdf:d.params.defaults=[])
  (call : ∀ (w:World) (s₀ s₁:Shared) (mg mb:Str->Option Value) (fa:Addr) (o:Obj) (pm cd doc:Value) (a:Addr) (vs:List Value) (ns:List Int),
   Ground q loose [] XP w s₀ mg mb s₁.heap->YP w s₁.heap ->
   s₁.heap.get? fa=some o->o.data = .func (docDef d.name d.params d.body d.scope pm cd doc)->s₁.heap.CodeRec cd d.name->mg d.name=some (.ref fa) ->
   s₁.heap.get? a=some { cls:=.type "list", data:=.seq vs.toArray }->IntsAre vs ns->ns.length<=n->s₁.gens = #[] ->
   codeAny (model l.prog w) callerA (.call (.ref fa) ⟨[.ref a],[]⟩) (fun r s'=>r = .ok (.ret (.bool true))/\OldK s₁.heap s'.heap/\s'.os=s₁.os/\AllBare s'.gens) s₁) :
  WalkO q loose XP YP l.row.toRowW d [] (fun f vs=>PySem.call f vs):=by
 intro w s₀ s₁ mg mb G Y fa o pm cd doc dV kV ho hd hcd hD hmg hg args vals as hpre hlay hrd hwl hlo
 obtain rfl:dV = .none:=Dflts.none hD hdf
 obtain rfl:kV = .none:=Dflts.noKw hD
 obtain ⟨a,vs,ns,rfl,rfl,hobj,hints,hlen⟩:=mf hn hpre hwl
 refine enter_call (codeAny_mono (call w s₀ s₁ mg mb fa o pm cd doc a vs ns G Y ho (fd_plain hd) hcd hmg hobj hints hlen hg) fun r s' hq=>?_)
 obtain ⟨rfl,h2,h3,h4⟩:=hq
 exact ⟨.inl ⟨.bool true,.bool true,[],rfl,fun _=>rfl,.bool true,lT l _,fun _=>⟨List.Pairwise.nil,fun _ hm=>(nomatch hm)⟩⟩,h2,h3,h4⟩
end Att
namespace L2
open PySem PySem.Spec PyProof.Rows
open List (append_assoc drop_of_length_le drop_zero eq_nil_of_length_eq_zero find?_cons find?_toArray foldl_cons getD_eq_getElem?_getD getElem?_eq_getElem getElem?_map getElem_mem length_append length_cons length_drop length_map length_replicate length_reverse length_singleton length_take lookup_cons map_cons mem_append_left mem_append_right mem_cons reverse_reverse take_append_of_le_length take_length take_of_length_le)
open Nat (eq_zero_or_pos le_trans lt_irrefl lt_of_lt_of_le lt_or_ge mod_eq_of_lt ne_of_lt zero_le)
open Int (max_eq_right)
theorem aL:∀{vs:List Value}{ns:List Int},IntsAre vs ns->qP (ns.map V.int) vs
 |_,_,.nil=>.nil
 |_,_,.cons n t h=>.cons ⟨t,rfl⟩ (aL h)
def GO(H:Hp):Prop:=∀b,H b=none\/∃o xs,H b=some (.frz o (.lst xs))
variable{P:Program}{w:World}{K:W.Frag}{mg:Str->Option Value}{k:Nat}{a:Addr}{fd:FuncData}{x:Str}{sp:Sp}
theorem sV{mb:Str->Option Value}{CX:CXT}{fa:Addr}{s₁:Shared}{vs:List Value}{ns:List Int}
  (KX:K.In s₁.heap) (hns:s₁.heap.Ns mainGlobals mg) (hb:s₁.heap.Ns builtinsNs mb) (hbb:∀x:Str,x≠"__name__" ->mb x=bootBuiltins x) (hlim:s₁.heap.NoLimit) (hg:s₁.gens=#[])
  (ha:s₁.heap.get? a=some { cls:=.type "list",data:=.seq vs.toArray }) (hi:IntsAre vs ns) (hl:ns.length<=sizeLine) (hr:xP k callerA)
  (F:∀base:Heap,K.In base->base.Ns mainGlobals mg->yX P w K mg base CX k fa fd [x] sp) (hbind:∀(s:Shared)(u:Value),BindsTo s fd ⟨[u],[]⟩ [(x,u)])
  (hsp:∀H:Hp,GO H->SqL K H a (ns.map V.int)->sp [.ref a] H (λv _=>v=.bl true) λ_ _ _=>False)
  (hCX:∀H e s',CX [] H s₁ (λ_ _ _=>False) e s'->False):
  codeAny (model P w) callerA (.call (.ref fa) ⟨[.ref a],[]⟩) (λr s'=>r=.ok (.ret (.bool true))/\OldK s₁.heap s'.heap/\s'.os=s₁.os/\AllBare s'.gens) s₁:=by
 have rv:=aL hi;have lenV:=hi.length;have core:∀H:Hp,GO H->SqL K H a (ns.map V.int)->HOk P w H s₁.heap->(∀b,H b≠none->b=a)->(H a≠none->K.lookup a=none) ->
   codeAny (model P w) callerA (.call (.ref fa) ⟨[.ref a],[]⟩) (λr s'=>r=.ok (.ret (.bool true))/\OldK s₁.heap s'.heap/\s'.os=s₁.os/\AllBare s'.gens) s₁:=by
  intro H hO hS hok hA hK;have base_of:∀{b:Addr}{o:Obj},s₁.heap.get? b=some o->H b=none->(rQ s₁.heap H).get? b=some o:=λe n=>tS e n;have noA:∀{b:Addr}{o:Obj}{es:Array DictEntry}{ep:Nat},s₁.heap.get? b=some o->o.data=.dict es ep->H b=none:=λ{b o es ep}e d=>by
   cases q:H b with
   |none=>rfl
   |some u=>
    have e':b=a:=hA b (by rw[q];simp);subst e';rw[ha]at e;cases e;have d':Data.seq vs.toArray _=Data.dict es ep:=d;cases d'
  have nsK:∀{b:Addr}{m:Str->Option Value},s₁.heap.Ns b m->(rQ s₁.heap H).Ns b m:=λ{b m}⟨o,es,ep,e,d,r⟩=>⟨o,es,ep,base_of e (noA e d),d,r⟩
  have hKb:K.In (rQ s₁.heap H):=λb o e=>base_of (KX b o e) (by
   cases q:H b with
   |none=>rfl
   |some u=>
    have e':b=a:=hA b (by rw[q];simp);subst e';rw[hK (by rw[q];simp)]at e;cases e)
  have hM:Mod K mg (rQ s₁.heap H):=⟨hKb,nsK hns,⟨mb,nsK hb,hbb⟩,let⟨mc,h1,h2⟩:=hlim;⟨mc,nsK h1,h2⟩⟩
  have e0:ie P w K mg (rQ s₁.heap H) callerA [] s₁ H:=⟨rfl,hM,λb o e=>Bn e,Nat.le_of_eq (lV _ _),trivial,λb hb=>absurd (show b∈([]:List Addr)from hb) (by simp),hok,.of_eq hg⟩
  refine codeAny_mono ((F _ hKb (nsK hns)).run callerA [] s₁ H ⟨[.ref a],[]⟩ [.ref a] [.ref a] _ _ hr e0 (hbind s₁ (.ref a)) (.cons rfl .nil) (hsp H hO hS)) λr s' h=>?_;cases r with
  |error e=>exact(hCX H e s' h).elim
  |ok fl=>
   cases fl with
   |next=>exact False.elim h
   |brk=>exact False.elim h
   |cont=>exact False.elim h
   |ret u=>
    obtain⟨v,H',os,bare,un,hok',r',q⟩:=h;have q':v=.bl true:=q;subst q';obtain rfl:u=Value.bool true:=r';refine⟨rfl,OldK.of_keep λb o e=>?_,os,bare⟩;cases q:H b with
    |none=>exact un.keep b o e q (by intro z;exact absurd (show b∈([]:List Addr)from z) (by simp)) (by simp)
    |some u=>
     rcases hO b with z|⟨ob,xs,z⟩
     .rw[q]at z;cases z
     .have z2:=un.frzs b ob _ z;obtain⟨e1,_⟩:=hok b _ z;obtain⟨e2,_⟩:=hok' b _ z2;rw[e]at e1;cases e1;exact e2
 cases hk:K.lookup a with
 |some o=>
  have e:=KX a o hk;rw[ha]at e;cases e;refine core (λ_=>none) (λ_=>.inl rfl) (.inr ⟨_,vs.toArray,_,hk,rfl,rfl,rfl,by rw[List.size_toArray,lenV];exact hl,by simpa using rv⟩) (λb u z=>by have z':(none:Option HO)=some u:=z;cases z') (λb z=>absurd rfl z) λz=>absurd rfl z
 |none=>
  refine core (λb=>if b=a then some (.frz { cls:=.type "list",data:=.seq vs.toArray } (.lst (ns.map V.int)))else none) (λb=>?_) (.inl (.inr ⟨{ cls:=.type "list",data:=.seq vs.toArray },if_pos rfl⟩)) (λb u z=>?_) (λb z=>?_) λ_=>hk
  .by_cases hb:b=a
   .exact .inr ⟨_,_,if_pos hb⟩
   .exact .inl (if_neg hb)
  .by_cases hb:b=a
   .have z':=(if_pos hb).symm.trans z;cases z';subst hb;exact⟨ha,by rw[length_map];exact hl,vs,_,rv,ha⟩
   .have z':=(if_neg hb).symm.trans z;cases z'
  .by_cases hb:b=a
   .exact hb
   .exact absurd (if_neg hb) z
variable{n:Nat}
theorem walk_of {l:W.OpenLaw} {q:Program} {loose:List Str} {XP:(Str->Option Value)->Heap->Prop} {YP:World->Heap->Prop} {d:DefRec} {K:Params->W.Frag} {CX:World->CXT} {sp:World->Sp}
  (hn:l.most=some n) (hn2:n<=sizeLine) (hdf:d.params.defaults=[]) (hr:xP k callerA)
  (hY : ∀ (w:World) (h:Heap),YP w h->(K w.params).In h)
  (F : ∀ (w:World) (mg:Str->Option Value) (fa:Addr) (h:Heap),(K w.params).In h->h.Ns mainGlobals mg->mg d.name=some (.ref fa) ->
   ∃ fd:FuncData,(∀ (s:Shared) (u:Value),BindsTo s fd ⟨[u],[]⟩ [(x,u)]) /\
    ∀ base:Heap,(K w.params).In base->base.Ns mainGlobals mg->yX l.prog w (K w.params) mg base (CX w) k fa fd [x] (sp w))
  (hsp : ∀ (w:World) (H:Hp) (a:Addr) (ns:List Int),ns.length<=n->GO H->SqL (K w.params) H a (ns.map V.int)->sp w [.ref a] H (fun v _=>v = .bl true) fun _ _ _=>False)
  (hCX : ∀ (w:World) (H:Hp) (s:Shared) (e:Value) (s':Shared),CX w [] H s (fun _ _ _=>False) e s'->False) :
  W.WalkO q loose XP YP l.row.toRowW d [] (fun f vs=>PySem.call f vs):=by
 refine Att.attach_call hn hdf fun w s₀ s₁ mg mb fa o pm cd doc a vs ns G Y ho hd hcd hmg hobj hints hlen hg=>?_
 have KX:=hY w _ Y
 obtain ⟨fd,hb,hF⟩:=F w mg fa _ KX G.T.g hmg
 exact sV KX G.T.g G.T.b G.T.builtins G.T.nolimit hg hobj hints (le_trans hlen hn2) hr hF hb (fun H hO hS=>hsp w H a ns hlen hO hS) fun H e s'=>hCX w H s₁ e s'
def zy(s:Stmt)(j:Nat):Stmt:=match s with
 |.ClassDef _ _ _ body _ _ _ _ _ _ _=>body.getD j (.Pass ⟨0,0,0,0⟩)
 |_=>.Pass ⟨0,0,0,0⟩
def qM(s:Stmt):Arguments:=match s with
 |.FunctionDef _ a _ _ _ _ _ _ _ _=>a
 |_=>{ posonlyargs:=[],args:=[],vararg:=none,kwonlyargs:=[],kw_defaults:=[],kwarg:=none,defaults:=[] }
def zp(s:Stmt):List Stmt:=match s with
 |.FunctionDef _ _ b _ _ _ _ _ _ _=>b
 |_=>[]
def zC(s:Stmt):Scope:=match s with
 |.FunctionDef _ _ _ _ _ _ sc _ _ _=>sc
 |_=>{ kind:=.function,names:=[],isGenerator:=false,isCoroutine:=false }
abbrev CX0:CXT:=λ_ _ _ _ _ _=>False
abbrev E0:XK:=λ_ _ _=>False
variable{X:Cx}
theorem zd:xU CX0 X E0:=λ_ _ _ _ _ _ _ h=>h.elim
structure Fun(K:W.Frag)(x qual:Str)(st:Stmt)(f:Addr)(fd:FuncData):Prop where
 ex:∃(oc:Value)(od:Option Addr)(kV doc pm:Value)(an:Option Addr)(cdv ct:Value)(osl:Array (Option Value)),
  fd=W.fnOf x qual (qM st) (zp st) (zC st) .none kV doc pm an cdv ct/\K.lookup f=some ⟨oc,od,.func fd,osl⟩/\W.codeIn K cdv qual=true
 kp:W.keepIn K (.ref f)=true
section
variable{P:Program}{w:World}{K:W.Frag}{mg:Str ->Option Value}{base:Heap}
variable{qual:Str}{st:Stmt}{f:Addr}
theorem Fun.ok {N ps:List Str} (F:Fun K x qual st f fd) (S:zI N ps (zC st)) (len : ∀ vs H Q E,sp vs H Q E->vs.length=ps.length)
  (hbody : ∀ (cdv:Value) (A:Around) (outer:List Env) (s:Shared) (H:Hp) (vs:List V) (Q:VK) (E:XK),xP k (A.deeper (envOfC qual (zC st) s.heap.objs.size f cdv))->sp vs H Q E ->
   ∃ t,PSs (Ze CX0 P w K mg base N qual (zC st) f cdv A outer s H E).nox (zp st) t/\t { nx:=fun _ H'=>Q .non H',rt:=Q } (start N vs) H):yX P w K mg base CX0 (k+1) f fd ps sp:=by
 obtain ⟨oc,od,kV,doc,pm,an,cdv,ct,osl,rfl,lk,hcd⟩:=F.ex
 refine iV lk hcd S len fun A outer s H vs Q E hr hsp=>?_
 obtain ⟨t,h,q⟩:=hbody cdv A outer s H vs Q E hr hsp
 exact ⟨t,h.nox,q⟩
theorem Fun.binds{ps:List Str}(F:Fun K x qual st f fd)
  (h:∀(kV doc pm:Value)(an:Option Addr)(cdv ct:Value)(us:List Value),us.length=ps.length->bindArgs (W.fnOf x qual (qM st) (zp st) (zC st) .none kV doc pm an cdv ct) ⟨us,[]⟩=pure (ps.zip us)):xz K fd ps []:=by
 obtain⟨oc,od,kV,doc,pm,an,cdv,ct,osl,rfl,lk,hcd⟩:=F.ex;exact .all (h kV doc pm an cdv ct)
theorem mB{oc:Value}{od an:Option Addr}{osl:Array (Option Value)}{kV doc pm cdv ct:Value}(l:K.lookup f=some ⟨oc,od,.func (W.fnOf x qual (qM st) (zp st) (zC st) .none kV doc pm an cdv ct),osl⟩)
  (c:W.codeIn K cdv qual=true) (k:W.keepIn K (.ref f)=true):Fun K x qual st f (W.fnOf x qual (qM st) (zp st) (zC st) .none kV doc pm an cdv ct):=⟨⟨oc,od,kV,doc,pm,an,cdv,ct,osl,rfl,l,c⟩,k⟩
end
theorem qu(h:n<=1000):n<sizeLine:=Nat.lt_of_le_of_lt h (by decide)
section
variable{X:Cx}
theorem pv(i:Nat){pos:Pos}(hN:X.N[i]?=some x:=by rfl)(hv:Vis X.env.scope x:=by first|exact Or.inl rfl|exact Or.inr (Or.inl rfl)|exact Or.inr (Or.inr rfl))(hd:Nd x:=by decide)
  (hcd:(x==("__classdict__":Str))=false:=by decide):PE X (.Name x pos) (Ey i):=FA hN hv hd hcd
end
variable{A B:Prop}
theorem IR(h:B):if false=true then A else B:=by
 rw[if_neg Bool.false_ne_true];exact h
theorem II(h:A):if true=true then A else B:=by
 rw[if_pos rfl];exact h
def zR(H H':Hp):Prop:=∀b o,H b=some o->H' b=some o
theorem zR.refl(H:Hp):zR H H:=λ_ _ h=>h
variable{H:Hp}
theorem zR.trans{H1 H2:Hp}(a:zR H H1)(b:zR H1 H2):zR H H2:=λc o h=>b c o (a c o h)
variable{H':Hp}{l:Addr}
theorem zR.free(e:zR H H')(h:H' l=Option.none):H l=Option.none:=by
 cases q:H l with
 |none=>rfl
 |some o=>
  rw[e l o q]at h;cases h
variable{xs:List V}
theorem zR.seq(e:zR H H')(h:SqL K H a xs):SqL K H' a xs:=by
 rcases h with(h|⟨o,h⟩)|h
 .exact .inl (.inl (e _ _ h))
 .exact .inl (.inr ⟨o,e _ _ h⟩)
 .exact .inr h
set_option maxHeartbeats 4000000
abbrev GL:Int:=100000000000000000000000000000000000000000000000000000000000000000000000000000000000000000000000000000000000000000000000000000000000000000000000000000000000000000000000000000000000000000000000000000000
theorem md{k:Int}(h1:-GL<k)(h2:k<GL):Builtin.Int.intBits k<=1000:=by
 unfold Builtin.Int.intBits;split
 .exact zero_le _
 .have hn:k.natAbs<100000000000000000000000000000000000000000000000000000000000000000000000000000000000000000000000000000000000000000000000000000000000000000000000000000000000000000000000000000000000000000000000000000000:=by
   unfold GL at h1 h2;omega
  have hp:(100000000000000000000000000000000000000000000000000000000000000000000000000000000000000000000000000000000000000000000000000000000000000000000000000000000000000000000000000000000000000000000000000000000:Nat)<=2^999:=by right
  have:k.natAbs.log2<999:=by
   rcases eq_zero_or_pos k.natAbs with h0|hp'
   .rw[h0];decide
   .exact(Nat.log2_lt (Nat.ne_of_gt hp')).mpr (lt_of_lt_of_le hn hp)
  omega
def nG(i j:Int):Prop:=(-GL<i/\i<GL)/\(-GL<j/\j<GL)
variable{i j:Int}
theorem nG.ok(h:nG i j):IntMulOk i j:=PySem.IntMulOk.of_le (md h.1.1 h.1.2) (md h.2.1 h.2.2) (by decide)
def Em(i j:Int):Prop:=Fo i j\/nG i j
def Fh(i j:Int):Prop:=0<j/\j<GL
def HH(i j:Int):Prop:=j≠0/\-GL<j/\j<GL
theorem IH(h1:-GL<j)(h2:j<GL):Builtin.divisionGoesByPylong i j=false:=by
 refine PyProof.noPylong_of_log2 ?_;have hn:j.natAbs<100000000000000000000000000000000000000000000000000000000000000000000000000000000000000000000000000000000000000000000000000000000000000000000000000000000000000000000000000000000000000000000000000000000:=by
  unfold GL at h1 h2;omega
 have hp:(100000000000000000000000000000000000000000000000000000000000000000000000000000000000000000000000000000000000000000000000000000000000000000000000000000000000000000000000000000000000000000000000000000000:Nat)<=2^999:=by right
 have:j.natAbs.log2<999:=by
  rcases eq_zero_or_pos j.natAbs with h0|hp'
  .rw[h0];decide
  .exact(Nat.log2_lt (Nat.ne_of_gt hp')).mpr (lt_of_lt_of_le hn hp)
 omega
section
variable{X:Cx}{a b:Expr}{ta tb:TE}{pos:Pos}
theorem qt:OpR X (binaryOp .Mult) (rI Em λi j=>.int (i*j)):=opI λ_ _ _ _ _ _ _ hc q=>mul_int q (hc.elim Fo.ok nG.ok)
theorem qG:OpR X (binaryOp .FloorDiv) (rI Fh λi j=>.int (i/j)):=opI λi j _ _ _ _ _ hc q=>by
 have h1:(0:Int)<j:=hc.1;have h2:=hc.2;exact floordiv_int (by omega) (by rw[Int.fdiv_eq_ediv_of_nonneg i (by omega)];exact q) (.inl (IH (by unfold GL;omega) h2))
theorem du{k:Int}{n1 n2:Nat}{p1 p2:Pos}(hc:E3 i j)(e:i^j.toNat=k):PE X (.BinOp (.Constant (.int i) n1 p1) .Pow (.Constant (.int j) n2 p2) pos) (tC (.int k)):=by
 intro pins s σ H Q I h;refine zU De zK zK pins s σ H Q I ⟨i,j,rfl,rfl,hc,?_⟩;show Q (.int (i^j.toNat)) H;rw[e];exact h
def DD:V->Value
 |.ty T=>.type T
 |.ref C=>.ref C
 |_=>.none
def C6(K:W.Frag):List V->Hp->VK->Prop:=λxs H Q=>∃x c t b,xs=[x,c]/\fJ K H x t/\(∃T,c=.ty T\/∃C,c=.ref C)/\W.kitOne K t (DD c)=some b/\Q (.bl b) H
theorem yC:xa X (.builtin "isinstance") (C6 X.K):=by
 intro pins s σ H xs us Q I r h;obtain⟨x,c,t,b,rfl,ty,hc,e,q⟩:=h;obtain⟨v,w,rfl,rx,rw'⟩:=nz r;have:w=DD c:=by
  obtain⟨T,rfl|⟨C,rfl⟩⟩:=hc
  .exact rw'
  .exact rw'
 subst this;exact lH I rx ty e λtk=>⟨.bl b,H,I.tok _,rfl,q⟩
theorem qP.getD:∀{xs:List V}{us:List Value}(j:Nat)(h:j<us.length),qP xs us->xX (xs.getD j .non) us[j]
 |_,_,j,h,.nil=>absurd h (Nat.not_lt_zero _)
 |_,_,0,_,.cons r _=>r
 |_,_,j+1,h,.cons _ t=>qP.getD j (Nat.lt_of_succ_lt_succ h) t
end
def Has(P:Program)(w:World)(K:W.Frag)(mg:Str->Option Value)(base:Heap)(x:Str)(k:Nat)(ps:List Str)(sp:Sp):Prop:=
 ∃(f:Addr)(fd:FuncData),yX P w K mg base CX0 k f fd ps sp/\mg x=some (.ref f)/\W.keepIn K (.ref f)=true/\xz K fd ps []
variable{ps:List Str}{p pos:Pos}{es:List Expr}{t:TA}
theorem tT{e:Expr}(F:Has X.prog X.w X.K X.mg X.base x k ps sp)(hr:xP n X.A)(hg:Gl X x)(ha:PA X (e::es) t)(hk:k<=n:=by decide)
  (hdb:Nd x:=by decide) (he:starEach (e::es) X.env=(false,eval e X.env)::starEach es X.env:=by rfl) (hpl:(backTo pos (starEach es X.env)).any (·.1)=false:=by rfl):
  PE X (.Call (.Name x p) (e::es) [] pos) (JU sp [] E0 t):=by
 obtain⟨f,fd,G,hm,kp,hb⟩:=F;exact By G (hr.mono hk) hg hm kp hb .nil zd ha hdb he hpl
theorem zL{id:String}{e:Expr}{r:List V->Hp->VK->Prop}(hc:xa X (.builtin id) r)(hm:X.mg x=none)(hg:Gl X x)(hv:bootBuiltins x=some (.builtin id))(ha:PA X (e::es) t)(hn:x≠"__name__":=by decide)(hdb:Nd x:=by decide)
  (he:starEach (e::es) X.env=(false,eval e X.env)::starEach es X.env:=by rfl) (hpl:(backTo pos (starEach es X.env)).any (·.1)=false:=by rfl):PE X (.Call (.Name x p) (e::es) [] pos) (tCB r t):=
 rM hc hg hm hv ha hn hdb he hpl
theorem qz{p:Addr}(h:H p=none)(o:HO):zR H (upd H p o):=λb u q=>by rw[zu (qI q h)];exact q
variable{o:HO}
theorem zR.at(g:zR H H'){b:Addr}(h:H b=some o):H' b=some o:=g b o h
theorem qU(h:n<=1000):n<=sizeLine:=Nat.le_of_lt (qu h)
section
variable{σ:St}{H:Hp}{Q:VK}{D:Z0}{K:W.Frag}
variable{v:V}
theorem BL{i:Nat}(e:σ[i]?=some (some v))(h:Q v H):Ey i σ H Q:=⟨v,e,h⟩
theorem r_c(h:Q v H):tC v σ H Q:=h
variable{ta tb:TE}
theorem Ho{r:R2}(h:ta σ H λx H1=>tb σ H1 λy H2=>r x y H2 Q):tOp r ta tb σ H Q:=h
theorem IG{r:V->Hp->VK->Prop}(h:ta σ H λx H1=>r x H1 Q):tUn r ta σ H Q:=h
theorem r_I{C:Int->Int->Prop}{g:Int->Int->V}(hc:C i j)(h:Q (g i j) H):rI C g (.int i) (.int j) H Q:=⟨i,j,rfl,rfl,hc,h⟩
theorem Ht{g:Int->Int->V}(h:Q (g i j) H):rI0 g (.int i) (.int j) H Q:=⟨i,j,rfl,rfl,h⟩
theorem r_U{g:Int->V}(h:Q (g i) H):rU g (.int i) H Q:=⟨i,rfl,h⟩
theorem GR(h:Q (.bl (decide (i=j))) H):rEq (.int i) (.int j) H Q:=⟨rfl,by rw[show decide (V.int i=V.int j)=decide (i=j)by by_cases e:i=j<;>simp[e]];exact h⟩
theorem Gy(h:Q (.bl (!decide (i=j))) H):rNe (.int i) (.int j) H Q:=⟨rfl,by rw[show decide (V.int i=V.int j)=decide (i=j)by by_cases e:i=j<;>simp[e]];exact h⟩
variable{b:Bool}
theorem gx{y:Str}(e:decide (x=y)=b)(h:Q (.bl b) H):rEq (.str x) (.str y) H Q:=⟨rfl,by rw[show decide (V.str x=V.str y)=decide (x=y)by by_cases e:x=y<;>simp[e],e];exact h⟩
variable{R:Bool->Hp->Prop}
theorem EC{t:TE}(h:t σ H λx H'=>∃k,x=.bl k/\R k H'):dy t σ H R:=h
theorem IU{t:TE}(h:t σ H λx H'=>∃k,x=.bl k/\R k H'):tB t σ H R:=h
theorem uR{R:Bool->Prop}(h:R b):∃k,V.bl b=.bl k/\R k:=⟨b,rfl,h⟩
theorem GM{t u:TT}(h:t σ H λc H1=>if c=true then u σ H1 R else R false H1):HZ t u σ H R:=h
theorem IW{t u:TT}(h:t σ H λc H1=>if c=true then R true H1 else u σ H1 R):tOr t u σ H R:=h
theorem GS{t:TT}(h:t σ H λc H1=>R (!c) H1):Hj t σ H R:=h
theorem FZ(h:ta σ H λx H1=>∃c,x=.bl c/\if c=true then tb σ H1 Q else Q (.bl false) H1):DQ ta tb σ H Q:=h
theorem GK(h:ta σ H λx H1=>∃c,x=.bl c/\if c=true then Q (.bl true) H1 else tb σ H1 Q):HY ta tb σ H Q:=h
theorem FG(h:ta σ H λx H1=>∃c,x=.bl c/\Q (.bl (!c)) H1):Fk ta σ H Q:=h
theorem Gg{t:TT}(h:t σ H λc H1=>if c=true then ta σ H1 Q else tb σ H1 Q):tIf t ta tb σ H Q:=h
theorem BQ{r r':R2}{tc:TE}(h:ta σ H λx H1=>tb σ H1 λy H2=>r x y H2 λz H3=>∃k,z=.bl k/\(if k=true then tc σ H3 λw' H4=>r' y w' H4 Q else Q (.bl false) H3)):pJ r r' ta tb tc σ H Q:=h
theorem fF{t u:TS}(h:t { D with nx:=u D } σ H):xM t u D σ H:=h
theorem AD(h:D.nx σ H):E9 D σ H:=h
variable{te:TE}
theorem rz{g:TG}(h:te σ H λx H1=>g x σ H1 D.nx):Bh te g D σ H:=h
theorem me{i:Nat}{R:St->Hp->Prop}(h:R (σ.set i (some v)) H):WR i v σ H R:=h
theorem ET(h:te σ H D.rt):HP te D σ H:=h
theorem FT(h:te σ H λ_ H1=>D.nx σ H1):DI te D σ H:=h
theorem Gi{c:TT}{t u:TS}(h:c σ H λb H1=>if b=true then t D σ H1 else u D σ H1):Fv c t u D σ H:=h
theorem pP{R:List V->Hp->Prop}(h:R [] H):WK σ H R:=h
theorem EZ{tr:TA}{R:List V->Hp->Prop}(h:ta σ H λx H1=>tr σ H1 λxs H2=>R (x::xs) H2):jJ ta tr σ H R:=h
theorem Ac{dvs:List V}{E:XK}(h:t σ H λvs H1=>sp (vs++dvs) H1 Q E):JU sp dvs E t σ H Q:=h
theorem Hc{r:List V->Hp->VK->Prop}(h:t σ H λvs H1=>r vs H1 Q):tCB r t σ H Q:=h
def Hi(Q:VK)(xs:List V)(H:Hp):Prop:=xs.length<=sizeLine/\∀p,H p=none->Q (.ref p) (upd H p (.tup xs))
def F9(Q:VK)(xs:List V)(H:Hp):Prop:=xs.length<=sizeLine/\∀p,H p=none->Q (.ref p) (upd H p (.lst xs))
theorem Dl(h:t σ H (Hi Q)):He t σ H Q:=h
theorem oa(h:t σ H (F9 Q)):HV t σ H Q:=h
theorem EB(hz:xs.length<=sizeLine)(h:∀p H',zR H H'->H' p=some (.tup xs)->Q (.ref p) H'):Hi Q xs H:=⟨hz,λp hp=>h p _ (qz hp _) zO⟩
theorem mw(hz:xs.length<=sizeLine)(h:∀p H',zR H H'->H' p=some (.lst xs)->Q (.ref p) H'):F9 Q xs H:=⟨hz,λp hp=>h p _ (qz hp _) zO⟩
theorem Q4{p:Addr}(h:H p=some (.tup xs))(e:atI xs i=some v)(q:Q v H):AJ K (.ref p) (.int i) H Q:=⟨p,xs,i,v,rfl,rfl,SqT.of h,e,q⟩
theorem iX{p:Addr}(h:SqL K H p xs)(e:atI xs i=some v)(q:Q v H):Aa K (.ref p) (.int i) H Q:=⟨p,xs,i,v,rfl,rfl,h,e,q⟩
theorem JN{x c:V}{t:Value}(ty:fJ K H x t)(hc:∃T,c=.ty T\/∃C,c=.ref C)(e:W.kitOne K t (DD c)=some b)(q:Q (.bl b) H):C6 K [x,c] H Q:=⟨x,c,t,b,rfl,ty,hc,e,q⟩
end
def Hy(_ j:Int):Prop:=0<j
def CNn(_ j:Int):Prop:=0<=j
def CNz(_ j:Int):Prop:=j≠0
theorem z9:OpR X (binaryOp .Mod) (rI Hy λi j=>.int (i%j)):=Dy
theorem Kv:OpR X (binaryOp .RShift) (rI CNn λi j=>.int (i/2^j.toNat)):=FC
section
variable{σ:St}{H:Hp}{Q:VK}{D:Z0}{K:W.Frag}
theorem GV{i j:Nat}{ta:TA}(h:ta σ H λvs H1=>∃v w,vs=[v,w]/\D.nx ((σ.set i (some v)).set j (some w)) H1):Hq i j ta D σ H:=h
theorem Gn{v w:V}{R:V->V->Prop}(h:R v w):∃v' w',[v,w]=[v',w']/\R v' w':=⟨v,w,rfl,h⟩
variable{tb:TS}
theorem Gs{W:Nat->St->Hp->Prop}{m:Nat}(h:tb { D with nx:=λσ' H'=>∃m',m'<m/\W m' σ' H',ct:=λσ' H'=>∃m',m'<m/\W m' σ' H',bk:=D.nx } σ H):
  ∃N:St->Hp->Prop,(∀σ' H',N σ' H'->∃m',m'<m/\W m' σ' H')/\tb { D with nx:=N,ct:=N,bk:=D.nx } σ H:=⟨_,λ_ _ h=>h,h⟩
theorem VQ{c:TT}(W:Nat->St->Hp->Prop)(h0:∃m,W m σ H)(hs:∀m σ H,W m σ H->c σ H λb H1=>if b=true then ∃N:St->Hp->Prop,(∀σ' H',N σ' H'->∃m',m'<m/\W m' σ' H')/\tb { D with nx:=N,ct:=N,bk:=D.nx } σ H1 else D.nx σ H1):u5 c tb D σ H:=⟨W,h0,hs⟩
def FN(K:PySem.W.Frag)(g:TG)(tb:TS)(D:Z0)(σ:St)(x:V)(H:Hp):Prop:=∃a,x=.ref a/\(∃xs,SqL K H a xs)/\∃W:Nat->Nat->St->Hp->Prop,(∃m,W 0 m σ H)/\∀i m σ H,W i m σ H ->
 ((Itl K a).stop i H/\D.nx σ H)\/((Itl K a).go i H/\∃N:St->Hp->Prop,(∀σ' H',N σ' H'->∃m',m'<m/\W (i+1) m' σ' H')/\∀x H',(Itl K a).yld i H x H'->g x σ H' λσ2 H2=>tb { D with nx:=N,ct:=N,bk:=D.nx } σ2 H2)
variable{g:TG}
theorem D8{tl:TE}(h:tl σ H (FN K g tb D σ)):C5 (sI K tl) g tb D σ H:=h
theorem ls(hx:SqL K H a xs)(Pv:Nat->St->Hp->Prop)(h0:Pv 0 σ H)(hl:∀i σ H,i<=xs.length->Pv i σ H->SqL K H a xs)
  (hs:∀i x σ H,xs[i]?=some x->Pv i σ H->g x σ H λσ2 H2=>tb { D with nx:=Pv (i+1),ct:=Pv (i+1),bk:=D.nx } σ2 H2) (hd:∀σ H,Pv xs.length σ H->D.nx σ H):FN K g tb D σ (.ref a) H:=⟨a,rfl,⟨xs,hx⟩,rn Pv h0 hl hs hd⟩
def E2(g:TG)(tb:TS)(D:Z0)(σ:St)(vs:List V)(H:Hp):Prop:=∃j:Int,vs=[.int j]/\-(2^62)<=j/\j<2^62/\∃W:Nat->Nat->St->Hp->Prop,(∃m,W 0 m σ H)/\∀i m σ H,W i m σ H ->
 ((Itr 0 j.toNat).stop i H/\D.nx σ H)\/((Itr 0 j.toNat).go i H/\∃N:St->Hp->Prop,(∀σ' H',N σ' H'->∃m',m'<m/\W (i+1) m' σ' H')/\∀x H',(Itr 0 j.toNat).yld i H x H'->g x σ H' λσ2 H2=>tb { D with nx:=N,ct:=N,bk:=D.nx } σ2 H2)
theorem EG{ta:TA}(h:ta σ H (E2 g tb D σ)):C5 (BX ta) g tb D σ H:=h
theorem Ql(h1:-(2^62)<=j)(h2:j<2^62)(Pv:Nat->St->Hp->Prop)(h0:Pv 0 σ H)
  (hs:∀i σ H,i<j.toNat->Pv i σ H->g (.int (0+i)) σ H λσ2 H2=>tb { D with nx:=Pv (i+1),ct:=Pv (i+1),bk:=D.nx } σ2 H2) (hd:∀σ H,Pv j.toNat σ H->D.nx σ H):E2 g tb D σ [.int j] H:=⟨j,rfl,h1,h2,aR Pv h0 hs hd⟩
variable{R:St->Hp->Prop}
theorem Ec{t:TGs}(h:H a=some (.tup xs))(hn:xs.length=n)(k:t xs σ H R):Gr K n t (.ref a) σ H R:=⟨a,xs,rfl,SqT.of h,hn,k⟩
theorem Cv{t:TG}{u:TGs}{v:V}{r:List V}(h:t v σ H λσ' H'=>u r σ' H' R):FD t u (v::r) σ H R:=⟨v,r,rfl,h⟩
theorem Eo(h:R σ H):Hu [] σ H R:=⟨rfl,h⟩
end
variable{Q:VK}
theorem FE{p:Addr}{a b:V}(h:H p=some (.lst [a,b]))(hi:i=0\/i=1)(q0:i=0->Q a H)(q1:i=1->Q b H):Aa K (.ref p) (.int i) H Q:=by
 rcases hi with rfl|rfl
 .exact iX (SqL.of h) rfl (q0 rfl)
 .exact iX (SqL.of h) rfl (q1 rfl)
def Hw:List V->Hp->VK->Prop:=λxs H Q=>∃i,xs=[.int i]/\Q (.int (if i<0 then -i else i)) H
def Ex:List V->Hp->VK->Prop:=λxs H Q=>∃i j,xs=[.int i,.int j]/\Q (.int (if j>i then j else i)) H
def Ej:List V->Hp->VK->Prop:=λxs H Q=>∃i j,xs=[.int i,.int j]/\Q (.int (if j<i then j else i)) H
def DA:List V->Hp->VK->Prop:=λxs H Q=>(∃i,xs=[.int i]/\Q (.int i) H)\/∃k,xs=[.bl k]/\Q (.int (if k then 1 else 0)) H
def ro(K:W.Frag):List V->Hp->VK->Prop:=λxs H Q=>∃p ys,xs=[.ref p]/\(SqL K H p ys\/SqT K H p ys)/\Q (.int ys.length) H
section
variable{X:Cx}{H:Hp}{Q:VK}{K:W.Frag}
theorem kS:xa X (.builtin "abs") Hw:=rF
theorem QF(hc:X.calm=true):xa X (.builtin "max") Ex:=mF hc
theorem QA(hc:X.calm=true):xa X (.builtin "min") Ej:=mC hc
theorem yE:xa X (.type "int") DA:=nP
theorem oE:xa X (.builtin "len") (ro X.K):=WU
theorem Ek(h:∀k:Int,(0<=i/\k=i)\/(i<0/\k=-i)->Q (.int k) H):Hw [.int i] H Q:=⟨i,rfl,h _ (by split<;>omega)⟩
theorem CI(h:∀k:Int,(i<j/\k=j)\/(j<=i/\k=i)->Q (.int k) H):Ex [.int i,.int j] H Q:=⟨i,j,rfl,h _ (by split<;>omega)⟩
theorem BN(h:∀k:Int,(j<i/\k=j)\/(i<=j/\k=i)->Q (.int k) H):Ej [.int i,.int j] H Q:=⟨i,j,rfl,h _ (by split<;>omega)⟩
theorem Cd{p:Addr}{a b:V}(h:H p=some (.tup [a,b]))(q:Q (.int 2) H):ro K [.ref p] H Q:=⟨p,[a,b],rfl,.inr (SqT.of h),q⟩
theorem fB{k:Bool}(h:Q (.int (if k then 1 else 0)) H):DA [.bl k] H Q:=.inr ⟨k,rfl,h⟩
theorem Fq{p:Addr}{ys:List V}(h:SqL K H p ys)(q:Q (.int ys.length) H):ro K [.ref p] H Q:=⟨p,ys,rfl,.inl h,q⟩
end
theorem Yt:bootBuiltins "int"=some (.type "int"):=by right
theorem CB:bootBuiltins "bool"=some (.type "bool"):=by right
theorem rK:bootBuiltins "tuple"=some (.type "tuple"):=by right
theorem jz:bootBuiltins "str"=some (.type "str"):=by right
theorem lJ:bootBuiltins "list"=some (.type "list"):=by right
theorem qK:bootBuiltins "isinstance"=some (.builtin "isinstance"):=by right
theorem KZ:bootBuiltins "abs"=some (.builtin "abs"):=by right
theorem gX:bootBuiltins "max"=some (.builtin "max"):=by right
theorem dO:bootBuiltins "min"=some (.builtin "min"):=by right
theorem qE:bootBuiltins "len"=some (.builtin "len"):=by right
def IZ(T T':String):Option Bool:=if(Value.type T==Value.type T')=true then some true else if W.kitMeta T'=true then(fastBuiltinMro T).map (·.contains (Value.type T'))else none
variable{b:Bool}
theorem Qa(K:W.Frag)(T T':String)(h:IZ T T'=some b):W.kitOne K (.type T) (.type T')=some b:=h
theorem eG(K:W.Frag):W.kitOne K (.type "int") (.type "int")=some true:=Qa K _ _ (by right)
theorem Ww(K:W.Frag):W.kitOne K (.type "int") (.type "bool")=some false:=Qa K _ _ (by right)
theorem Wv(K:W.Frag):W.kitOne K (.type "bool") (.type "int")=some true:=Qa K _ _ (by right)
theorem Yv(K:W.Frag):W.kitOne K (.type "tuple") (.type "tuple")=some true:=Qa K _ _ (by right)
theorem eS(K:W.Frag):W.kitOne K (.type "str") (.type "int")=some false:=Qa K _ _ (by right)
theorem eM(K:W.Frag):W.kitOne K (.type "str") (.type "str")=some true:=Qa K _ _ (by right)
theorem Wf(K:W.Frag):W.kitOne K (.type "list") (.type "int")=some false:=Qa K _ _ (by right)
theorem K2(K:W.Frag):W.kitOne K (.type "tuple") (.type "int")=some false:=Qa K _ _ (by right)
theorem YB(K:W.Frag):W.kitOne K (.type "NoneType") (.type "int")=some false:=Qa K _ _ (by right)
theorem dY(K:W.Frag):W.kitOne K (.type "dict") (.type "int")=some false:=Qa K _ _ (by right)
section
variable{H:Hp}{Q:VK}{K:W.Frag}
theorem sK(q:Q (.bl true) H):C6 K [.int i,.ty "int"] H Q:=JN (.int i) ⟨_,.inl rfl⟩ (eG K) q
theorem rB(q:Q (.bl false) H):C6 K [.int i,.ty "bool"] H Q:=JN (.int i) ⟨_,.inl rfl⟩ (Ww K) q
theorem tO{p:Addr}(h:H p=some (.tup xs))(q:Q (.bl true) H):C6 K [.ref p,.ty "tuple"] H Q:=JN (.tup h) ⟨_,.inl rfl⟩ (Yv K) q
end
variable{c:Prop}
theorem i_d[Decidable c](h1:c->A)(h2:¬c->B):if decide c=true then A else B:=by
 by_cases h:c
 .rw[if_pos (decide_eq_true h)];exact h1 h
 .rw[if_neg (by rw[decide_eq_false h];decide)];exact h2 h
theorem GW[Decidable c](h1:c->B)(h2:¬c->A):if(!decide c)=true then A else B:=by
 by_cases h:c
 .rw[decide_eq_true h];exact h1 h
 .rw[decide_eq_false h];exact h2 h
theorem Ig[Decidable c](h:c)(h1:A):if decide c=true then A else B:=i_d (λ_=>h1) (λn=>absurd h n)
theorem IA[Decidable c](h:¬c)(h1:B):if decide c=true then A else B:=i_d (λn=>absurd n h) (λ_=>h1)
theorem G5[Decidable c](h:c)(h1:B):if(!decide c)=true then A else B:=GW (λ_=>h1) (λn=>absurd h n)
theorem G4[Decidable c](h:¬c)(h1:A):if(!decide c)=true then A else B:=GW (λn=>absurd n h) (λ_=>h1)
theorem i_b(h1:b=true->A)(h2:b=false->B):if b=true then A else B:=by
 cases b with
 |true=>rw[if_pos rfl];exact h1 rfl
 |false=>rw[if_neg (by decide)];exact h2 rfl
theorem Ie(h:B):if(!true)=true then A else B:=h
theorem IJ(h:A):if(!false)=true then A else B:=h
def xV(X:Cx)(scope:Scope)(cl:List (Str×Addr))(N':List Str)(C:Addr)(s₂:Shared)(H₂:Hp)(fp:List Addr):Cx where
 prog:=X.prog
 w:=X.w
 K:=X.K
 mg:=X.mg
 base:=X.base
 A:=X.A
 N:=N'
 s₀:=s₂
 H₀:=H₂
 env:=compEnvC scope cl C X.env
 outer:=X.stack
 stack:=X.stack
 ex:=fp
 calm:=X.calm
 fn:=λ_=>false
 pn:=[]
 xe:=λ_ _=>False
def AF(cells:List (Str×Addr)):List (Str×Addr)->Prop
 |[]=>True
 |p::r=>cells.lookup p.1=some p.2/\AF cells r
theorem AF.look{cells:List (Str×Addr)}:∀{cl:List (Str×Addr)}{x:Str}{c:Addr},AF cells cl->cl.lookup x=some c->cells.lookup x=some c
 |[],_,_,_,h=>by simp at h
 |(y,d)::r,x,c,⟨h1,h2⟩,h=>by
  rw[lookup_cons]at h;cases e:x==y with
  |true=>
   rw[e]at h;have e':x=y:=eq_of_beq e;cases h;rw[e'];exact h1
  |false=>
   rw[e]at h;exact AF.look h2 h
def pO(X:Cx)(scope:Scope):List Str->List Nat->Prop
 |[],[]=>True
 |y::r,j::js=>(X.N[j]?=some y/\scope.names.lookup y=some .free/\(X.env.kindOf y=some .cell\/X.env.kindOf y=some .free))/\pO X scope r js
 |_,_=>False
theorem pO.get{X:Cx}{scope:Scope}:∀{fr:List Str}{js:List Nat}{k:Nat}{y:Str},pO X scope fr js->fr[k]?=some y->∃j,js[k]?=some j/\X.N[j]?=some y/\scope.names.lookup y=some .free/\(X.env.kindOf y=some .cell\/X.env.kindOf y=some .free)
 |[],_,_,_,_,h=>by simp at h
 |_::_,[],_,_,h,_=>h.elim
 |y::r,j::js,0,z,⟨h1,_⟩,h=>by simp at h;subst h;exact⟨j,rfl,h1⟩
 |y::r,j::js,k+1,z,⟨_,h2⟩,h=>by
  obtain⟨j',e,q⟩:=pO.get (k:=k) h2 (by simpa using h);exact⟨j',by simpa using e,q⟩
theorem pO.len{X:Cx}{scope:Scope}:∀{fr:List Str}{js:List Nat},pO X scope fr js->fr.length=js.length
 |[],[],_=>rfl
 |[],_::_,h=>h.elim
 |_::_,[],h=>h.elim
 |_::r,_::js,h=>by rw[length_cons,length_cons,pO.len h.2]
theorem Xm {env : Env} : ∀ {names : List (Str × NameKind)} {x : Str}, (∀ y ∈ names, y.2 ≠ .cell) ->
    ((names.map fun (n, k) => if (k == NameKind.free && env.scope.kind == .function && env.kindOf n == some .cell) then (n, NameKind.cell) else (n, k)).lookup x = some .cell \/
     (names.map fun (n, k) => if (k == NameKind.free && env.scope.kind == .function && env.kindOf n == some .cell) then (n, NameKind.cell) else (n, k)).lookup x = some .free) -> names.lookup x = some .free
  | [], _, _, h => by simp at h
  | (n, k) :: r, x, hc, h => by
    have ih := @Xm env r x (fun y hy => hc y (List.mem_cons_of_mem _ hy))
    rw [map_cons] at h
    dsimp only at h
    by_cases hb : (k == NameKind.free && env.scope.kind == .function && env.kindOf n == some .cell) = true
    · rw [if_pos hb] at h
      rw [lookup_cons] at h
      rw [lookup_cons]
      cases e : x == n with
      | true =>
        have : k = .free := by simp at hb; exact hb.1.1
        rw [this]
      | false =>
        rw [e] at h
        exact ih h
    · rw [if_neg hb] at h
      rw [lookup_cons] at h
      rw [lookup_cons]
      cases e : x == n with
      | true =>
        rw [e] at h
        have hk : k ≠ .cell := hc (n, k) List.mem_cons_self
        rcases h with h | h
        · exact absurd (Option.some.inj h) hk
        · exact h
      | false =>
        rw [e] at h
        exact ih h
theorem Zg {env : Env} (hk : env.scope.kind = .function) {x : Str} : ∀ {names : List (Str × NameKind)}, names.lookup x = some .free -> (env.kindOf x = some .cell \/ env.kindOf x = some .free) ->
    ((names.map fun (n, k) => if (k == NameKind.free && env.scope.kind == .function && env.kindOf n == some .cell) then (n, NameKind.cell) else (n, k)).lookup x = some .cell \/
     (names.map fun (n, k) => if (k == NameKind.free && env.scope.kind == .function && env.kindOf n == some .cell) then (n, NameKind.cell) else (n, k)).lookup x = some .free)
  | [], h, _ => by simp at h
  | (n, k) :: r, h, hx => by
    have ih := @Zg env hk x r
    rw [lookup_cons] at h
    rw [map_cons]
    dsimp only
    cases e : x == n with
    | true =>
      rw [e] at h
      have ek : k = .free := Option.some.inj h
      have en : x = n := eq_of_beq e
      subst ek
      rcases hx with hx | hx
      · apply Or.inl
        have hb : ((NameKind.free == NameKind.free) && env.scope.kind == .function && env.kindOf n == some .cell) = true := by rw [<- en, hx, hk]; decide
        rw [if_pos hb, lookup_cons, e]
      · apply Or.inr
        have hb : ¬ ((NameKind.free == NameKind.free) && env.scope.kind == .function && env.kindOf n == some .cell) = true := by rw [<- en, hx, hk]; decide
        rw [if_neg hb, lookup_cons, e]
    | false =>
      rw [e] at h
      rcases ih h hx with q | q
      · apply Or.inl
        split <;> rw [lookup_cons, e] <;> exact q
      · apply Or.inr
        split <;> rw [lookup_cons, e] <;> exact q
section
variable{X:Cx}{pins:List (Addr×Obj)}{σ:St}{H:Hp}{s:Shared}
theorem HOk.track{h:Heap}(x:HOk P w H h)(hn:H a=none)(new:x0 P w (upd H a o) h a o):HOk P w (upd H a o) h:=λb u e=>by
 by_cases hb:b=a
 .subst hb;rw[zO]at e;cases e;exact new
 .rw[zu hb]at e;exact(x b u e).stay (λc v _ q=>q) (λc q=>by rw[zu (qI q hn)];exact q) λc xs q=>by rw[zu (qI q hn)];exact q
theorem Inv.track(I:Inv X pins σ H s)(f:i8 X pins H a)(new:x0 X.prog X.w (upd H a o) s.heap a o):Inv X pins σ (upd H a o) s:=by
 obtain⟨f0,f1,f2,f3,f4,f5⟩:=f;have up:∀b,H b=none->b≠a->upd H a o b=none:=λb e n=>by rw[zu n];exact e
 have st:∀{b u},H b=some u->upd H a o b=some u:=λ{b u}e=>by rw[zu (qI e f0)];exact e
 have na:∀b ob,X.s₀.heap.get? b=some ob->b∉X.ex->b≠a:=λb ob e hx z=>by
  rcases f3 with q|q
  .exact hx (z▸q)
  .exact absurd (lt_of_lt_of_le (Heap.lt_size e) (z▸q)) (lt_irrefl _)
 refine⟨I.ok,I.os,I.bare,⟨I.base.keep,I.base.slot,λb ob e n hx=>up b (I.base.free b ob e n hx) (na b ob e hx),I.base.there,λb xs e=>st (I.base.tups b xs e),λb ob u e=>st (I.base.frzs b ob u e),λb ps e=>?_⟩,I.loc,I.cell,up _ I.free (Ne.symm f1),λx c e=>up c (I.freeC x c e) (f4 x c e),λp hp=>?_,I.hok.track f0 new,I.len⟩
 .obtain⟨m,q⟩:=I.base.tbls b ps e;exact⟨m,st q⟩
 .obtain⟨e,n,r⟩:=I.pin p hp;exact⟨e,up _ n (f5 p hp),r⟩
end
def Du(Y:Cx)(ifs:List Expr)(t:TT):Prop:=
 ∀(pins:List (Addr×Obj))(s:Shared)(σ:St)(H:Hp)(R:Bool->Hp->Prop),Inv Y pins σ H s->t σ H R ->
  wpAny (model Y.prog Y.w) Y.A (forIn ifs true λc r=>if r=true then do let ok <- isTrue c Y.env (eval c Y.env);pure (ForInStep.yield ok)else pure (ForInStep.yield r)) (TP Y pins σ R) Y.xe s
def EY:TT:=λ_ H R=>R true H
theorem xI{Y:Cx}:Du Y [] EY:=λ_ _ _ H _ I h=>wpAny_tests_nil ⟨H,I,h⟩
theorem JP{Y:Cx}{c:Expr}{t:TT}(h:PT Y c t):Du Y [c] t:=λpins s σ H R I q=>wpAny_tests_one (h pins s σ H R I q)
def oH (is : List Nat) (tt : TT) (te : TE) (σ : St) (Q : VK) (J : It) (H1 : Hp) : Prop := ∃ W : Nat -> Nat -> List V -> Hp -> Prop, (∃ m, W 0 m [] H1) /\ ∀ i m ys H, W i m ys H -> ys.length <= sizeLine /\
  ((J.stop i H /\ ∀ p, H p = none -> Q (.ref p) (upd H p (.lst ys))) \/
   (J.go i H /\ ys.length < sizeLine /\ ∀ x H', J.yld i H x H' -> tt (some x :: is.map fun j => (σ[j]?).getD none) H' fun ok H2 =>
     if ok = true then te (some x :: is.map fun j => (σ[j]?).getD none) H2 fun y H3 => ∃ m', m' < m /\ W (i + 1) m' (ys ++ [y]) H3 else ∃ m', m' < m /\ W (i + 1) m' ys H2))
def nq(is:List Nat)(wi:TI)(tt:TT)(te:TE):TE:=λσ H Q=>wi σ H λJ H1=>oH is tt te σ Q J H1
section
variable{X:Cx}{elt iter:Expr}{ifs:List Expr}{x:Str}{px pos:Pos}{scope:Scope}{cl:List (Str×Addr)}{fr:List Str}{is:List Nat}{wi:TI}{tt:TT}{te:TE}
theorem mE{pins:List (Addr×Obj)}{σ:St}{H₂:Hp}{s₂:Shared}{C:Addr}{fp:List Addr}{N':List Str}(I:Inv X pins σ H₂ s₂)(hC:s₂.heap.objs.size<=C)(hf:∀b∈fp,i8 X pins H₂ b)(hfl:∀b∈fp,b<s₂.heap.objs.size)
  (hcell:∀y∈scope.names,y.2≠.cell) (hkind:scope.kind=.function) (hcl:AF X.env.cells cl) (hfree:(scope.names.all λp=>p.2 != .free||(cl.lookup p.1).isSome)=true):(xV X scope cl N' C s₂ H₂ fp).Ok where
 mod:=I.mod
 kind:=hkind
 glob:=I.ok.glob
 blt:=I.ok.blt
 above:=hC
 inj:=λx y c h1 h2=>I.ok.inj x y c (hcl.look h1) (hcl.look h2)
 has:=λy h=>by
  have h':=Xm (env:=X.env) hcell h;have hm:(y,NameKind.free)∈scope.names:=by
   have aux:∀{l:List (Str×NameKind)},l.lookup y=some .free->(y,NameKind.free)∈l:=by
    intro l;induction l with
    |nil=>intro z;simp at z
    |cons p r ih=>
     intro z;obtain⟨n,k⟩:=p;rw[lookup_cons]at z;cases e:y==n with
     |true=>rw[e]at z;cases z;rw[eq_of_beq e];exact List.mem_cons_self
     |false=>rw[e]at z;exact List.mem_cons_of_mem _ (ih z)
   exact aux h'
  have q:((NameKind.free != NameKind.free)||(cl.lookup y).isSome)=true:=List.all_eq_true.mp hfree _ hm;have q':(cl.lookup y).isSome=true:=by rw[bne_self_eq_false,Bool.false_or]at q;exact q
  exact Option.isSome_iff_exists.mp q'
 cab:=λ_ _ h _=>by cases h
 hd:=I.ok.hd
 frames:=I.ok.frames
 stk:=.inl rfl
 exf:=λb hb=>⟨ne_of_lt (lt_of_lt_of_le (hfl b hb) hC),λy c e=>(hf b hb).2.2.2.2.1 y c (hcl.look e)⟩
 bs:=I.bs
 bsz:=le_trans I.ok.bsz I.sz
 noex:=λb o e hb=>by
  rcases(hf b hb).2.2.2.1 with q|q
  .exact I.ok.noex b o e q
  .exact absurd (lt_of_lt_of_le (Heap.lt_size e) (le_trans I.ok.bsz q)) (lt_irrefl _)
 exfs:=λb hb z=>by
  rcases List.mem_cons.mp (I.stkSub b z)with q|q
  .exact(hf b hb).2.1 q
  .exact(hf b hb).2.2.1 q
 funs:=I.stack
 frf:=I.stkFree
def oo(X:Cx)(pins:List (Addr×Obj))(σ:St)(Q:VK)(acc:Value)(C:Addr)(r:Result)(s':Shared):Prop:=match r with
 |.ok _=>∃(D:Addr)(H':Hp)(m:Str->Option Value),acc=.ref D/\Inv X pins σ H' s'/\s'.heap.Ns C m/\i8 X pins H' C/\Q (.ref D) H'
 |.error _=>False
theorem GI{M:Model}{A:Around}{E:Value->Shared->Prop}{s:Shared}{it u:Value}{Q1:Unit->Shared->Prop}{α:Type}{t:Sem α}{Q2:α->Shared->Prop}(h:wpAny M A (letOwnedTupleGo (.Name x px) it u) Q1 E s)(k:∀s,Q1 () s->wpAny M A t Q2 E s):wpAny M A t Q2 E s:=by
 have z:wpAny M A (letOwnedTupleGo (.Name x px) it u >>= λ_=>t) Q2 E s:=wpAny_bind (thn h λ_ s q=>k s q);rw[show letOwnedTupleGo (.Name x px) it u=pure ()from rfl,pure_bind]at z;exact z
theorem aS {pins:List (Addr × Obj)} {σ:St} {E:Value->Shared->Prop} {s₂:Shared} {H₂:Hp} {it:Addr} {fp:List Addr} {tn:Nat->Heap->Prop} {J:It}
  (hc:X.calm=true) (hcell : ∀ y ∈ scope.names,y.2 ≠ .cell) (hkind:scope.kind = .function) (hx:scope.names.lookup x=some .local) (hcl:AF X.env.cells cl)
  (hfree:(scope.names.all fun p=>p.2 != .free || (cl.lookup p.1).isSome)=true) (hfr:pO X scope fr is) (hnd:(x::fr).Nodup)
  (ht : ∀ C s₂ H₂ fp,Du (xV X scope cl (x::fr) C s₂ H₂ fp) ifs tt) (he : ∀ C s₂ H₂ fp,PE (xV X scope cl (x::fr) C s₂ H₂ fp) elt te)
  (I:Inv X pins σ H₂ s₂) (T:CZ X.prog X.w X.K (.Name x px) J fp it tn) (st:tn 0 s₂.heap) (hf : ∀ b ∈ fp,i8 X pins H₂ b) (R:oH is tt te σ Q J H₂) :
  wpAny (model X.prog X.w) X.A (newList []) (fun acc s₃=>wpAny (model X.prog X.w) X.A (newFunctionEnv scope X.env.globals cl [] X.env.qual none .none (some X.env)) (fun cenv s₄ =>
   codeAny (model X.prog X.w) X.A (.compStart (.ListComp elt [⟨.Name x px,iter,ifs,0⟩] scope pos) 0 (.ref it) acc { cenv with scope:=relabel scope X.env }) (oo X pins σ Q acc cenv.locals) s₄) E s₃) E s₂:=by
 obtain ⟨W,⟨m0,w0⟩,turn⟩:=R
 refine wpAny_newObj_type (wpAny_newFunctionEnv hcell (by intro y hy;simp at hy) (fun h₁ hns₁ hsb₁=>?_) hkind)
 dsimp only at hns₁ hsb₁ ⊢
 generalize hH2:s₂.heap.push { cls:=.type "list", dict:=none,data:=.seq ([]:List Value).toArray }=G2 at hns₁ hsb₁ ⊢
 have hC:G2.objs.size=s₂.heap.objs.size+1:=by rw [<- hH2,Heap.size_push]
 have hDC:s₂.heap.objs.size≠G2.objs.size:=by rw [hC];exact ne_of_lt (Nat.lt_succ_self _)
 have below : ∀ b,b < s₂.heap.objs.size->b≠G2.objs.size/\b≠s₂.heap.objs.size:=fun b hb=>⟨by rw [hC];exact ne_of_lt (Nat.lt_succ_of_lt hb),ne_of_lt hb⟩
 have hfl : ∀ b ∈ fp,b < s₂.heap.objs.size:=fun b hb=>by obtain ⟨o,e,_⟩:=T.obj _ _ st b hb;exact Heap.lt_size e
 have old : ∀ b o,s₂.heap.get? b=some o->h₁.get? b=some o:=fun b o e=>hsb₁.extBut b o (below b (Heap.lt_size e)).1 (Heap.get?_push_of_some _ (hH2 ▸ Heap.get?_push_of_some _ e))
 have hacc:h₁.get? s₂.heap.objs.size=some { cls:=.type "list", data:=.seq ([]:List Value).toArray 0 }:=hsb₁.extBut _ _ hDC (Heap.get?_push_of_some _ (hH2 ▸ Heap.get?_push_size _ rfl))
 have hfresh : ∀ b,s₂.heap.objs.size<=b->H₂ b=none:=fun b hb=>I.hok.fresh hb
 have hCle:s₂.heap.objs.size<=G2.objs.size:=by rw [hC];exact Nat.le_succ _
 generalize hCe:G2.objs.size=C at *
 generalize hDe:s₂.heap.objs.size=D at *
 have ok:(xV X scope cl (x::fr) C s₂ H₂ fp).Ok:=mE I (by rw [hDe];exact hCle) hf (by rw [hDe];exact hfl) hcell hkind hcl hfree
 have hYc:(xV X scope cl (x::fr) C s₂ H₂ fp).calm=true:=hc
 have hDfp : ∀ b ∈ fp,b≠D:=fun b hb=>ne_of_lt (hfl b hb)
 have hDst:D ∉ frs X.stack:=fun z=>by
  rcases List.mem_cons.mp (I.stkSub D z) with q | q
  ·have:=I.lt;rw [hDe,<- q] at this;exact lt_irrefl _ this
  ·exact I.nofs (by rw [hDe];exact Nat.le_refl _) q
 have hfY : ∀ {H':Hp} {its:List Value} {n:Nat},(∀ b ∈ fp,H' b=none) -> ∀ b ∈ fp,i8 (xV X scope cl (x::fr) C s₂ H₂ fp) [(D,{ cls:=.type "list", data:=.seq its.toArray n })] H' b:=fun hn b hb =>
  ⟨hn b hb,(ok.exf b hb).1,ok.exfs b hb,.inl hb,(ok.exf b hb).2,fun p hp=>by
   have e:p=(D,{ cls:=.type "list", data:=.seq _ _ }):=List.mem_singleton.mp hp
   rw [e];exact Ne.symm (hDfp b hb)⟩
 have lenF:(is.map fun j=>(σ[j]?).getD none).length=fr.length:=by rw [length_map,hfr.len]
 have I0:Inv (xV X scope cl (x::fr) C s₂ H₂ fp) [(D,{ cls:=.type "list", data:=.seq ([]:List Value).toArray 0 })] (none::is.map fun j=>(σ[j]?).getD none) H₂ { s₂ with heap:=h₁,toks:=s₂.toks+([]:List (Str × Value)).length }:=by
  refine ⟨ok,rfl,I.bare,Un.kept old,⟨_,hns₁,fun i y v e1 e2 e3=>?_⟩,fun y c e=>?_,hfresh C hCle,fun y c e=>I.freeC y c (hcl.look e),fun p hp=>?_,I.hok.kept old,?_⟩
  ·cases i with
   | zero=>cases e2
   | succ k =>
    have e1':fr[k]? = some y:=e1
    have e2':(is.map fun j=>(σ[j]?).getD none)[k]? = some (some v):=e2
    obtain ⟨j,hj,hN,hfy,hkx⟩:=hfr.get e1'
    rw [getElem?_map,hj] at e2'
    have e4:(σ[j]?).getD none=some v:=Option.some.inj e2'
    have e5:σ[j]? = some (some v):=by
     cases q:σ[j]? with
     | none=>rw [q] at e4;cases e4
     | some o=>rw [q] at e4;have e4':o=some v:=e4;rw [e4']
    obtain ⟨m,hn,hl⟩:=id I.loc
    have hvis:Vis X.env.scope y:=hkx.elim (fun q=>.inr (.inl q)) fun q=>.inr (.inr q)
    obtain ⟨u,r,lk⟩:=hl j y v hN e5 hvis
    refine ⟨u,r,.inr ⟨Zg I.ok.kind hfy hkx,?_⟩⟩
    rcases lk with ⟨kl,_⟩ | ⟨_,c,ec,ic⟩
    ·rcases hkx with q | q <;> rw [kl] at q <;> cases q
    ·obtain ⟨c',ec'⟩:=ok.has y (Zg I.ok.kind hfy hkx)
     have:c'=c:=Option.some.inj ((hcl.look ec').symm.trans ec)
     rw [this] at ec'
     obtain ⟨o,ho,hd⟩:=ic
     exact ⟨c,ec',o,old c o ho,hd⟩
  ·obtain ⟨v,o,ho,hd⟩:=I.cell y c (hcl.look e)
   exact ⟨v,o,old c o ho,hd⟩
  ·have e:p=(D,{ cls:=.type "list", data:=.seq ([]:List Value).toArray 0 }):=List.mem_singleton.mp hp
   rw [e]
   exact ⟨hacc,hfresh D (Nat.le_refl _),hDC,hDst,fun v z=>by cases z⟩
  ·show (none::_).length=(x::fr).length
   rw [length_cons,length_cons,lenF]
 have loop : ∀ s₃:Shared,s₃={ s₂ with heap:=h₁,toks:=s₂.toks+([]:List (Str × Value)).length } ->
   codeAny (model X.prog X.w) X.A (.compLoop (.ListComp elt [⟨.Name x px,iter,ifs,0⟩] scope pos) 0 (.ref it) (.ref D) (compEnvC scope cl C X.env)) (oo X pins σ Q (.ref D) C) s₃:=by
  rintro s₃ rfl
  refine codeAny_compLoop_tests (fun n s'=>∃ (i:Nat) (o:Option V) (ys:List V) (its:List Value) (k:Nat) (H':Hp),Inv (xV X scope cl (x::fr) C s₂ H₂ fp) [(D,{ cls:=.type "list", data:=.seq its.toArray k })] (o::is.map fun j=>(σ[j]?).getD none) H' s' /\
   tn i s'.heap/\(∀ b ∈ fp,H' b=none)/\qP ys its/\W i n ys H') ?_ m0 ⟨0,none,[],[],0,H₂,I0,T.keep _ _ _ st fun b _ o e=>old b o e,fun b hb=>(hf b hb).1,.nil,w0⟩
  rintro n s' ⟨i,o,ys,its,k,H',I',st',fr',vs,w'⟩
  obtain ⟨hlen,⟨stop,fin⟩ | ⟨go,hlt,step⟩⟩:=turn i n ys H' w'
  ·refine wpAny_mono (T.done (xV X scope cl (x::fr) C s₂ H₂ fp) rfl rfl rfl hYc i _ s' _ H' (fun _ _=>False) I' (hfY fr') st' stop) (fun r s1 zq=>?_) fun _ _ z=>z.elim
   obtain ⟨hr,I1⟩:=zq
   subst hr
   obtain ⟨pD,nD,_,_,_⟩:=I1.pin _ (mem_append_right _ (List.mem_singleton.mpr rfl))
   have IX:Inv X pins σ H' s1:=I.call' I1.os I1.base I1.hok I1.bare fun b hb=>⟨(hf b hb).2.2.2.1,(hf b hb).2.1,(hf b hb).2.2.2.2.1,(hf b hb).2.2.2.2.2⟩
   have fD:i8 X pins H' D:=I.fpOk (by rw [hDe];exact Nat.le_refl _) nD
   obtain ⟨m,hn,_⟩:=id I1.loc
   have hC':H' C=none:=I1.free
   refine ⟨D,upd H' D (.lst ys),m,rfl,IX.track fD ⟨hlen,its,k,vs,pD⟩,hn,I.fpOk (by rw [hDe];exact hCle) (by rw [zu (Ne.symm hDC)];exact hC'),fin D nD⟩
  ·refine wpAny_mono (T.item (xV X scope cl (x::fr) C s₂ H₂ fp) rfl rfl rfl hYc i _ s' _ H' (fun _ _=>False) I' (hfY fr') st' go) (fun r s1 zq=>?_) fun _ _ z=>z.elim
   obtain ⟨u,hr,h4⟩:=zq
   subst hr
   refine wpAny_mono (GI (Q2:=fun _ s6=>_) h4 fun s2 zq=>?_) (fun _ _ q=>q) fun _ _ z=>z.elim
   obtain ⟨v,H5,I5,r5,y5,st5,fr5⟩:=zq
   have I5':=I5.pinned (hfY fr5) (T.obj _ _ st5)
   refine thn (lv (X:=xV X scope cl (x::fr) C s₂ H₂ fp) (i:=0) hnd rfl (.inl (lookup_relabel_local hx)) (.inr (lookup_relabel_local hx)) _ s2 _ H5 v u (fun σ' H'=>σ'=(some v::is.map fun j=>(σ[j]?).getD none)/\H'=H5) I5' r5 ⟨rfl,rfl⟩) fun _ s6 zq=>?_
   obtain ⟨σ6,H6,I6,e6,e7⟩:=zq
   subst e6 e7
   refine wpAny_mono (ht C s₂ H₂ fp _ s6 _ H6 _ I6 (step v H6 y5)) (fun ok7 s7 zq=>?_) fun _ _ z=>z.elim
   obtain ⟨H7,I7,q7⟩:=zq
   have keep : ∀ {σ8:St} {H8:Hp} {s8:Shared},Inv (xV X scope cl (x::fr) C s₂ H₂ fp) ([(D,{ cls:=.type "list", data:=.seq its.toArray k })]++cP fp s2.heap) σ8 H8 s8->tn (i+1) s8.heap /\ ∀ b ∈ fp,H8 b=none:=fun {σ8 H8 s8} I8 =>
    ⟨T.keep _ _ _ st5 fun b hb o e=>(I8.pin (b,o) (mem_append_right _ (mem_append_right _ (QE hb e)))).1,fun b hb=>by
     obtain ⟨o,e,d⟩:=T.obj _ _ st5 b hb
     exact (I8.pin (b,o) (mem_append_right _ (mem_append_right _ (QE hb e)))).2.1⟩
   cases ok7 with
   | false =>
    obtain ⟨m',hm',w7⟩:=q7
    exact ⟨m',hm',i+1,_,ys,its,k,H7,I7.unpinned,(keep I7).1,(keep I7).2,vs,w7⟩
   | true =>
    refine wpAny_mono (he C s₂ H₂ fp _ s7 _ H7 _ I7 q7) (fun yv s8 zq=>?_) fun _ _ z=>z.elim
    obtain ⟨y,H8,I8,r8,m',hm',w8⟩:=zq
    obtain ⟨pD,nD,neD,nfD,ncD⟩:=I8.pin (D,{ cls:=.type "list", data:=.seq its.toArray k }) (mem_append_right _ (mem_append_left _ (List.mem_singleton.mpr rfl)))
    have hl:=vs.length
    refine append_at (hsz:=by rw [List.size_toArray,<- hl];exact hlen) pD fun h9 sb9 hD9=>?_
    obtain ⟨st8,fr8⟩:=keep I8
    have I8':Inv (xV X scope cl (x::fr) C s₂ H₂ fp) [] (some v::is.map fun j=>(σ[j]?).getD none) H8 s8:=I8.pins_of fun p hp=>nomatch hp
    have I9:Inv (xV X scope cl (x::fr) C s₂ H₂ fp) [] (some v::is.map fun j=>(σ[j]?).getD none) H8 { s8 with heap:=h9 }:=
     I8'.turned (t':=s8.toks) (fun b o hb e=>(sb9.2 b hb).trans e) nD neD (.inr (by rw [<- hDe];exact Nat.le_refl _)) (fun y' c e z=>by
      obtain ⟨v',o',ho',hd'⟩:=I8'.cell y' c e
      rw [z,pD] at ho';cases ho';cases hd') (fun p hp=>nomatch hp)
    refine ⟨m',hm',i+1,_,ys++[y],its++[yv],k+1,H8,I9.pins_of fun p hp=>?_,T.keep _ _ _ st8 fun b hb o e=>(sb9.2 b (hDfp b hb)).trans e,fr8,vs.append (.cons r8 .nil),w8⟩
    rw [List.mem_singleton.mp hp]
    refine ⟨?_,nD,neD,nfD,fun v z=>by cases z⟩
    rw [<- List.push_toArray]
    exact hD9
 exact codeAny_compStart_list (loop _ rfl) (T.self _ 0 _ _ _ (T.keep _ _ _ st fun b _ o e=>old b o e) (loop _ rfl))
theorem xH(hc:X.calm=true)(hclos:closureFor scope X.env=pure cl)(hcl:AF X.env.cells cl)(hfree:(scope.names.all λp=>p.2 != .free||(cl.lookup p.1).isSome)=true)(hfr:pO X scope fr is)(hnd:(x::fr).Nodup)
  (hcell:∀y∈scope.names,y.2≠.cell) (hkind:scope.kind=.function) (hnames:∀y∈scope.names,y.2=.local->scope.names.lookup y.1=some .local) (hx:scope.names.lookup x=some .local)
  (hi:PI X (.Name x px) iter wi) (ht:∀C s₂ H₂ fp,Du (xV X scope cl (x::fr) C s₂ H₂ fp) ifs tt) (he:∀C s₂ H₂ fp,PE (xV X scope cl (x::fr) C s₂ H₂ fp) elt te) (hs:∀x,foldedSetIterable iter X.env x=pure x:=by intro _;rfl):
  PE X (.ListComp elt [⟨.Name x px,iter,ifs,0⟩] scope pos) (nq is wi tt te):=by
 intro pins s σ H Q I h;rw[eval_ListComp];refine wpAny_comprehension_free (use:=none) rfl hs hclos hkind hnames (thn (hi pins s σ H _ I h) λv s1 h1=>thn h1 λitv s2 h2=>?_);obtain⟨it,fp,tn,J,H2,e,I2,T,st2,f2,R⟩:=h2;subst e;refine thn (aS hc hcell hkind hx hcl hfree hfr hnd ht he I2 T st2 f2 R) λacc s3 h3=>thn h3 λcenv s4 h4=>codeAny_mono h4 λr s' q=>?_;cases r with
 |error e=>exact q.elim
 |ok f=>
  obtain⟨D,H',m,rfl,I',hn,fC,q⟩:=q;obtain⟨f0,f1,_,f3,f4,f5⟩:=fC;exact⟨m,hn,λh' sb=>⟨.ref D,H',I'.turned (t':=s'.toks) (λb o hb e=>(sb.2 b hb).trans e) f0 f1 f3 f4 f5,rfl,q⟩⟩
theorem V2{i:Nat}{y:Str}{py spos:Pos}(hN:X.N.Nodup)(hiy:X.N[i]?=some y)(hy:Loc X.env.scope y)(hsw:swapsWith (.ListComp elt [⟨.Name x px,iter,ifs,0⟩] scope pos) (some (.Name y py)) spos.line X.env=pure true)
  (hc:X.calm=true) (hclos:closureFor scope X.env=pure cl) (hcl:AF X.env.cells cl) (hfree:(scope.names.all λp=>p.2 != .free||(cl.lookup p.1).isSome)=true) (hfr:pO X scope fr is) (hnd:(x::fr).Nodup)
  (hcell:∀y∈scope.names,y.2≠.cell) (hkind:scope.kind=.function) (hnames:∀y∈scope.names,y.2=.local->scope.names.lookup y.1=some .local) (hx:scope.names.lookup x=some .local)
  (hi:PI X (.Name x px) iter wi) (ht:∀C s₂ H₂ fp,Du (xV X scope cl (x::fr) C s₂ H₂ fp) ifs tt) (he:∀C s₂ H₂ fp,PE (xV X scope cl (x::fr) C s₂ H₂ fp) elt te) (hs:∀x,foldedSetIterable iter X.env x=pure x:=by intro _;rfl)
  (hf:X.fn y=true\/X.env.scope.names.lookup y=some .local:=by first|exact .inl rfl|exact .inr rfl|assumption):
  PS X (.Assign [.Name y py] (.ListComp elt [⟨.Name x px,iter,ifs,0⟩] scope pos) spos) (Bh (nq is wi tt te) (WR i)):=by
 intro pins s σ H D0 I h;rw[exec_Assign_Name_used _ _ _ _ hsw];refine wpAny_bind (wpAny_standAt (wpAny_bind ?_));show wpAny _ X.A (do let _ <- comprehension (.ListComp elt [⟨.Name x px,iter,ifs,0⟩] scope pos) scope X.env _ (newList []) false (eval iter X.env) (some (assign (.Name y py) X.env))) _ _ s;refine wpAny_bind (wpAny_mono (wpAny_comprehension_free (use:=some (assign (.Name y py) X.env)) (Q:=λ_ s'=>SP X pins D0 .next s') rfl hs hclos hkind hnames
  (thn (hi pins s σ H _ I h) λv s1 h1=>thn h1 λitv s2 h2=>?_)) (λ_ s' hq=>wpAny_pure (wpAny_pure hq)) λ_ _ e=>e)
 obtain⟨it,fp,tn,J,H2,e,I2,T,st2,f2,R⟩:=h2;subst e;refine thn (aS hc hcell hkind hx hcl hfree hfr hnd ht he I2 T st2 f2 R) λacc s3 h3=>thn h3 λcenv s4 h4=>codeAny_mono h4 λr s' q=>?_;cases r with
 |error e=>exact q.elim
 |ok f=>
  obtain⟨D,H',m,rfl,I',hn,fC,q⟩:=q;obtain⟨f0,f1,_,f3,f4,f5⟩:=fC;show wpAny _ _ (assign (.Name y py) X.env (.ref D)) _ _ _;refine wpAny_assign_Name (VD I' hN hiy hy (v:=.ref D) rfl (λs'' I'' zq=>?_) hf);obtain⟨a,sb,ha⟩:=zq;have hCa:cenv.locals≠a:=by
   rcases ha with rfl|ha
   .exact f1
   .exact Ne.symm (f4 y a ha)
  refine⟨m,hn.sameBut sb hCa,λh' sb'=>⟨_,H',I''.turned (t':=s''.toks) (λb o hb e=>(sb'.2 b hb).trans e) f0 f1 f3 f4 f5,q⟩⟩
end
section
variable{K:W.Frag}{σ:St}{H:Hp}{Q:VK}{is:List Nat}{tt:TT}{te:TE}
def lS(K:W.Frag)(is:List Nat)(tt:TT)(te:TE)(σ:St)(Q:VK)(x:V)(H:Hp):Prop:=∃a,x=.ref a/\(∃xs,SqL K H a xs)/\oH is tt te σ Q (Itl K a) H
theorem Bq{tl:TE}(h:tl σ H (lS K is tt te σ Q)):nq is (sI K tl) tt te σ H Q:=h
def NxC(n:Nat)(Pv:Nat->List V->Hp->Prop)(i:Nat)(ys:List V)(H:Hp):Prop:=∃m',m'<n-i/\m'=n-(i+1)/\i+1<=n/\Pv (i+1) ys H
theorem nxC{Pv:Nat->List V->Hp->Prop}{i:Nat}{ys:List V}(h:i<n)(p:Pv (i+1) ys H):NxC n Pv i ys H:=⟨_,by omega,rfl,h,p⟩
theorem Ez{s:St}{R:Bool->Hp->Prop}(h:R true H):EY s H R:=h
theorem WI(hx:SqL K H a xs)(hz:xs.length<=sizeLine)(Pv:Nat->List V->Hp->Prop)(h0:Pv 0 [] H)(hl:∀i ys H,i<=xs.length->Pv i ys H->SqL K H a xs/\ys.length<=i)
  (hs:∀i x ys H,xs[i]?=some x->i<xs.length->Pv i ys H->tt (some x::is.map λj=>(σ[j]?).getD none) H λok H2=>if ok=true then te (some x::is.map λj=>(σ[j]?).getD none) H2 λy H3=>NxC xs.length Pv i (ys++[y]) H3 else NxC xs.length Pv i ys H2)
  (hd:∀ys H,Pv xs.length ys H->∀p H',zR H H'->H' p=some (.lst ys)->Q (.ref p) H'):lS K is tt te σ Q (.ref a) H:=by
 refine⟨a,rfl,⟨xs,hx⟩,λi m ys H=>m=xs.length-i/\i<=xs.length/\Pv i ys H,⟨xs.length,by simp,zero_le _,h0⟩,?_⟩;rintro i m ys H ⟨rfl,hi,p⟩;obtain⟨q,ly⟩:=hl i ys H hi p;refine⟨by omega,?_⟩;by_cases hlt:i<xs.length
 .refine .inr ⟨⟨xs,xs[i],q,by simp[hlt]⟩,by omega,λx H' y=>?_⟩;obtain⟨e,y⟩:=y;subst e;exact hs i x ys _ (y xs q) hlt p
 .have e:i=xs.length:=by omega
  subst e;exact .inl ⟨⟨xs,q,Nat.le_refl _⟩,λp' hp=>hd ys H p p' _ (qz hp _) zO⟩
def nA(is:List Nat)(tt:TT)(te:TE)(σ:St)(Q:VK)(vs:List V)(H:Hp):Prop:=∃j:Int,vs=[.int j]/\-(2^62)<=j/\j<2^62/\oH is tt te σ Q (Itr 0 j.toNat) H
theorem Cc{ta:TA}(h:ta σ H (nA is tt te σ Q)):nq is (BX ta) tt te σ H Q:=h
theorem gQ(h1:-(2^62)<=j)(h2:j<2^62)(hz:j.toNat<=sizeLine)(Pv:Nat->List V->Hp->Prop)(h0:Pv 0 [] H)(hl:∀i ys H,i<=j.toNat->Pv i ys H->ys.length<=i)
  (hs:∀i ys H,i<j.toNat->Pv i ys H->tt (some (.int (0+i))::is.map λj=>(σ[j]?).getD none) H λok H2=>if ok=true then te (some (.int (0+i))::is.map λj=>(σ[j]?).getD none) H2 λy H3=>NxC j.toNat Pv i (ys++[y]) H3 else NxC j.toNat Pv i ys H2)
  (hd:∀ys H,Pv j.toNat ys H->∀p H',zR H H'->H' p=some (.lst ys)->Q (.ref p) H'):nA is tt te σ Q [.int j] H:=by
 refine⟨j,rfl,h1,h2,λi m ys H=>m=j.toNat-i/\i<=j.toNat/\Pv i ys H,⟨j.toNat,by simp,zero_le _,h0⟩,?_⟩;rintro i m ys H ⟨rfl,hi,p⟩;have ly:=hl i ys H hi p;refine⟨by omega,?_⟩;by_cases hlt:i<j.toNat
 .refine .inr ⟨hlt,by omega,λx H' y=>?_⟩;obtain⟨e,y⟩:=y;subst e y;exact hs i ys _ hlt p
 .have e:i=j.toNat:=by omega
  subst e;exact .inl ⟨Nat.le_refl _,λp' hp=>hd ys H p p' _ (qz hp _) zO⟩
end
section
variable{K:W.Frag}{σ:St}{H:Hp}{Q:VK}
theorem Cm{r:V->Option Int->Option Int->Hp->VK->Prop}{te:TE}{tl th:TO}(h:te σ H λx H1=>tl σ H1 λl H2=>th σ H2 λu H3=>r x l u H3 Q):tSl r te tl th σ H Q:=h
theorem rA{R:Option Int->Hp->Prop}(h:R none H):pG σ H R:=h
theorem E4{t:TE}{R:Option Int->Hp->Prop}(h:t σ H λx H1=>∃i,x=.int i/\R (some i) H1):FR t σ H R:=h
theorem Cg{R:Int->Prop}(h:R i):∃k,V.int i=.int k/\R k:=⟨i,rfl,h⟩
theorem G8{lo hi:Option Int}(h:SqL K H a xs)(q:∀p H',zR H H'->H' p=some (.lst (iz xs lo hi))->Q (.ref p) H'):Gq K (.ref a) lo hi H Q:=⟨a,xs,rfl,h,λp hp=>q p _ (qz hp _) zO⟩
theorem tP{b:Addr}{zs:List V}(h1:H l=some (.lst xs))(h2:H b=some (.lst zs))(hz:xs.length+zs.length<=sizeLine)(q:∀p H',zR H H'->H' p=some (.lst (xs++zs))->Q (.ref p) H'):oF (.ref l) (.ref b) H Q:=
 ⟨l,b,xs,zs,rfl,rfl,h1,h2,hz,λp hp=>q p _ (qz hp _) zO⟩
end
theorem As[Decidable c](h1:c->Q (.int 1) H)(h2:¬c->Q (.int 0) H):DA [.bl (decide c)] H Q:=by
 by_cases h:c
 .rw[decide_eq_true h];exact fB (h1 h)
 .rw[decide_eq_false h];exact fB (h2 h)
section
variable{X:Cx}
theorem XM:∀{us:List Value}{ns:List Int},IntsAre us ns->qP (ns.map V.int) us
 |_,_,.nil=>.nil
 |_,_,.cons n t h=>.cons ⟨t,rfl⟩ (XM h)
def mW(K:W.Frag):List V->Hp->VK->Prop:=λxs H Q=>∃(p:Addr)(ns:List Int),xs=[.ref p]/\SqL K H p (ns.map V.int)/\ns.length<64 /\
 ∀(ms:List Int)(q:Addr)(H':Hp),ms.Perm ns->ms.Pairwise (·<=·)->zR H H'->H' q=some (.lst (ms.map V.int))->Q (.ref q) H'
theorem fN:xa X (.builtin "sorted") (mW X.K):=by
 intro pins s σ H xs us Q I r h;obtain⟨p,ns,rfl,hq,h64,q⟩:=h;obtain⟨u,rfl,rx⟩:=YK r;cases rx;obtain⟨its,r',pl,hz⟩:=I.list hq;have hl:=r'.length;rw[length_map]at hl hz;refine sorted_ints pl.isList (iq r') (by omega) λout ms hi hp hs=>?_;obtain⟨e,he⟩:=sortedAll_at s.heap its out;have hms:ms.length=ns.length:=hp.length_eq;have hf:H (s.heap.objs.size+1)=none:=I.hok.fresh (Nat.le_succ _);refine⟨.ref (s.heap.objs.size+1),upd H (s.heap.objs.size+1) (.lst (ms.map V.int)),I.laid (t':=s.toks) (λ_ _=>sortedAll_old) (Nat.le_succ _) ⟨by rw[length_map,hms];exact hz,out.toList,e,XM hi,?_⟩,rfl,q _ _ _ hp hs (qz hf _) zO⟩;rw[he,Array.toArray_toList]
theorem pR{p:Addr}{ns:List Int}(h:SqL K H p (ns.map V.int))(h64:ns.length<64)(q:∀(ms:List Int)(q:Addr)(H':Hp),ms.Perm ns->ms.Pairwise (·<=·)->zR H H'->H' q=some (.lst (ms.map V.int))->Q (.ref q) H'):mW K [.ref p] H Q:=⟨p,ns,rfl,h,h64,q⟩
theorem di:bootBuiltins "sorted"=some (.builtin "sorted"):=by right
end
set_option maxHeartbeats 400000
abbrev VEB:List Value:=[.type "ValueError",.type "Exception",.type "BaseException",.type "object"]
structure Exc(K:W.Frag)(C:Addr):Prop where
 ex:W.excIn K C VEB "ValueError.__new__"=true
 h1:W.findIn K (.ref C) "__getattribute__"=some (some (.builtin "BaseException.__getattribute__"))
 h2:W.findIn K (.ref C) "__getattr__"=some none
 hb:W.mroIn K C (.type "BaseException")=some true
 hd:W.hasDictIn K C=true
 ha:W.findIn K (.ref C) "__class__"=some (some (.builtin "object.__class__"))
 hn:W.specialIn K (.builtin "object.__class__") "__get__"=some (some (.builtin "getset_descriptor.__get__"))
 ht:W.takesIn K (.builtin "object.__class__")=some true
 hm:W.mroIn K C (.type "object")=some true
def i7(x C:Addr)(h:Heap):Prop:=∃o,h.get? x=some o/\o.cls=.ref C/\∃vs,o.data=.fields vs
variable{C:Addr}{h h':Heap}
theorem i7.keep{x:Addr}(e:i7 x C h)(k:∀o,h.get? x=some o->h'.get? x=some o):i7 x C h':=let⟨o,a,b⟩:=e;⟨o,k o a,b⟩
section
open PySem.W PySem.Calls Builtin Builtin.ObjectAttr Builtin.Getset_descriptor
variable{K:Frag}{x C:Addr}{M:Model}{h:Heap}
theorem i7.ty(e:i7 x C h):Looks M h (typeOf (.ref x)) (.ref C):=by
 obtain⟨o,h1,h2,_⟩:=e;rw[<- h2];exact(Looks.ld h1).andThen .now
theorem CD{a g:Value}{name:Str}(X:K.In h)(h1:findIn K (.ref C) name=some (some a))(h2:specialIn K a "__get__"=some (some g))(h3:takesIn K a=some true):Looks M h (Builtin.ObjectAttr.find (.ref x) (.ref C) name) (.bind g a):=
 (looks_findIn X h1).andThen ((looks_specialIn X h2).andThen ((show Looks M h (Builtin.ObjectAttr.dataDescriptor? (some a) (some g)) (some (g,a))from(looks_takesIn X h3).andThen .now).andThen (Looks.tag .now)))
variable{prog:Program}{w:World}{A:Around}{E:Value ->Shared ->Prop}{s:Shared}
theorem FB{tp:Value}{R:Result->Shared->Prop}(X:K.In s.heap)(e:i7 x C s.heap)(c:Exc K C)(q:R (.ok (.ret (.ref C))) s):
  codeAny (model prog w) A (.call (.builtin "getset_descriptor.__get__") ⟨[.builtin "object.__class__",.ref x,tp],[]⟩) R s:=by
 obtain⟨hp,gn,dw,tk,os⟩:=s;have T0:=e.ty (M:=model prog w);have T1:=looks_mroIn (M:=model prog w) X c.hm;refine codeAny_call_builtin KF.slot_gs.plain KF.entry_gs
  (KF.slot_gs.check _ _ _ _ _ _ _ _ KF.type_class (KF.args_gs _ _ _) ?_)
 unfold Builtin.«getset_descriptor.__get__»;unfold descrGet;rw[dga_obj];refine wpAny_bind (wpAny_pure ?_);unfold descrGetter descrCheckInstance;unfold descrNameAndClass isInstance;simp only[KF.owner_class];repeat lk
 refine⟨Code.quiet_builtin _ (by right),
  codeAny_builtin KF.entry_class ?_⟩
 unfold Builtin.«object.__class__»;unfold shownTypeOf;repeat lk
 exact q
theorem pV{tk:Tok}{P:Value->Shared->Prop}(X:K.In s.heap)(e:i7 x C s.heap)(c:Exc K C)(q:P (.ref C) s):
  wpAny (model prog w) A (Builtin.«object.__getattribute__» ⟨[.ref x,.str "__class__" tk],[]⟩) (λfin s'=>match fin with|.done (.ret v)=>P v s'|_=>False) E s:=by
 obtain⟨hp,gn,dw,t',os⟩:=s;have T0:=e.ty (M:=model prog w);have T2:=CD (M:=model prog w) (x:=x) X c.ha c.hn c.ht;unfold Builtin.«object.__getattribute__»;refine wpAny_bind (wpAny_pure (wpAny_bind (wpAny_pure (wpAny_bind (T0.at (wpAny_bind (T2.at ?_)))))));show wpAny _ _ (holding [Value.builtin "object.__class__"] (call (.builtin "getset_descriptor.__get__") [.builtin "object.__class__",.ref x,.ref C])>>= ret) _ _ _;refine wpAny_bind (wpAny_holding (wpAny_call (FB X e c ?_)));exact wpAny_pure q
theorem Cf{tk:Tok}{R:Result->Shared->Prop}(X:K.In s.heap)(e:i7 x C s.heap)(c:Exc K C)(q:R (.ok (.ret (.ref C))) s):
  codeAny (model prog w) A (.call (.builtin "BaseException.__getattribute__") ⟨[.ref x,.str "__class__" tk],[]⟩) R s:=by
 refine codeAny_call_builtin PySem.F.attrBase_ValueError.ga.plain PySem.F.entry_bexc_ga ?_;have k0:builtinKind "BaseException.__getattribute__"=some .slot:=by right
 have k1:splitId "BaseException.__getattribute__"=some ("BaseException","__getattribute__"):=by right
 have k2:=PySem.F.args_bexc_ga (.ref x) (.str "__class__" tk);have T0:=e.ty (M:=model prog w);have T1:=looks_mroIn (M:=model prog w) X c.hb;have T4:Looks (model prog w) s.heap (isInstance (.ref x) (.type "BaseException")) true:=T0.andThen T1;simp only[checkBuiltinCall,k0,k1];refine wpAny_bind (T4.here ?_);rw[if_neg (by decide)];unfold argsOk at k2;generalize Manifest.signature? "BaseException.__getattribute__"=sg at k2 ⊢;have go:=wpAny_mono (E':=λe s'=>R (.error e) s') (pV (prog:=prog) (w:=w) (A:=A.in1) (tk:=tk) (E:=λ_ _=>False) (P:=λv s'=>R (.ok (.ret v)) s') X e c q) (Q':=λfin s'=>match fin with|.done f=>R (.ok f) s'|.again c'=>c'.quiet=true/\codeAny (model prog w) A c' R s') (λfin s' z=>by
  rcases fin with(_|_|_|_)|_<;>first|exact z|exact z.elim) λ_ _ z=>z.elim
 cases sg with
 |none=>exact wpAny_pure go
 |some sig=>
  dsimp only at k2 ⊢;rw[k2];exact wpAny_pure go
theorem ra{Q:Option Value->Shared->Prop}(X:K.In s.heap)(e:i7 x C s.heap)(c:Exc K C)(q:Q (some (.ref C)) { s with toks:=s.toks+1 }):wpAny (model prog w) A (getAttr? (.ref x) "__class__") Q E s:=by
 obtain⟨hp,gn,dw,tk,os⟩:=s;have T0:=e.ty (M:=model prog w);have T1:=looks_findIn (M:=model prog w) X c.h1;have T3:=looks_findIn (M:=model prog w) X c.h2;have B0:=PySem.F.attrBase_ValueError.ga.bind (.ref x);unfold getAttr? getAttrBy?;unfold getAttrBy;refine wpAny_bind (wpAny_mkText (wpAny_bind (wpAny_attempt
  (wpAny_holding (wpAny_bind (T0.at (wpAny_bind (T1.at ?_))))))))
 show wpAny _ _ (getAttrByItsOwn (.ref x) (.str "__class__" tk) (.ref C) (.builtin "BaseException.__getattribute__") false false) _ _ _;unfold getAttrByItsOwn;refine wpAny_bind ((show Looks (model prog w) hp (hookBefore (.ref C)) none from T3).at ?_);unfold callGetattribute;show wpAny _ _ (do match <- (holding [] (boundAndCalled (.builtin "BaseException.__getattribute__") (.ref x) (.str "__class__" tk))).attempt with|.ok v=>handedOut v|.error e'=>getattributeRaised _ _ _ e' _ _ _) _ _ _;unfold boundAndCalled;rw[B0];refine wpAny_bind (wpAny_attempt (wpAny_holding (wpAny_bind (wpAny_pure (wpAny_call (Cf X e c ?_))))));exact wpAny_mono (handed_on rfl q) (λv s'' hv=>wpAny_pure hv) λ_ _ z=>z
theorem E8(c:Exc K C):KitX K (.ref x) (.ref C) (i7 x C) where
 ty:=λ_ _ _ e=>e.ty
 it:=λ_ _ X _=>by
  obtain⟨cd,hc,_⟩:=any_some c.hd;unfold clsIn at hc;split at hc
  .rename_i ho;intro A' Q' E' s' k q;unfold isType loadHead;refine wpAny_bind (wpAny_loadPart (k _ _ (X _ _ ho)) ?_);exact wpAny_pure q
  .cases hc
 ne:=λh tp dd its n sl X htp=>by
  obtain⟨cd,hc,_⟩:=any_some c.hd;refine Bool.eq_false_iff.mpr λq=>?_;have z:C=tp:=Value.ref.inj (beq_iff_eq.mp q);subst z;unfold clsIn at hc;split at hc
  .rename_i ho;cases (X _ _ ho).symm.trans htp
  .cases hc
 ca:=λX e k=>ra X e c k
end
def CXE(P:Program)(w:World):CXT:=λouter H s E e s'=>∃(x C:Addr)(a0:Value)(H':Hp)(B:Heap),e=.ref x/\s'.os=s.os/\AllBare s'.gens/\Heap.FlyingW B outer x (.ref C) a0 s'.heap /\
 (∀h',B.StaysIn h'->s'.heap.UpToSlots h'->Un (frs outer) [] H H' s.heap h'/\HOk P w H' h')/\s.heap.get? x=none/\H' x=none/\E (.ref C) none H'
theorem x0.is(x:x0 P w H h a o):∃ob,h.get? a=some ob:=by
 cases o with
 |lst xs=>obtain⟨_,_,_,_,e⟩:=x;exact⟨_,e⟩
 |tup xs=>obtain⟨_,_,_,ob,e,_⟩:=x;exact⟨_,e⟩
 |dK kvs=>obtain⟨_,_,_,_,ob,_,_,e,_⟩:=x;exact⟨_,e⟩
 |dT kvs=>obtain⟨_,_,_,_,ob,_,_,e,_⟩:=x;exact⟨_,e⟩
 |set S n=>first|(obtain⟨ob,e,_⟩:=x;exact⟨_,e⟩)|(obtain⟨ob,es,e,_⟩:=x;exact⟨_,e⟩)|(obtain⟨ob,es,ep,e,_⟩:=x;exact⟨_,e⟩)|(obtain⟨ob,es,ep,z,e,_⟩:=x;exact⟨_,e⟩)
 |ins C dx fs=>obtain⟨_,_,_,e,_⟩:=x;exact⟨_,e⟩
 |own y=>exact x
 |xd fs=>obtain⟨_,⟨ob,_,_,e,_⟩,_⟩:=x;exact⟨_,e⟩
 |met f y=>exact⟨_,x⟩
 |rng lo hi=>obtain⟨_,_,_,e⟩:=x;exact⟨_,e⟩
 |frz o u=>exact⟨_,x.1⟩
 |tbl ps=>exact⟨_,x⟩
 |ext φ=>exact x.2.1
section
variable{P:Program}{w:World}{K:W.Frag}{mg:Str ->Option Value}{base:Heap}{N:List Str}{qual:Str}{scope:Scope}{f:Addr}{cd:Value}{A:Around}{outer:List Env}{s:Shared}{H:Hp}{E:XK}
theorem VT{pins:List (Addr×Obj)}{σ:St}{H1:Hp}{s1:Shared}{x:Addr}{args:List Value}
  (I:Inv (Ze (CXE P w) P w K mg base N qual scope f cd A outer s H E) pins σ H1 s1) (hm:Heap.MadeExcOf s1.heap h' x (.ref C) args) (q:E (.ref C) none H1):
  (Ze (CXE P w) P w K mg base N qual scope f cd A outer s H E).xe (.ref x) { s1 with heap:=h' }:=by
 have hst:∀b∈frs (envOfC qual scope s.heap.objs.size f cd::outer),H1 b=none:=I.stkFree;have hin:∀env∈(envOfC qual scope s.heap.objs.size f cd::outer),∀b,env.frame=some b->b∈frs (envOfC qual scope s.heap.objs.size f cd::outer):=λenv he b hb=>List.mem_filterMap.mpr ⟨env,he,hb⟩;have FF:s1.heap.FunFrames base (envOfC qual scope s.heap.objs.size f cd::outer):=I.stack;have old:∀b o,s.heap.get? b=some o->b≠s.heap.objs.size:=λb o e=>ne_of_lt (Heap.lt_size e);have sub:∀b,b∈frs (envOfC qual scope s.heap.objs.size f cd::outer)->b=s.heap.objs.size\/b∈frs outer:=λb hb=>List.mem_cons.mp (I.stkSub b hb);refine wpAny_leaves_madeW (base:=W.hideAll s1.heap (frs (envOfC qual scope s.heap.objs.size f cd::outer))) I.ok.frames rfl (λb o e=>W.of_hideAll _ e) (W.funFrames_hide FF hin) hm λh2 t f1 f2 f3 f4=>?_;refine⟨x,C,.ref t,H1,_,rfl,I.os,I.bare,f1,λh3 st sm=>?_,?_,?_,q⟩
 .have here:∀b o,s1.heap.get? b=some o->b∉frs (envOfC qual scope s.heap.objs.size f cd::outer)->h3.get? b=some o:=λb o e n=>st b o (W.hideAll_get _ e n);have fram:∀b o,s1.heap.get? b=some o->b∈frs (envOfC qual scope s.heap.objs.size f cd::outer)->∃sl,h3.get? b=some { o with slots:=sl }:=λb o e m=>by
   obtain⟨_,o',e',nf⟩:=FF.mem m;have z:o'=o:=Option.some.inj (e'.symm.trans e);subst z;obtain⟨sl,e2⟩:=f4 b o' (hm.keeps b o' e) nf;obtain⟨sl',e3⟩:=sm b _ e2 nf;exact⟨sl',e3⟩
  refine⟨⟨λb o e n hb hx=>?_,λb o e n hb hx=>?_,λb o e n hx=>I.base.free b o e n hx,λb o e hx=>?_,I.base.tups,I.base.frzs,I.base.tbls⟩,λa u e=>?_⟩
  .exact here b o (I.base.keep b o e n hb hx) λz=>(sub b z).elim (old b o e) hb
  .obtain⟨sl,e1⟩:=I.base.slot b o e n hb hx;have mem:b∈frs (envOfC qual scope s.heap.objs.size f cd::outer):=by
    show b∈List.filterMap _ _;rw[List.filterMap_cons];exact List.mem_cons_of_mem _ hb
   obtain⟨sl',e2⟩:=fram b _ e1 mem;exact⟨sl',e2⟩
  .obtain⟨o',e1⟩:=I.base.there b o e hx;by_cases mem:b∈frs (envOfC qual scope s.heap.objs.size f cd::outer)
   .obtain⟨sl,e2⟩:=fram b o' e1 mem;exact⟨_,e2⟩
   .exact⟨o',here b o' e1 mem⟩
  .refine(I.hok a u e).stay (λb ob hb eb=>here b ob eb λz=>?_) (λ_ z=>z) (λ_ _ z=>z);have:=hst b z;rcases hb with rfl|hb
   .rw[e]at this;cases this
   .rw[hb]at this;cases this
 .cases z:s.heap.get? x with
  |none=>rfl
  |some o=>
   obtain⟨o',e1⟩:=I.base.there x o z (λh=>nomatch h);have:=hm.new;rw[e1]at this;cases this
 .cases z:H1 x with
  |none=>rfl
  |some o=>
   obtain⟨ob,e1⟩:=(I.hok x o z).is;have:=hm.new;rw[e1]at this;cases this
end
theorem mq(X:K.In h)(c:Exc K C):∃tl N nm q bs hdct sn sub ab col dd k0 k1 k2 k3 k5 mN,
  h.get? C=some (excClassObj nm q C N bs tl hdct sn sub ab col dd k0 k1 k2 k3 k5 "ValueError.__new__")/\h.Ns N mN/\mN "__init__"=none/\OwnTail h VEB tl:=by
 refine Classical.byContradiction λng=>?_;have q:=c.ex;clear c;unfold W.excIn at q;generalize ho:K.lookup C=o at q;rcases o with _|⟨ty,dd,da,sl⟩
 .cases q
 cases ty<;>first|(exact absurd q Bool.false_ne_true)|skip
 rename_i tn;by_cases ht:tn="type"
 .subst ht;cases da<;>first|(exact absurd q Bool.false_ne_true)|skip
  rename_i cd;obtain⟨nm,bs,mro,ns,qn,hdc,sn,sub,ab,col,del⟩:=cd;cases sl with|mk l=>
  rcases mro with _|⟨m,bm⟩
  .exact absurd q Bool.false_ne_true
  cases m<;>first|(exact absurd q Bool.false_ne_true)|skip
  rcases l with _|⟨k0,_|⟨k1,_|⟨k2,_|⟨k3,_|⟨_|k4,l⟩⟩⟩⟩⟩<;>first|(exact absurd q Bool.false_ne_true)|skip
  cases k4<;>first|(exact absurd q Bool.false_ne_true)|skip
  rcases l with _|⟨k5,_|⟨k6,l⟩⟩<;>first|(exact absurd q Bool.false_ne_true)|skip
  have q:(_&&_)=true:=q;simp only[Bool.and_eq_true,beq_iff_eq,Bool.not_eq_true']at q;obtain⟨⟨⟨⟨⟨z1,z2⟩,hdel⟩,ht⟩,hok⟩,hni⟩:=q;subst z1 z2 hdel;exact ng ⟨bm,ns,nm,qn,bs,hdc,sn,sub,ab,col,dd,k0,k1,k2,k3,k5,h.nsMap ns,X _ _ ho,.of_isNs (W.isNs_of_in X hok),W.nsMap_none_of_in X hok hni,W.tail_of_in X ht⟩
 .unfold W.excIn.match_6 W.nsOkIn._sparseCasesOn_4 W.excIn._sparseCasesOn_6 at q;dsimp only at q;rw[dif_neg ht]at q;cases q
def nk(X:Cx)(E:XK):Prop:=∀(pins:List (Addr×Obj))(σ:St)(H:Hp)(s:Shared)(h':Heap)(x C:Addr)(args:List Value),Inv X pins σ H s->Heap.MadeExcOf s.heap h' x (.ref C) args->E (.ref C) none H->X.xe (.ref x) { s with heap:=h' }
def t8(C:Addr)(E:XK)(t:TA):TS:=λ_ σ H=>t σ H λvs H1=>vs.length<=sizeLine/\E (.ref C) none H1
variable{E:XK}
theorem ku{np cpos:Pos}{e:Expr}(tk:nk X E)(hc:X.calm=true)(c:Exc X.K C)(hg:Gl X x)(hm:X.mg x=some (.ref C))(ha:PA X (e::es) t)
  (hdb:Nd x:=by decide) (he:starEach (e::es) X.env=(false,eval e X.env)::starEach es X.env:=by rfl) (hpl:(backTo cpos (starEach es X.env)).any (·.1)=false:=by rfl):
  PS X (.Raise (some (.Call (.Name x np) (e::es) [] cpos)) none pos) (t8 C E t):=by
 intro pins s σ H D I h;obtain⟨tl,N,nm,q,bs,hdct,sn,sub,ab,col,dd,k0,k1,k2,k3,k5,mN,hC,hN,hni,T⟩:=mq I.ok.mod.kin c;refine wpAny_Raise_call_subT (C:=C) (bm:=tl) (mN:=mN) (N:=N) (nm:=nm) (q:=q) (bs:=bs) (hdct:=hdct) (sn:=sn) (sub:=sub) (ab:=ab) (col:=col) (dd:=dd) (k0:=k0) (k1:=k1) (k2:=k2) (k3:=k3) (k5:=k5) PySem.F.excBase_ValueError (T.hasType PySem.F.excBase_ValueError.hasBase) (I.ok.hd hc) (by rw[he];show(false||(backTo cpos (starEach es X.env)).any (·.1))=false;rw[hpl];rfl) hni (jG I hg hm ⟨rfl,?_⟩ hdb);have z:=ha cpos pins s σ H _ I h;rw[he]at z ⊢;refine Calls.evalArgs_plain (thn z λus s1 zq=>?_);obtain⟨vs,H1,I1,r,hl,qe⟩:=zq;have hv:us.length<=sizeLine:=by rw[<- r.length];exact hl
 exact⟨rfl,hv,I1.bk _ _ hC,hN.keeps I1.bk,T.keeps I1.bk,λh' y hm'=>tk pins σ H1 s1 h' y C us I1 hm' qe⟩
def Bj(P:Program)(w:World)(K:W.Frag)(mg:Str->Option Value)(base:Heap)(x:Str)(k:Nat)(ps:List Str)(sp:Sp):Prop:=
 ∃(f:Addr)(fd:FuncData),yX P w K mg base (CXE P w) k f fd ps sp/\mg x=some (.ref f)/\W.keepIn K (.ref f)=true/\xz K fd ps []
def XP(X:Cx)(pins:List (Addr×Obj))(σ:St)(E:XK)(e:Value)(s':Shared):Prop:=∃H1 s1,Inv X pins σ H1 s1/\CXE X.prog X.w X.stack H1 s1 E e s'
def Cx.inExc(X:Cx)(x:Addr):Cx:={ X with A:=X.A.mark (some (.ref x)),calm:=false,xe:=λ_ _=>False }
section
variable{X:Cx}{pins:List (Addr×Obj)}{σ:St}{H:Hp}{s:Shared}
theorem Cx.Ok.inExc(ok:X.Ok)(x:Addr):(X.inExc x).Ok:=
 ⟨ok.mod,ok.kind,ok.glob,ok.blt,ok.above,ok.inj,ok.has,ok.cab,(λz=>nomatch z),ok.frames,ok.stk,ok.exf,ok.bs,ok.bsz,ok.noex,ok.exfs,ok.funs,ok.frf⟩
theorem Inv.inExc(I:Inv X pins σ H s)(x:Addr):Inv (X.inExc x) pins σ H s:=⟨I.ok.inExc x,I.os,I.bare,I.base,I.loc,I.cell,I.free,I.freeC,I.pin,I.hok,I.len⟩
theorem Inv.outExc{x:Addr}(ok:X.Ok)(I:Inv (X.inExc x) pins σ H s):Inv X pins σ H s:=⟨ok,I.os,I.bare,I.base,I.loc,I.cell,I.free,I.freeC,I.pin,I.hok,I.len⟩
theorem Inv.track2(I:Inv X pins σ H s)(f0:H a=none)(f1:a≠X.env.locals)(f3:∀ob,X.s₀.heap.get? a≠some ob)(f4:∀x c,X.env.cells.lookup x=some c->c≠a)(f5:∀p∈X.pn++pins,p.1≠a)
  (new:x0 X.prog X.w (upd H a o) s.heap a o):Inv X pins σ (upd H a o) s:=by
 have up:∀b,H b=none->b≠a->upd H a o b=none:=λb e n=>by rw[zu n];exact e
 have st:∀{b u},H b=some u->upd H a o b=some u:=λ{b u}e=>by rw[zu (qI e f0)];exact e
 refine⟨I.ok,I.os,I.bare,⟨I.base.keep,I.base.slot,λb ob e n hx=>up b (I.base.free b ob e n hx) (λz=>f3 ob (z▸e)),I.base.there,λb xs e=>st (I.base.tups b xs e),λb ob u e=>st (I.base.frzs b ob u e),λb ps e=>?_⟩,I.loc,I.cell,up _ I.free (Ne.symm f1),λx c e=>up c (I.freeC x c e) (f4 x c e),λp hp=>?_,I.hok.track f0 new,I.len⟩
 .obtain⟨m,q⟩:=I.base.tbls b ps e;exact⟨m,st q⟩
 .obtain⟨e,n,r⟩:=I.pin p hp;exact⟨e,up _ n (f5 p hp),r⟩
theorem Inv.renamed{m':Str->Option Value}{t':Nat}(I:Inv X pins σ H s)(hs:Heap.SameBut X.env.locals s.heap h')(hn:h'.Ns X.env.locals m'):Inv X pins (List.replicate σ.length none) H { s with heap:=h',toks:=t' }:=by
 have ne0:∀b o,X.s₀.heap.get? b=some o->b≠X.env.locals:=λb o e=>ne_of_lt (lt_of_lt_of_le (Heap.lt_size e) I.ok.above);have at':∀b o,b≠X.env.locals->s.heap.get? b=some o->h'.get? b=some o:=λb o n e=>(hs.2 b n).trans e;refine⟨I.ok,I.os,I.bare,⟨λb o e n hb hx=>at' b o (ne0 b o e) (I.base.keep b o e n hb hx),λb o e n hb hx=>?_,I.base.free,λb o e hx=>?_,I.base.tups,I.base.frzs,I.base.tbls⟩,⟨m',hn,λi x v _ e _=>?_⟩,λx c e=>?_,I.free,I.freeC,λp hp=>?_,λa u e=>?_,?_⟩
 .obtain⟨sl,e1⟩:=I.base.slot b o e n hb hx;exact⟨sl,at' b _ (ne0 b o e) e1⟩
 .obtain⟨o',e1⟩:=I.base.there b o e hx;exact⟨o',at' b o' (ne0 b o e) e1⟩
 .rw[List.getElem?_replicate]at e;split at e<;>simp at e
 .obtain⟨v,o,ho,hd⟩:=I.cell x c e;exact⟨v,o,at' c o (I.cne x c e) ho,hd⟩
 .obtain⟨e,n,ne,r⟩:=I.pin p hp;exact⟨at' _ _ ne e,n,ne,r⟩
 .refine(I.hok a u e).stay (λb ob hb eb=>at' b ob (λz=>?_) eb) (λ_ z=>z) (λ_ _ z=>z);have:=I.free;rw[<- z]at this;rcases hb with rfl|hb
  .rw[e]at this;cases this
  .rw[hb]at this;cases this
 .rw[length_replicate];exact I.len
end
section
variable{X:Cx}{H:Hp}{Q:VK}{K:W.Frag}
theorem Fun.okX {base:Heap} {qual:Str} {st:Stmt} {f:Addr} {N:List Str} (F:Fun K x qual st f fd) (S:zI N ps (zC st)) (len : ∀ vs H Q E,sp vs H Q E->vs.length=ps.length)
  (hbody : ∀ (cdv:Value) (A:Around) (outer:List Env) (s:Shared) (H:Hp) (vs:List V) (Q:VK) (E:XK),xP k (A.deeper (envOfC qual (zC st) s.heap.objs.size f cdv))->sp vs H Q E ->
   nk (Ze (CXE P w) P w K mg base N qual (zC st) f cdv A outer s H E) E -> ∃ t,PSs (Ze (CXE P w) P w K mg base N qual (zC st) f cdv A outer s H E) (zp st) t/\t { nx:=fun _ H'=>Q .non H',rt:=Q } (start N vs) H):yX P w K mg base (CXE P w) (k+1) f fd ps sp:=by
 obtain ⟨oc,od,kV,doc,pm,an,cdv,ct,osl,rfl,lk,hcd⟩:=F.ex
 exact iV lk hcd S len fun A outer s H vs Q E hr hsp=>hbody cdv A outer s H vs Q E hr hsp fun pins σ H s h' x C args I hm q=>VT I hm q
theorem yX.calm {base:Heap} {f:Addr} (F:yX P w K mg base (CXE P w) k f fd ps sp):yX P w K mg base CX0 k f fd ps (fun vs H Q _=>sp vs H Q E0):=
 ⟨fun vs H Q _ h=>F.len vs H Q E0 h,fun A outer s H args us vs Q _ hr he hb hv hs=>codeAny_mono (F.run A outer s H args us vs Q E0 hr he hb hv hs) fun r s' hq=>by
  cases r with
  | ok fl=>cases fl <;> exact hq
  | error e =>
   obtain ⟨_,_,_,_,_,_,_,_,_,_,_,_,z⟩:=hq
   exact z.elim⟩
end
section
variable{X:Cx}{H:Hp}{Q:VK}{K:W.Frag}{σ:St}{pos p1 p2:Pos}{n1 n2:Nat}{a b:Int}
def Fx(p:Addr):HO:=.ext (W.KitAt p "dict")
inductive Odd(H:Hp):V->Prop where
 |non:Odd H .non
 |bl (b:Bool):Odd H (.bl b)
 |str (x:Str):Odd H (.str x)
 |lst {p:Addr} {xs:List V} (e:H p=some (.lst xs)):Odd H (.ref p)
 |tup {p:Addr} {xs:List V} (e:H p=some (.tup xs)):Odd H (.ref p)
 |dct {p:Addr} (e:H p=some (Fx p)):Odd H (.ref p)
theorem Odd.same{v:V}(h:Odd H v)(g:zR H H'):Odd H' v:=by
 cases h with
 |non=>exact .non
 |bl b=>exact .bl b
 |str x=>exact .str x
 |lst e=>exact .lst (g _ _ e)
 |tup e=>exact .tup (g _ _ e)
 |dct e=>exact .dct (g _ _ e)
def fI(K:W.Frag):List V->Hp->VK->Prop:=λxs H Q=>C6 K xs H Q\/∃p T b,xs=[.ref p,.ty T]/\H p=some (Fx p)/\W.kitOne K (.type "dict") (.type T)=some b/\Q (.bl b) H
theorem nu{i:Bool}{T:String}{b:Bool}(e:W.kitOne K (.type "bool") (.type T)=some b)(q:Q (.bl b) H):fI K [.bl i,.ty T] H Q:=.inl (JN (.bl i) ⟨_,.inl rfl⟩ e q)
theorem ij{T:String}{b:Bool}(e:W.kitOne K (.type "str") (.type T)=some b)(q:Q (.bl b) H):fI K [.str x,.ty T] H Q:=.inl (JN (.str x) ⟨_,.inl rfl⟩ e q)
theorem gs{T:String}{b:Bool}(e:W.kitOne K (.type "NoneType") (.type T)=some b)(q:Q (.bl b) H):fI K [.non,.ty T] H Q:=.inl (JN .non ⟨_,.inl rfl⟩ e q)
theorem hZ{p:Addr}{T:String}{b:Bool}(h:H p=some (.lst xs))(e:W.kitOne K (.type "list") (.type T)=some b)(q:Q (.bl b) H):fI K [.ref p,.ty T] H Q:=.inl (JN (.lst h) ⟨_,.inl rfl⟩ e q)
theorem ig{p:Addr}{T:String}{b:Bool}(h:H p=some (.tup xs))(e:W.kitOne K (.type "tuple") (.type T)=some b)(q:Q (.bl b) H):fI K [.ref p,.ty T] H Q:=.inl (JN (.tup h) ⟨_,.inl rfl⟩ e q)
theorem ii{p:Addr}{T:String}{b:Bool}(h:H p=some (Fx p))(e:W.kitOne K (.type "dict") (.type T)=some b)(q:Q (.bl b) H):fI K [.ref p,.ty T] H Q:=.inr ⟨p,T,b,rfl,h,e,q⟩
theorem Odd.int{v:V}(h:Odd H v)(q1:Q (.bl true) H)(q0:Q (.bl false) H):fI K [v,.ty "int"] H Q:=by
 cases h with
 |non=>exact gs (YB K) q0
 |bl b=>exact nu (Wv K) q1
 |str x=>exact ij (eS K) q0
 |lst e=>exact hZ e (Wf K) q0
 |tup e=>exact ig e (K2 K) q0
 |dct e=>exact ii e (dY K) q0
theorem i9{D:Z0}(h:t σ H λvs H1=>vs.length<=sizeLine/\E (.ref C) none H1):t8 C E t D σ H:=h
def spc(sp:Sp):Sp:=λvs H Q _=>sp vs H Q E0
def Nm(K:W.Frag)(x:Str)(C:Addr):Prop:=W.nsIn K mainGlobals x=some (some (.ref C))
theorem Nm.eq{C':Addr}(h:Nm K x C)(h':Nm K x C'):C=C':=by
 have:=h.symm.trans h';cases this;rfl
variable{env:Env}
theorem Yu{c:Const}:starEach (.Constant c n p::es) env=(false,eval (.Constant c n p) env)::starEach es env:=rfl
theorem qT:starEach (.Name x p::es) env=(false,eval (.Name x p) env)::starEach es env:=rfl
theorem qB{a b:Expr}:starEach (.Subscript a b p::es) env=(false,eval (.Subscript a b p) env)::starEach es env:=rfl
theorem iW{a:Expr}{os:List CmpOp}{bs:List Expr}:starEach (.Compare a os bs p::es) env=(false,eval (.Compare a os bs p) env)::starEach es env:=rfl
theorem B7{T:String}{r:V->List V->Hp->VK->Prop}{to:TE}(h:to σ H λx H1=>tyV K T x H1/\t σ H1 λxs H2=>r x xs H2 Q):tBM K T r to t σ H Q:=h
theorem Ab{p:Addr}{R:Prop}(h:SqL K H p xs)(q:R):tyV K "list" (.ref p) H/\R:=⟨.inl ⟨rfl,_,h⟩,q⟩
theorem y2{y:V}(h:H l=some (.lst xs))(h2:xs.length<sizeLine)(q:Q .non (upd H l (.lst (xs++[y])))):eX (.ref l) [y] H Q:=⟨l,xs,y,rfl,rfl,h,h2,q⟩
def SB(r:Addr)(H F:Hp):Prop:=∀b o,b≠r->H b=some o->F b=some o
variable{r:Addr}{F:Hp}
theorem SB.put(h:SB r H F):SB r H (upd F r o):=λb u n e=>by rw[zu n];exact h b u n e
theorem SB.then{G:Hp}(h:SB r H F)(g:zR F G):SB r H G:=λb u n e=>g _ _ (h b u n e)
theorem SB.refl:SB r H H:=λ_ _ _ e=>e
theorem SB.same(h:SB r H F)(n:H r=none):zR H F:=λb o e=>h b o (qI e n) e
end
section
variable{X:Cx}{H:Hp}{Q:VK}{K:W.Frag}
def lj:R2:=λx y H Q=>∃i j:Str,x=.str i/\y=.str j/\i.length+j.length<=sizeLine/\Q (.str (i++j)) H
theorem qA:OpR X (binaryOp .Add) lj:=iT
theorem FV{i j:Str}(hz:i.length+j.length<=sizeLine)(q:Q (.str (i++j)) H):lj (.str i) (.str j) H Q:=⟨i,j,rfl,rfl,hz,q⟩
variable{z:Str}
theorem DK{c:Nat}(hz:z.length<=sizeLine)(e:atI z.cps.toList i=some c)(q:Q (.str ⟨#[c]⟩) H):uQ (.str z) (.int i) H Q:=⟨z,i,c,rfl,rfl,hz,e,q⟩
def tM:List V->Hp->VK->Prop:=λxs H Q=>∃z:Str,xs=[.str z]/\z.length<=sizeLine/\Q (.int z.length) H
theorem za:xa X (.builtin "len") tM:=dj
theorem Dz(hz:z.length<=sizeLine)(q:Q (.int z.length) H):tM [.str z] H Q:=⟨z,rfl,hz,q⟩
def Dd:R2:=λx y H Q=>∃i j:Str,x=.str i/\y=.str j/\Q (.bl (!(Builtin.Str.occurrences j i 0 j.length 1).isEmpty)) H
theorem KP:OpR X (compareOp .In) Dd:=lq
theorem E6{i j:Str}(q:Q (.bl (!(Builtin.Str.occurrences j i 0 j.length 1).isEmpty)) H):Dd (.str i) (.str j) H Q:=⟨i,j,rfl,rfl,q⟩
theorem uU{i j:Str}(q:Q (.bl (decide (i=j))) H):rEq (.str i) (.str j) H Q:=gx rfl q
theorem sO(q:Q (.bl true) H):C6 K [.str x,.ty "str"] H Q:=JN (.str x) ⟨_,.inl rfl⟩ (eM K) q
def sM:V->Option Int->Option Int->Hp->VK->Prop:=λx lo hi H Q=>∃z:Str,x=.str z/\z.length<=sizeLine/\Q (.str (Txt.slice z lo hi)) H
theorem xk:SlR X sM:=by
 intro pins s σ H x v vl vu lo hi sl Q I rx hs pl pu h;obtain⟨z,rfl,hz,q⟩:=h;obtain⟨t,rfl⟩:=rx;refine⟨"str",_,PySem.F.slot_str_getitem.lookup,typeIs_str _ _ _,?_⟩;have fin:∀(t':Tok)(k:Nat),EP X pins σ Q (.str (Txt.slice z lo hi) t') { s with toks:=k }:=λt' k=>⟨.str _,H,I.tok _,⟨t',rfl⟩,q⟩
 have le:=le_trans (Txt.slice_le z lo hi) hz;cases pl<;>cases pu
 .exact wpAny_getItem_str_slice (l:=none) (u:=none) (st:=none) hs rfl (post_val_or_str ⟨le,fin⟩)
 .exact wpAny_getItem_str_slice (l:=none) (u:=some (_,_)) (st:=none) hs rfl (post_val_or_str ⟨le,fin⟩)
 .exact wpAny_getItem_str_slice (l:=some (_,_)) (u:=none) (st:=none) hs rfl (post_val_or_str ⟨le,fin⟩)
 .exact wpAny_getItem_str_slice (l:=some (_,_)) (u:=some (_,_)) (st:=none) hs rfl (post_val_or_str ⟨le,fin⟩)
theorem sQ{lo hi:Option Int}(hz:z.length<=sizeLine)(q:Q (.str (Txt.slice z lo hi)) H):sM (.str z) lo hi H Q:=⟨z,rfl,hz,q⟩
end
abbrev Lt(x:Str):List Nat:=x.cps.toList
def T(l:List Nat):Str:=⟨l.toArray⟩
theorem YN(l:List Nat):Lt (T l)=l:=rfl
theorem XR(x:Str):T (Lt x)=x:=by cases x;simp[T,Lt]
variable{y:Str}
theorem Vw(h:Lt x=Lt y):x=y:=by rw[<- XR x,<- XR y,h]
theorem Fy{a b:List Nat}:T a=T b↔a=b:=⟨λh=>by have:=congrArg Lt h;rwa [YN,YN]at this,λh=>by rw[h]⟩
theorem DN(x:Str):x.length=(Lt x).length:=rfl
theorem G9(x y:Str):x++y=T (Lt x++Lt y):=Vw (by rw[YN];show(x.cps++y.cps).toList=_;simp)
theorem kX{a b:List Nat}{i:Nat}(h:i<a.length):(a++b).getD i 0=a.getD i 0:=by
 rw[getD_eq_getElem?_getD,getD_eq_getElem?_getD,List.getElem?_append_left h]
theorem dS{a b:List Nat}{i:Nat}(h:a.length<=i):(a++b).getD i 0=b.getD (i-a.length) 0:=by
 rw[getD_eq_getElem?_getD,getD_eq_getElem?_getD,List.getElem?_append_right h]
theorem oi(l:List Nat)(a:Nat):∀m:Nat,(List.range m).filterMap (λk=>l[a+k]?)=(l.drop a).take m
 |0=>by simp
 |m+1=>by
  rw[List.range_succ,List.filterMap_append,oi l a m,List.take_succ];congr 1;rw[List.getElem?_drop];rw[List.filterMap_cons];cases l[a+m]?<;>rfl
def cl(n d:Nat):Option Int->Nat
 |none=>d
 |some i=>(max 0 (min (if i<0 then i+n else i) (n:Int))).toNat
theorem K1(z:Str)(lo hi:Option Int):Txt.slice z lo hi=T (((Lt z).take (cl (Lt z).length (Lt z).length hi)).drop (cl (Lt z).length 0 lo)):=by
 have e:Builtin.Str.strSliceIndices lo hi 1 z.length=(List.range (cl (Lt z).length (Lt z).length hi-cl (Lt z).length 0 lo)).map (λx=>cl (Lt z).length 0 lo+x):=by
  rw[<- sliceRange_one];unfold Builtin.Str.strSliceIndices;cases lo<;>cases hi<;>simp[cl,DN,Int.toNat_of_nonneg,Int.le_max_left]
 have k:(List.filterMap (λx=>z.cps[x]?) (Builtin.Str.strSliceIndices lo hi 1 z.length))=((Lt z).take (cl (Lt z).length (Lt z).length hi)).drop (cl (Lt z).length 0 lo):=by
  rw[e,List.filterMap_map];have f:((λx=>z.cps[x]?)∘λx=>cl (Lt z).length 0 lo+x)=λk=>(Lt z)[cl (Lt z).length 0 lo+k]?:=by funext k;simp[Lt]
  rw[f,oi,List.drop_take]
 unfold Txt.slice;split
 .rename_i h;have hl:(Builtin.Str.strSliceIndices lo hi 1 z.length).length=(Lt z).length:=(by simpa using h:_=z.length)
  rw[e,length_map,List.length_range]at hl;have b1:cl (Lt z).length (Lt z).length hi<=(Lt z).length:=by
   unfold cl;split<;>omega
  rcases eq_zero_or_pos (Lt z).length with p|p
  .rw[eq_nil_of_length_eq_zero p];simp;exact Vw (eq_nil_of_length_eq_zero p)
  .rw[show cl (Lt z).length 0 lo=0 by omega,show cl (Lt z).length (Lt z).length hi=(Lt z).length by omega,take_length,drop_zero,XR]
 .rw[k];rfl
section
variable{X:Cx}{H:Hp}{Q:VK}{K:W.Frag}
theorem ou(hz:(Lt x).length+(Lt y).length<=16777216)(q:Q (.str (T (Lt x++Lt y))) H):lj (.str x) (.str y) H Q:=FV hz (by rw[G9];exact q)
variable{z:Str}
theorem ti(hz:(Lt z).length<=16777216)(q:Q (.int (Lt z).length) H):tM [.str z] H Q:=Dz hz q
theorem pf(hz:(Lt z).length<=16777216)(h0:0<=i)(h1:i<(Lt z).length)(q:Q (.str (T [(Lt z).getD i.toNat 0])) H):uQ (.str z) (.int i) H Q:=by
 refine DK (c:=(Lt z).getD i.toNat 0) hz ?_ q;unfold atI ixN;rw[if_pos h0,if_pos h1];show(Lt z)[i.toNat]?=_;rw[getD_eq_getElem?_getD,getElem?_eq_getElem (by omega)];rfl
theorem oK(n:Nat)(hn:(Lt z).length=n)(hz:n<=16777216)(h0:0<=i)(h1:i<n)(q:∀c,c∈Lt z->Q (.str (T [c])) H):uQ (.str z) (.int i) H Q:=by
 refine pf (by omega) h0 (by omega) (q _ ?_);rw[getD_eq_getElem?_getD,getElem?_eq_getElem (by omega)];exact getElem_mem _
theorem Fl(hz:(Lt z).length<=16777216)(h1:0<(Lt z).length)(q:Q (.str (T [(Lt z).getD ((Lt z).length-1) 0])) H):uQ (.str z) (.int (-1)) H Q:=by
 refine DK (c:=(Lt z).getD ((Lt z).length-1) 0) hz ?_ q;unfold atI ixN;rw[if_neg (show ¬(0:Int)<=-1 by decide),if_pos (show -((Lt z).length:Int)<=-1 by omega)];show(Lt z)[((-1:Int)+(Lt z).length).toNat]?=_;rw[show((-1:Int)+(Lt z).length).toNat=(Lt z).length-1 by omega,getD_eq_getElem?_getD,getElem?_eq_getElem (by omega)];rfl
theorem EM(hz:(Lt z).length<=16777216)(h:0<=j)(q:Q (.str (T ((Lt z).take j.toNat))) H):sM (.str z) none (some j) H Q:=by
 refine sQ hz ?_;rw[K1];have e:(Lt z).take (cl (Lt z).length (Lt z).length (some j))=(Lt z).take j.toNat:=by
  unfold cl;dsimp only;rw[if_neg (by omega)];rcases Int.le_total j (Lt z).length with p|p
  .rw[Int.min_eq_left p,max_eq_right h]
  .rw[Int.min_eq_right p,max_eq_right (by omega),take_of_length_le (by omega),take_of_length_le (by omega)]
 rw[e];exact q
theorem ow(l:List Nat)(h:0<=i)(n d:Nat)(hn:l.length<=n):l.drop (cl n d (some i))=l.drop i.toNat:=by
 unfold cl;dsimp only;rw[if_neg (by omega)];rcases Int.le_total i n with p|p
 .rw[Int.min_eq_left p,max_eq_right h]
 .rw[Int.min_eq_right p,max_eq_right (by omega),drop_of_length_le (by omega),drop_of_length_le (by omega)]
theorem BG(l:List Nat)(h:0<=i)(d:Nat):l.take (cl l.length d (some i))=l.take i.toNat:=by
 unfold cl;dsimp only;rw[if_neg (by omega)];rcases Int.le_total i l.length with p|p
 .rw[Int.min_eq_left p,max_eq_right h]
 .rw[Int.min_eq_right p,max_eq_right (by omega),take_of_length_le (by omega),take_of_length_le (by omega)]
theorem Ev(hz:(Lt z).length<=16777216)(h:0<=i)(q:Q (.str (T ((Lt z).drop i.toNat))) H):sM (.str z) (some i) none H Q:=by
 refine sQ hz ?_;rw[K1,ow _ h _ _ (by rw[length_take];omega)];show Q (.str (T (((Lt z).take (Lt z).length).drop i.toNat))) H;rw[take_length];exact q
theorem CV(hz:(Lt z).length<=16777216)(h:0<=i)(h':0<=j)(q:Q (.str (T (((Lt z).take j.toNat).drop i.toNat))) H):sM (.str z) (some i) (some j) H Q:=by
 refine sQ hz ?_;rw[K1,ow _ h _ _ (by rw[length_take];omega),BG _ h'];exact q
def EK:R2:=λx y H Q=>∃(z:Str)(n:Int),x=.str z/\y=.int n/\n<16777216/\-16777216<n/\(Lt z).length*n.toNat<=16777216/\Q (.str (T (List.replicate n.toNat (Lt z)).flatten)) H
theorem dH:∀(xs:List (Array Nat))(a:Array Nat),(xs.foldl (λx1 x2=>x1++x2) a).toList=a.toList++(xs.map Array.toList).flatten
 |[],a=>by simp
 |x::xs,a=>by rw[foldl_cons,dH xs];simp
theorem GC(z:Str)(n:Int):Txt.mul z n=T (List.replicate n.toNat (Lt z)).flatten:=by
 unfold Txt.mul;split
 .rw[show n.toNat=0 by omega];rfl
 .split
  .rename_i h1 h2;rw[Bool.or_eq_true]at h2;rcases h2 with h|h
   .have:n=1:=by simpa using h
    subst this;show z=T ([Lt z].flatten);simp[XR]
   .have e:(Lt z).length=0:=(by simpa using h:z.length=0)
    have e':Lt z=[]:=eq_nil_of_length_eq_zero e;refine Vw ?_;rw[YN,e'];simp
  .refine Vw ?_;show(List.foldl (λx1 x2=>x1++x2) #[] (List.replicate n.toNat z.cps)).toList=_;rw[dH,List.map_replicate,YN];simp
theorem Zu:OpR X (binaryOp .Mult) EK:=by
 intro pins s σ H x y v u Q I rx ry h;obtain⟨z,n,rfl,rfl,h1,h2,h3,q⟩:=h;obtain⟨t,rfl⟩:=rx;obtain⟨t',rfl⟩:=ry;refine SB.mul ⟨?_,λh4 _=>?_,λ_ _=>?_⟩ λt' k=>⟨.str _,H,I.tok _,⟨t',rfl⟩,by rw[GC];exact q⟩
 .rw[decide_eq_false (by omega),decide_eq_false (by omega)];rfl
 .have e:((Lt z).length:Int)*n<=16777216:=by
   have:=Int.ofNat_le.mpr h3;rw[Int.natCast_mul,Int.toNat_of_nonneg (by omega)]at this;exact this
  intro h5;have h6:=Int.mul_le_of_le_ediv (c:=n) (by omega) (Int.le_refl ((2^63-1)/n));have h7:((2:Int)^63-1)/n+1<=(Lt z).length:=h5;have h8:=Int.mul_le_mul_of_nonneg_right h7 (show 0<=n by omega);have h9:=Int.lt_ediv_add_one_mul_self ((2:Int)^63-1) (show 0<n by omega);omega
 .unfold Builtin.Str.tooLong;exact decide_eq_false (by show ¬(Lt z).length*n.toNat>16777216;omega)
theorem BR{c:Nat}{n:Int}(h1:n<16777216)(h2:-16777216<n)(q:Q (.str (T (List.replicate n.toNat c))) H):EK (.str (T [c])) (.int n) H Q:=
 ⟨T [c],n,rfl,rfl,h1,h2,by rw[YN,length_singleton,Nat.one_mul];omega,by rw[YN,List.flatten_replicate_singleton];exact q⟩
theorem ol{i j:Str}(q:Q (.bl (!decide (i=j))) H):rNe (.str i) (.str j) H Q:=⟨rfl,by
 have e:decide (V.str i=V.str j)=decide (i=j):=by
  by_cases h:i=j
  .rw[decide_eq_true h,decide_eq_true (congrArg V.str h)]
  .rw[decide_eq_false h,decide_eq_false (λz=>h (V.str.inj z))]
 rw[e];exact q⟩
theorem BW{a b:List Nat}(hz:a.length+b.length<=16777216)(q:Q (.str (T (a++b))) H):lj (.str (T a)) (.str (T b)) H Q:=ou hz q
theorem mj{a:List Nat}(hz:a.length+(Lt y).length<=16777216)(q:Q (.str (T (a++Lt y))) H):lj (.str (T a)) (.str y) H Q:=ou hz q
theorem Be{a:List Nat}(hz:a.length<=16777216)(q:Q (.int a.length) H):tM [.str (T a)] H Q:=ti hz q
theorem Dw{a:List Nat}(hz:a.length<=16777216)(h0:0<=i)(h1:i<a.length)(q:Q (.str (T [a.getD i.toNat 0])) H):uQ (.str (T a)) (.int i) H Q:=pf hz h0 h1 q
theorem BS{a:List Nat}(hz:a.length<=16777216)(h1:0<a.length)(q:Q (.str (T [a.getD (a.length-1) 0])) H):uQ (.str (T a)) (.int (-1)) H Q:=Fl hz h1 q
theorem CK{a:List Nat}(hz:a.length<=16777216)(h:0<=j)(q:Q (.str (T (a.take j.toNat))) H):sM (.str (T a)) none (some j) H Q:=EM hz h q
theorem Bt{a:List Nat}(hz:a.length<=16777216)(h:0<=i)(q:Q (.str (T (a.drop i.toNat))) H):sM (.str (T a)) (some i) none H Q:=Ev hz h q
theorem rX{a:List Nat}(hz:a.length<=16777216)(h:0<=i)(h':0<=j)(q:Q (.str (T ((a.take j.toNat).drop i.toNat))) H):sM (.str (T a)) (some i) (some j) H Q:=CV hz h h' q
theorem AG{a b:List Nat}(q:Q (.bl (decide (a=b))) H):rEq (.str (T a)) (.str (T b)) H Q:=uU (by
 have e:decide (T a=T b)=decide (a=b):=decide_eq_decide.mpr Fy;rw[e];exact q)
theorem uO{a b:List Nat}(q:Q (.bl (!decide (a=b))) H):rNe (.str (T a)) (.str (T b)) H Q:=ol (by
 have e:decide (T a=T b)=decide (a=b):=decide_eq_decide.mpr Fy;rw[e];exact q)
theorem Bi(h:decide (x=y)=b)(q:Q (.bl (!b)) H):rNe (.str x) (.str y) H Q:=ol (by rw[h];exact q)
theorem jF{p:Addr}(h:SqL K H p xs)(h0:0<=i)(h1:i<xs.length)(q:∀x,xs[i.toNat]?=some x->Q x H):Aa K (.ref p) (.int i) H Q:=by
 have h2:i.toNat<xs.length:=by omega
 have e:atI xs ((i.toNat:Nat):Int)=some xs[i.toNat]:=nX (getElem?_eq_getElem h2);rw[show((i.toNat:Nat):Int)=i by omega]at e;exact iX h e (q _ (getElem?_eq_getElem h2))
def oC:V->List V->Hp->VK->Prop:=λx xs H Q=>∃z y:Str,x=.str z/\xs=[.str y]/\Q (.int (Txt.find z y)) H
theorem rk:MtR X "str.find" oC:=by
 intro pins s σ H x xs v us Q I rx rv h;obtain⟨z,y,rfl,rfl,q⟩:=h;obtain⟨t,rfl⟩:=rx;obtain⟨u,rfl,ru⟩:=rv.one;obtain⟨t',rfl⟩:=ru;exact SC.find ⟨.int _,H,I.tok _,⟨_,rfl⟩,q⟩
theorem oU(q:Q (.int (Txt.find z y)) H):oC (.str z) [.str y] H Q:=⟨z,y,rfl,rfl,q⟩
theorem Dv{R:Prop}(q:R):tyV K "str" (.str z) H/\R:=⟨rfl,q⟩
end
def Its(x:Str):It:=⟨λi _=>i<(Lt x).length,λi H v H'=>H'=H/\∃c,(Lt x)[i]?=some c/\v=.str (T [c]),λi _=>i=(Lt x).length⟩
theorem rJ{K:PySem.W.Frag}{tg:Expr}(x:Str)(t:Tok)(it:Addr)(ty:String)(hty:ty="str_ascii_iterator"\/ty="str_iterator"):CZ P w K tg (Its x) [it] it (λi h=>h.IsStrIter it ty x t i) where
 mem:=by simp
 obj:=λi h st b hb=>by
  have e:b=it:=by simpa using hb
  subst e;obtain⟨o,e,c,d⟩:=st;exact⟨o,e,λv z=>by rw[d]at z;cases z⟩
 keep:=λi h h' st k=>by
  obtain⟨o,e,c,d⟩:=st;exact⟨o,k it (by simp) o e,c,d⟩
 item:=by
  intro X hP hw hK hc i pins s σ H E I hf st hg;subst hP hw hK;obtain⟨f0,f1,f2,f3,f4,f5⟩:=hf it (by simp);have W:Walks X.prog X.w X.A it [it] [it] x.cps.size (SignAt x) (λi h=>h.IsStrIter it ty x t i):=by
   rcases hty with rfl|rfl
   .exact Walks.strAscii (I.ok.hd hc) it x t
   .exact Walks.strWide (I.ok.hd hc) it x t
  refine W.item i s _ _ hg st λv h' tk hv st' kk=>?_;obtain⟨c,u,hcu,rfl⟩:=hv;have I1:Inv X pins σ H { s with heap:=h',toks:=tk }:=I.turned (λb o hb e=>kk b o (by simpa using hb) e) f0 f1 f3 f4 f5;obtain⟨o,e,c1,d⟩:=id st';have hn:["enumerate","zip","dict_itemiterator","dict_reverseitemiterator","odict_iterator","itertools.zip_longest","itertools.pairwise"].contains ty=false:=by rcases hty with rfl|rfl<;>decide
  exact⟨_,rfl,oX (s:={ s with heap:=h',toks:=tk }) e c1 d hn ⟨.str (T [c]),H,I1,⟨u,rfl⟩,⟨rfl,c,by simpa[Lt]using hcu,rfl⟩,st',λb hb=>(hf b hb).1⟩⟩
 done:=by
  intro X hP hw hK hc i pins s σ H E I hf st hg;subst hP hw hK;obtain⟨f0,f1,f2,f3,f4,f5⟩:=hf it (by simp);have W:Walks X.prog X.w X.A it [it] [it] x.cps.size (SignAt x) (λi h=>h.IsStrIter it ty x t i):=by
   rcases hty with rfl|rfl
   .exact Walks.strAscii (I.ok.hd hc) it x t
   .exact Walks.strWide (I.ok.hd hc) it x t
  have hi:i=x.cps.size:=hg;subst hi;exact W.done s _ _ st λh' tk kk=>⟨rfl,I.turned (λb o hb e=>kk b o (by simpa using hb) e) f0 f1 f3 f4 f5⟩
 self:=λ_ _ _ _ _ st h=>by
  rcases hty with rfl|rfl
  .exact wpAny_pyIter_striter_ascii st h
  .exact wpAny_pyIter_striter_wide st h
section
variable{X:Cx}{tg:Expr}
def HI(tl:TE):TI:=λσ H R=>tl σ H λx H1=>∃z:Str,x=.str z/\R (Its z) H1
theorem d7{l:Expr}{tl:TE}(hl:PE X l tl):PI X tg l (HI tl):=by
 intro pins s σ H R I h;refine thn (hl pins s σ H _ I h) λv s1 zq=>?_;obtain⟨x,H1,I1,r1,q1⟩:=zq;obtain⟨z,e,q⟩:=q1;subst e;obtain⟨t,rfl⟩:=r1;have hty:strIterType z="str_ascii_iterator"\/strIterType z="str_iterator":=by unfold strIterType;split<;>simp
 refine wpAny_pyIter_strU ?_;refine⟨s1.heap.objs.size,[s1.heap.objs.size],_,_,H1,rfl,I1.kept (t':=s1.toks) λb o e=>Heap.get?_push_of_some _ e,rJ z t _ _ hty,⟨_,Heap.get?_push_size _ rfl,rfl,rfl⟩,λb hb=>?_,q⟩;have e:b=s1.heap.objs.size:=by simpa using hb
 subst e;exact I1.fpOk (Nat.le_refl _) (I1.hok.fresh (Nat.le_refl _))
end
section
variable{σ:St}{H:Hp}{Q:VK}{D:Z0}{K:W.Frag}
def EW(g:TG)(tb:TS)(D:Z0)(σ:St)(x:V)(H:Hp):Prop:=∃z:Str,x=.str z/\∃W:Nat->Nat->St->Hp->Prop,(∃m,W 0 m σ H)/\∀i m σ H,W i m σ H ->
 ((Its z).stop i H/\D.nx σ H)\/((Its z).go i H/\∃N:St->Hp->Prop,(∀σ' H',N σ' H'->∃m',m'<m/\W (i+1) m' σ' H')/\∀x H',(Its z).yld i H x H'->g x σ H' λσ2 H2=>tb { D with nx:=N,ct:=N,bk:=D.nx } σ2 H2)
theorem DH{tl:TE}{g:TG}{tb:TS}(h:tl σ H (EW g tb D σ)):C5 (HI tl) g tb D σ H:=h
theorem Cr{g:TG}{tb:TS}{a:List Nat}(Pv:Nat->St->Hp->Prop)(h0:Pv 0 σ H)
  (hs:∀i c σ H,a[i]?=some c->Pv i σ H->g (.str (T [c])) σ H λσ2 H2=>tb { D with nx:=Pv (i+1),ct:=Pv (i+1),bk:=D.nx } σ2 H2) (hd:∀σ H,Pv a.length σ H->D.nx σ H):EW g tb D σ (.str (T a)) H:=by
 refine⟨T a,rfl,λi m σ H=>i+m=a.length/\Pv i σ H,⟨a.length,by omega,h0⟩,?_⟩;rintro i m σ H ⟨hm,hp⟩;rcases lt_or_ge i a.length with h|h
 .refine .inr ⟨h,Pv (i+1),λσ' H' hp'=>⟨m-1,by omega,by omega,hp'⟩,?_⟩;rintro x H' ⟨rfl,c,hc,rfl⟩;exact hs i c σ H' hc hp
 .have e:i=a.length:=by omega
  subst e;exact .inl ⟨rfl,hd σ H hp⟩
end
def fv(c:Nat):Int:=if 48<=c/\c<=57 then(c:Int)-48 else if 97<=c/\c<=102 then(c:Int)-87 else -1
theorem rL:∀c∈List.range 127,Txt.find "0123456789abcdef" (T [c])=fv c:=by right
theorem BK{c:Nat}(h:c<127):Txt.find "0123456789abcdef" (T [c])=fv c:=rL c (List.mem_range.mpr h)
def fc(d:Nat):Nat:=(Lt "0123456789abcdef").getD d 0
theorem El:∀d∈List.range 16,fc d<127/\fv (fc d)=d/\(fc d=48->d=0):=by right
theorem rf{d:Nat}(h:d<16):fc d<127/\fv (fc d)=d/\(fc d=48->d=0):=El d (List.mem_range.mpr h)
def val(b:Int)(l:List Nat):Int:=l.foldl (λn c=>n*b+fv c) 0
theorem Jk(b:Int)(l:List Nat)(c:Nat):val b (l++[c])=val b l*b+fv c:=by unfold val;rw[List.foldl_append];rfl
theorem YV(b:Int)(l:List Nat):∀m:Nat,val b (List.replicate m 48++l)=val b l
 |0=>by simp
 |m+1=>by
  have ih:=YV b l m;unfold val at ih ⊢;rw[List.replicate_succ,List.cons_append,foldl_cons];have:(0:Int)*b+fv 48=0:=by rw[Int.zero_mul];decide
  rw[this];exact ih
def yF(b:Int)(l:List Nat):Prop:=∀c∈l,c<127/\0<=fv c/\fv c<b
theorem yF.mono{b b':Int}{l:List Nat}(h:yF b l)(hb:b<=b'):yF b' l:=λc hc=>⟨(h c hc).1,(h c hc).2.1,by have:=(h c hc).2.2;omega⟩
theorem yF.app{b:Int}{l m:List Nat}(h:yF b l)(h':yF b m):yF b (l++m):=λc hc=>(List.mem_append.mp hc).elim (h c) (h' c)
theorem yF.noughts{b:Int}(hb:2<=b)(m:Nat):yF b (List.replicate m 48):=λc hc=>by
 rw[List.eq_of_mem_replicate hc];exact⟨by decide,by decide,by show(0:Int)<b;omega⟩
theorem yF.one{b d:Nat}(hb:b<=16)(h:d<b):yF b [fc d]:=λc hc=>by
 rw[List.mem_singleton.mp hc];have:=rf (d:=d) (by omega);exact⟨this.1,by omega,by omega⟩
def yh(b n:Nat):List Nat:=if h:n<b\/b<2 then[fc n]else yh b (n/b)++[fc (n%b)]
termination_by n
decreasing_by exact Nat.div_lt_self (by omega) (by omega)
theorem jL{b:Nat}(h:n<b):yh b n=[fc n]:=by rw[yh];simp[h]
theorem Zk{b:Nat}(h2:2<=b)(h:b<=n):yh b n=yh b (n/b)++[fc (n%b)]:=by rw[yh];simp[show ¬n<b by omega,show ¬b<2 by omega]
theorem Vh{b:Nat}(h2:2<=b)(h16:b<=16):∀(m n:Nat),n<=m->yF b (yh b n)/\val b (yh b n)=n/\yh b n≠[]/\((yh b n).getD 0 0=48->n=0):=by
 intro m;induction m with
 |zero=>
  intro n hn;rw[jL (by omega)];have e:=rf (d:=n) (by omega);exact⟨yF.one h16 (by omega),by unfold val;simp[e.2.1],by simp,λ_=>by omega⟩
 |succ m ih=>
  intro n hn;rcases lt_or_ge n b with h|h
  .rw[jL h];have e:=rf (d:=n) (by omega);exact⟨yF.one h16 (by omega),by unfold val;simp[e.2.1],by simp,λq=>e.2.2 (by simpa using q)⟩
  .have hd:n/b<n:=Nat.div_lt_self (by omega) (by omega);obtain⟨i1,i2,i3,i4⟩:=ih (n/b) (by omega);have hm:=Nat.mod_lt n (show b>0 by omega);rw[Zk h2 h];refine⟨i1.app (yF.one h16 hm),?_,by simp,λq=>?_⟩
   .rw[Jk,i2,(rf (d:=n%b) (by omega)).2.1];have:=Nat.div_add_mod n b;rw[Nat.mul_comm]at this;omega
   .rw[kX (List.length_pos_iff.mpr i3)]at q;have:=i4 q;have p:0<n/b:=Nat.div_pos h (by omega);omega
theorem Kz{b:Nat}(h2:2<=b):∀(k n:Nat),n<b^(k+1)->(yh b n).length<=k+1
 |0,n,h=>by rw[Nat.pow_one]at h;rw[jL h];simp
 |k+1,n,h=>by
  rcases lt_or_ge n b with h'|h'
  .rw[jL h'];simp
  .rw[Zk h2 h',length_append];have:=Kz h2 k (n/b) (Nat.div_lt_of_lt_mul (by rw[Nat.pow_succ,Nat.mul_comm]at h;exact h));simp;omega
theorem JL{b:Nat}(h2:2<=b)(h:n<1766847064778384329583297500742918515827483896875618958121606201292619776):(yh b n).length<=240:=by
 refine Kz h2 239 n (lt_of_lt_of_le h ?_);have e:(1766847064778384329583297500742918515827483896875618958121606201292619776:Nat)=2^240:=by right
 rw[e];exact Nat.pow_le_pow_left h2 240
variable{m:Nat}
theorem VX{b:Nat}(h2:2<=b)(l:List Nat):yh b m++l=if m/b=0 then fc (m%b)::l else yh b (m/b)++fc (m%b)::l:=by
 rcases lt_or_ge m b with h'|h'
 .rw[if_pos (Nat.div_eq_of_lt h'),jL h',mod_eq_of_lt h'];rfl
 .have p:0<m/b:=Nat.div_pos h' (by omega);rw[if_neg (by omega),Zk h2 h',append_assoc];rfl
theorem Kj(hz:xs.length<=sizeLine)(h:∀p,H p=none->Q (.ref p) (upd H p (.lst xs))):F9 Q xs H:=⟨hz,h⟩
theorem zw(g:zR H H')(n:H l=none):zR H (upd H' l o):=λb u q=>by rw[zu (qI q n)];exact g b u q
variable{σ:St}
theorem D9{T:String}{r:V->List V->Hp->VK->Prop}{to:TE}(h:to σ H λx H1=>tyV K T x H1/\r x [] H1 Q):Hk K T r to σ H Q:=h
theorem mT(h:H l=some (.lst xs))(q:Q .non (upd H l (.lst xs.reverse))):gL (.ref l) [] H Q:=⟨l,xs,rfl,rfl,h,q⟩
def jn(m:List Nat):List (List Nat)->List Nat
 |[]=>[]
 |x::xs=>x++(xs.map (m++·)).flatten
theorem aJ(m:Str):∀(xs:List (List Nat))(a:Array Nat),((xs.map T).foldl (λacc p=>acc++m.cps++p.cps) a).toList=a.toList++(xs.map (Lt m++·)).flatten
 |[],a=>by simp
 |x::xs,a=>by
  rw[map_cons,foldl_cons,aJ m xs,map_cons,List.flatten_cons];simp[T]
theorem AS(m:Str)(xs:List (List Nat)):Txt.join m (xs.map T)=T (jn (Lt m) xs):=by
 refine Vw ?_;rw[YN];unfold Txt.join Builtin.Str.glued;cases xs with
 |nil=>rfl
 |cons x xs=>
  show(List.foldl (λacc p=>acc++m.cps++p.cps) (T x).cps (xs.map T)).toList=_;rw[aJ];rfl
theorem Bc(m:List Nat){xs:List (List Nat)}(h:xs≠[])(y:List Nat):jn m (xs++[y])=jn m xs++(m++y):=by
 cases xs with
 |nil=>exact absurd rfl h
 |cons x xs=>unfold jn;simp
theorem mO(xs:List (List Nat)):jn [] xs=xs.flatten:=by
 cases xs with
 |nil=>rfl
 |cons x xs=>unfold jn;simp
theorem D5{m:Str}{xs:List (List Nat)}(h:xs.flatten.length+xs.length*(Lt m).length<=16777216):JoinOk m (xs.map T)=true:=by
 have e:∀(xs:List (List Nat))(n:Nat),(xs.map T).foldl (λx1 x2=>x1+x2.length+m.length) n=n+xs.flatten.length+xs.length*(Lt m).length:=by
  intro xs;induction xs with
  |nil=>intro n;simp
  |cons x xs ih=>
   intro n;rw[map_cons,foldl_cons,ih,List.flatten_cons,length_append,length_cons,Nat.add_mul];have e1:(T x).length=x.length:=rfl;have e2:m.length=(Lt m).length:=rfl;rw[e1,e2];omega
 unfold JoinOk Builtin.Str.tooLong;rw[List.foldl_toArray,e,decide_eq_false (by show ¬0+xs.flatten.length+xs.length*(Lt m).length>16777216;omega)];rfl
def oB(K:W.Frag):V->List V->Hp->VK->Prop:=λx vs H Q=>∃(m:Str)(p:Addr)(xs:List (List Nat)),x=.str m/\vs=[.ref p]/\H p=some (.lst (xs.map λl=>V.str (T l)))/\xs.flatten.length+xs.length*(Lt m).length<=16777216/\Q (.str (T (jn (Lt m) xs))) H
theorem We:∀{xs:List (List Nat)}{us:List Value},qP (xs.map λl=>V.str (T l)) us->∃ts:List (Str×Tok),us=strValues ts/\ts.map (λx=>x.1)=xs.map T
 |[],_,.nil=>⟨[],rfl,rfl⟩
 |x::xs,_,.cons r t=>by
  obtain⟨ts,rfl,e⟩:=We t;obtain⟨u,rfl⟩:=r;exact⟨(T x,u)::ts,rfl,by rw[map_cons,map_cons,e]⟩
theorem tI:MtR X "str.join" (oB X.K):=by
 intro pins s σ H x vs v us Q I rx rv h;obtain⟨m,p,xs,rfl,rfl,hH,hz,q⟩:=h;obtain⟨t,rfl⟩:=rx;obtain⟨u,rfl,ru⟩:=rv.one;cases ru;obtain⟨its,r,pl,_⟩:=I.list (SqL.of hH);obtain⟨ts,rfl,e⟩:=We r;exact SC.join pl.isList e (D5 hz) λt' k=>⟨.str _,H,I.tok _,⟨t',rfl⟩,by rw[AS];exact q⟩
theorem Z6{m:Str}{p:Addr}{xs:List (List Nat)}(h:H p=some (.lst (xs.map λl=>V.str (T l))))(hz:xs.flatten.length+xs.length*(Lt m).length<=16777216)(q:Q (.str (T (jn (Lt m) xs))) H):oB K (.str m) [.ref p] H Q:=⟨m,p,xs,rfl,rfl,h,hz,q⟩
def pcs(a:List Nat)(z g e:Nat):List (List Nat):=if h:e=0\/z=0 then[]else pcs a z g (e-z-g)++[(a.take e).drop (e-z)]
termination_by e
decreasing_by omega
theorem ym(a:List Nat)(z g:Nat):pcs a z g 0=[]:=by rw[pcs];simp
variable{z:Nat}
theorem Y2{a:List Nat}{g e:Nat}(hz:0<z)(h:0<e):pcs a z g e=pcs a z g (e-z-g)++[(a.take e).drop (e-z)]:=by
 rw[pcs];rw[dif_neg (by omega)]
theorem gG{a:List Nat}{z g:Nat}(hz:0<z):∀(m e:Nat),e<=m->(pcs a z g e).flatten.length<=e/\(pcs a z g e).length<=e
 |0,e,h=>by rw[show e=0 by omega,ym];simp
 |m+1,e,h=>by
  rcases eq_zero_or_pos e with p|p
  .rw[p,ym];simp
  .obtain⟨i1,i2⟩:=gG (a:=a) (g:=g) hz m (e-z-g) (by omega);rw[Y2 hz p];simp only[List.flatten_append,length_append,List.flatten_cons,List.flatten_nil,List.append_nil,length_drop,length_take,length_cons,List.length_nil];have mn:=Nat.min_le_left e a.length;have d1:e-z-g<=e-z:=Nat.sub_le _ _;have d2:e-z+z=e\/e-z=0:=by omega
   generalize min e a.length=M at *;generalize(pcs a z g (e-z-g)).flatten.length=X at *;generalize(pcs a z g (e-z-g)).length=Y at *;generalize e-z-g=D at *;generalize e-z=F at *;clear h;exact⟨by omega,by omega⟩
def RJ(z m:Nat)(b:List Nat):List Nat:=if h:b.length<=z\/z=0 then b else b.take z++m::RJ z m (b.drop z)
termination_by b.length
decreasing_by rw[length_drop];omega
theorem y7{b:List Nat}(h:b.length<=z):RJ z m b=b:=by rw[RJ];simp[h]
theorem XI{b:List Nat}:RJ 0 m b=b:=by rw[RJ];simp
theorem Vu{b:List Nat}(hz:0<z)(h:z<b.length):RJ z m b=b.take z++m::RJ z m (b.drop z):=by
 rw[RJ];rw[dif_neg (by omega)]
theorem t7{z m:Nat}:∀(k:Nat)(b:List Nat),b.length<=k->b.length<=(RJ z m b).length/\(RJ z m b).length<=2*b.length
 |0,b,h=>by rw[y7 (by omega)];omega
 |k+1,b,h=>by
  rcases eq_zero_or_pos z with p|p
  .subst p;rw[XI];omega
  .rcases lt_or_ge z b.length with q|q
   .have ih:=t7 (z:=z) (m:=m) k (b.drop z) (by rw[length_drop];omega);rw[length_drop]at ih;rw[Vu p q,length_append,length_take,length_cons];omega
   .rw[y7 q];omega
theorem lp{z m x:Nat}(hz:0<z):∀(k:Nat)(c:List Nat),c.length<=k->RJ z m (c++[x])=RJ z m c++((if 0<c.length/\c.length%z=0 then[m]else[])++[x])
 |0,c,h=>by
  have e:c=[]:=eq_nil_of_length_eq_zero (by omega);subst e;rw[y7 (by simp;omega),y7 (by simp)];simp
 |k+1,c,h=>by
  rcases Nat.lt_trichotomy c.length z with p|p|p
  .rw[y7 (by simp;omega),y7 (by omega),if_neg (by
    intro q;rw[mod_eq_of_lt p]at q;omega)];simp
  .rw[Vu hz (by simp;omega),y7 (b:=c) (by omega),if_pos ⟨by omega,by rw[p];exact Nat.mod_self z⟩];rw[take_append_of_le_length (by omega),take_of_length_le (by omega),List.drop_append_of_le_length (by omega),drop_of_length_le (by omega),y7 (by simp;omega)];simp
  .rw[Vu hz (by simp;omega),Vu (b:=c) hz p];rw[take_append_of_le_length (by omega),List.drop_append_of_le_length (by omega),lp hz k (c.drop z) (by rw[length_drop];omega),length_drop];have e:(c.length-z)%z=c.length%z:=(Nat.mod_eq_sub_mod (by omega)).symm;rw[e,append_assoc,List.cons_append];have e2:(0<c.length-z/\c.length%z=0)=(0<c.length/\c.length%z=0):=propext ⟨λq=>⟨by omega,q.2⟩,λq=>⟨by omega,q.2⟩⟩;simp only[e2]
theorem AZ{a:List Nat}{z m:Nat}(hz:0<z):∀(k e:Nat),e<=k->e<=a.length->(jn [m] (pcs a z 0 e)).reverse=RJ z m (a.take e).reverse
 |0,e,h,_=>by rw[show e=0 by omega,ym,y7 (by simp)];simp[jn]
 |k+1,e,h,ha=>by
  rcases eq_zero_or_pos e with p|p
  .rw[p,ym,y7 (by simp)];simp[jn]
  .rw[Y2 hz p,Nat.sub_zero];have le:(a.take e).length=e:=by rw[length_take];omega
   rcases lt_or_ge z e with q|q
   .have ih:=AZ (a:=a) (m:=m) hz k (e-z) (by omega) (by omega);have ne:pcs a z 0 (e-z)≠[]:=by rw[Y2 hz (by omega)];simp
    rw[Bc _ ne,List.reverse_append,List.reverse_append,ih,Vu (b:=(a.take e).reverse) hz (by rw[length_reverse];omega),List.take_reverse,List.drop_reverse,le];rw[List.take_take,Nat.min_eq_left (show e-z<=e by omega)];simp
   .rw[show e-z=0 by omega,ym,y7 (by rw[length_reverse];omega)];simp[jn]
def gr(z m:Nat)(a:List Nat):List Nat:=(RJ z m a.reverse).reverse
theorem GP{a:List Nat}(hz:0<z):jn [m] (pcs a z 0 a.length)=gr z m a:=by
 have:=AZ (m:=m) hz a.length a.length (Nat.le_refl _) (Nat.le_refl _);rw[take_length]at this;unfold gr;rw[<- this,reverse_reverse]
theorem dU{a:List Nat}:a.length<=(gr z m a).length/\(gr z m a).length<=2*a.length:=by
 have:=t7 (z:=z) (m:=m) a.reverse.length a.reverse (Nat.le_refl _);unfold gr;rw[length_reverse]at this ⊢;exact this
def UJ(z:Nat)(c:List Nat):List Nat:=if h:c.length=0\/z=0 then[]else c.take z++UJ z (c.drop (z+1))
termination_by c.length
decreasing_by rw[length_drop];omega
theorem kh:UJ z []=[]:=by rw[UJ];simp
theorem QO{c:List Nat}(hz:0<z)(h:0<c.length):UJ z c=c.take z++UJ z (c.drop (z+1)):=by rw[UJ];rw[dif_neg (by omega)]
theorem Ff{z m:Nat}(hz:0<z):∀(k:Nat)(b:List Nat),b.length<=k->UJ z (RJ z m b)=b
 |0,b,h=>by rw[eq_nil_of_length_eq_zero (show b.length=0 by omega),y7 (by simp),kh]
 |k+1,b,h=>by
  rcases eq_zero_or_pos b.length with p|p
  .rw[eq_nil_of_length_eq_zero p,y7 (by simp),kh]
  .rcases lt_or_ge z b.length with q|q
   .rw[Vu hz q,QO hz (by rw[length_append,length_cons];omega)];have l1:(b.take z).length=z:=by rw[length_take];omega
    rw[take_append_of_le_length (by omega),take_of_length_le (by omega),List.drop_append,l1,drop_of_length_le (by omega)];rw[show z+1-z=1 by omega];show b.take z++UJ z (RJ z m (b.drop z))=b;rw[Ff hz k (b.drop z) (by rw[length_drop];omega),List.take_append_drop]
   .rw[y7 q,QO hz p,take_of_length_le q,drop_of_length_le (by omega),kh,List.append_nil]
theorem AH{a:List Nat}{z:Nat}(hz:0<z):∀(k e:Nat),e<=k->e<=a.length->(pcs a z 1 e).flatten.reverse=UJ z (a.take e).reverse
 |0,e,h,_=>by rw[show e=0 by omega,ym];simp[kh]
 |k+1,e,h,ha=>by
  rcases eq_zero_or_pos e with p|p
  .rw[p,ym];simp[kh]
  .have le:(a.take e).length=e:=by rw[length_take];omega
   have ih:=AH (a:=a) hz k (e-z-1) (by omega) (by omega);rw[Y2 hz p,List.flatten_append,List.reverse_append,ih,QO (c:=(a.take e).reverse) hz (by rw[length_reverse];omega),List.take_reverse,List.drop_reverse,le,List.take_take,Nat.min_eq_left (show e-(z+1)<=e by omega)];simp;rw[show e-(z+1)=e-z-1 by omega]
def ug(z:Nat)(a:List Nat):List Nat:=if z=0 then a else(UJ z a.reverse).reverse
theorem FS{a:List Nat}(hz:0<z):(pcs a z 1 a.length).flatten=ug z a:=by
 have:=AH hz a.length a.length (Nat.le_refl _) (Nat.le_refl _);rw[take_length]at this;unfold ug;rw[if_neg (by omega),<- this,reverse_reverse]
theorem sT(z m:Nat)(a:List Nat):ug z (gr z m a)=a:=by
 unfold ug gr;split
 .rename_i h;subst h;rw[XI,reverse_reverse]
 .rename_i h;rw[reverse_reverse,Ff (by omega) a.reverse.length a.reverse (Nat.le_refl _),reverse_reverse]
theorem Zy{a:List Nat}:gr 0 m a=a:=by unfold gr;rw[XI,reverse_reverse]
theorem fM{a:List Nat}(hk:k<a.length):gr z m (a.drop (a.length-(k+1)))=a.getD (a.length-1-k) 0::((if 0<z/\0<k/\k%z=0 then[m]else[])++gr z m (a.drop (a.length-k))):=by
 have e:a.drop (a.length-(k+1))=a.getD (a.length-1-k) 0::a.drop (a.length-k):=by
  rw[List.drop_eq_getElem_cons (by omega),getD_eq_getElem?_getD,getElem?_eq_getElem (by omega)];congr 2<;>omega
 have lk:(a.drop (a.length-k)).length=k:=by rw[length_drop];omega
 rcases eq_zero_or_pos z with p|p
 .subst p;rw[Zy,Zy,e,if_neg (by omega)];rfl
 .rw[e];unfold gr;rw[List.reverse_cons,lp p _ _ (Nat.le_refl _),length_reverse,lk];by_cases q:0<k/\k%z=0
  .rw[if_pos q,if_pos ⟨p,q⟩];simp
  .rw[if_neg q,if_neg (λh=>q h.2)];simp
variable{ts:List (List Nat)}
theorem Di{p:Addr}(h:SqL K H p (ts.map λl=>V.str (T l)))(h0:0<=i)(h1:i<ts.length)(q:Q (.str (T (ts.getD i.toNat []))) H):Aa K (.ref p) (.int i) H Q:=by
 refine jF h h0 (by rw[length_map];exact h1) λx hx=>?_;have h2:i.toNat<ts.length:=by omega
 rw[getElem?_map,getElem?_eq_getElem h2]at hx;cases hx;rw[getD_eq_getElem?_getD,getElem?_eq_getElem h2]at q;exact q
section
variable{X:Cx}{H:Hp}{Q:VK}{K:W.Frag}
inductive NT(H:Hp):V->Prop where
 |int (i:Int):NT H (.int i)
 |non:NT H .non
 |bl (b:Bool):NT H (.bl b)
 |lst {p:Addr} {xs:List V} (e:H p=some (.lst xs)):NT H (.ref p)
 |tup {p:Addr} {xs:List V} (e:H p=some (.tup xs)):NT H (.ref p)
 |dct {p:Addr} (e:H p=some (Fx p)):NT H (.ref p)
theorem NT.same{v:V}(h:NT H v)(g:zR H H'):NT H' v:=by
 cases h with
 |int i=>exact .int i
 |non=>exact .non
 |bl b=>exact .bl b
 |lst e=>exact .lst (g _ _ e)
 |tup e=>exact .tup (g _ _ e)
 |dct e=>exact .dct (g _ _ e)
def Asc(l:List Nat):Prop:=∀c∈l,c<127
theorem Asc.nil:Asc []:=λ_ h=>nomatch h
theorem Asc.app{l m:List Nat}(h:Asc l)(h':Asc m):Asc (l++m):=λc hc=>(List.mem_append.mp hc).elim (h c) (h' c)
theorem Asc.one{c:Nat}(h:c<127):Asc [c]:=λd hd=>by rw[List.mem_singleton.mp hd];exact h
theorem Asc.take{l:List Nat}(h:Asc l)(n:Nat):Asc (l.take n):=λc hc=>h c (List.mem_of_mem_take hc)
theorem Asc.drop{l:List Nat}(h:Asc l)(n:Nat):Asc (l.drop n):=λc hc=>h c (List.mem_of_mem_drop hc)
theorem Asc.rep{l:List Nat}(h:Asc l)(n:Nat):Asc (List.replicate n l).flatten:=λc hc=>by
 obtain⟨m,hm,hc⟩:=List.mem_flatten.mp hc;rw[List.eq_of_mem_replicate hm]at hc;exact h c hc
theorem yF.asc{b:Int}{l:List Nat}(h:yF b l):Asc l:=λc hc=>(h c hc).1
theorem yF.snoc{b:Int}{l:List Nat}{i c:Nat}(h:yF b (l.take i))(hi:l[i]?=some c)(h1:c<127)(h2:0<=fv c)(h3:fv c<b):yF b (l.take (i+1)):=by
 rw[List.take_succ,hi];refine h.app λd hd=>?_;rw[List.mem_singleton.mp hd];exact⟨h1,h2,h3⟩
end
theorem oI{l:List Nat}{j:Nat}(e:x=T l):PE X (.Constant (.str x) j pos) (tC (.str (T l))):=by
 rw[<- e];exact qi
theorem mz{z x:Nat}(hz:0<z):∀(k:Nat)(c:List Nat),c.length<=k->UJ z (c++[x])=UJ z c++(if c.length%(z+1)=z then[]else[x])
 |0,c,h=>by
  have e:c=[]:=eq_nil_of_length_eq_zero (by omega);subst e;rw[QO hz (by simp),kh,if_neg (by simp;omega),List.nil_append,take_of_length_le (by simp;omega),drop_of_length_le (by simp),kh];simp
 |k+1,c,h=>by
  rcases eq_zero_or_pos c.length with p0|p0
  .have e:c=[]:=eq_nil_of_length_eq_zero p0;subst e;rw[QO hz (by simp),kh,if_neg (by simp;omega),List.nil_append,take_of_length_le (by simp;omega),drop_of_length_le (by simp),kh];simp
  rw[QO hz (by simp),QO hz p0];rcases Nat.lt_trichotomy c.length z with p|p|p
  .rw[take_of_length_le (by simp;omega),take_of_length_le (by omega),drop_of_length_le (by simp;omega),drop_of_length_le (by omega),kh,if_neg (by rw[mod_eq_of_lt (by omega)];omega)];simp
  .rw[take_append_of_le_length (by omega),drop_of_length_le (by simp;omega),drop_of_length_le (by omega),kh,if_pos (by rw[mod_eq_of_lt (by omega)];exact p)];simp
  .rw[take_append_of_le_length (by omega),List.drop_append_of_le_length (by omega),mz hz k (c.drop (z+1)) (by rw[length_drop];omega),length_drop,<- Nat.mod_eq_sub_mod (by omega),append_assoc]
theorem Y1{z m:Nat}(hz:0<z):∀(k:Nat)(b:List Nat),b.length<=k->1<=b.length->(RJ z m b).length=b.length+(b.length-1)/z
 |0,b,h,h1=>by omega
 |k+1,b,h,h1=>by
  rcases lt_or_ge z b.length with q|q
  .have ih:=Y1 (m:=m) hz k (b.drop z) (by rw[length_drop];omega) (by rw[length_drop];omega);rw[length_drop]at ih;rw[Vu hz q,length_append,length_take,length_cons,ih];have e:(b.length-1)/z=(b.length-z-1)/z+1:=by
    rw[Nat.div_eq_sub_div hz (by omega),show b.length-1-z=b.length-z-1 by omega]
   omega
  .rw[y7 q,Nat.div_eq_of_lt (by omega)];omega
theorem KY{c:List Nat}(hz:0<z)(h:0<c.length):0<(UJ z c).length:=by
 rw[QO hz h,length_append,length_take];omega
theorem FP{z m:Nat}(hz:0<z):∀(k:Nat)(c:List Nat),c.length<=k->c.length%(z+1)≠0->(∀j,j<c.length->j%(z+1)=z->c.getD j 0=m)->RJ z m (UJ z c)=c
 |0,c,h,h0,_=>by rw[show c.length=0 by omega]at h0;simp at h0
 |k+1,c,h,h0,hm=>by
  have p0:0<c.length:=by
   rcases eq_zero_or_pos c.length with p|p
   .rw[p]at h0;simp at h0
   .exact p
  rcases Nat.lt_trichotomy c.length (z+1)with q|q|q
  .rw[QO hz p0,take_of_length_le (by omega),drop_of_length_le (by omega),kh,List.append_nil,y7 (by omega)]
  .rw[q,Nat.mod_self]at h0;exact absurd rfl h0
  .have l1:(c.take z).length=z:=by rw[length_take];omega
   have l2:(c.drop (z+1)).length=c.length-(z+1):=length_drop ..;have ih:=FP (m:=m) hz k (c.drop (z+1)) (by omega) (by rw[l2,<- Nat.mod_eq_sub_mod (by omega)];exact h0) (λj hj he=>by
    have z1:=hm (z+1+j) (by omega) (by rw[Nat.add_mod_left];exact he);rw[getD_eq_getElem?_getD]at z1 ⊢;rw[List.getElem?_drop];exact z1)
   have up:=KY (c:=c.drop (z+1)) hz (by omega);rw[QO hz p0,Vu hz (by rw[length_append,l1];omega),take_append_of_le_length (by omega),take_of_length_le (by omega),List.drop_append_of_le_length (by omega),drop_of_length_le (by omega),List.nil_append,ih];have cz:=hm z (by omega) (mod_eq_of_lt (by omega));rw[getD_eq_getElem?_getD,getElem?_eq_getElem (by omega)]at cz;have cz':c[z]=m:=cz;rw[<- cz',<- List.drop_eq_getElem_cons,List.take_append_drop]
def GG(z m:Nat)(t:List Nat):Prop:=1<=(ug z t).length/\(ug z t).length<=40/\gr z m (ug z t)=t
theorem GG.len{t:List Nat}(h:GG z m t):(ug z t).length+(if 0<z then((ug z t).length-1)/z else 0)=t.length:=by
 have e:=congrArg List.length h.2.2;rcases eq_zero_or_pos z with p|p
 .subst p;rw[Zy]at e;simp;exact e
 .unfold gr at e;rw[length_reverse,Y1 p _ _ (Nat.le_refl _) (by rw[length_reverse];exact h.1),length_reverse]at e;rw[if_pos p];exact e
theorem Kq{l:List Nat}{j:Nat}(h:j<l.length):l.reverse.getD j 0=l.getD (l.length-1-j) 0:=by
 rw[getD_eq_getElem?_getD,getD_eq_getElem?_getD,List.getElem?_reverse h]
theorem rq{a b:Nat}(h1:1<=a)(h2:1<=b)(h:a+(a-1)/z=b+(b-1)/z):a=b:=by
 rcases Nat.lt_trichotomy a b with p|p|p
 .have:=Nat.div_le_div_right (c:=z) (show a-1<=b-1 by omega);omega
 .exact p
 .have:=Nat.div_le_div_right (c:=z) (show b-1<=a-1 by omega);omega
theorem GG.of{many:Nat}{t:List Nat}(h1:1<=many)(h2:many<=40)(hl:many+(if 0<z then(many-1)/z else 0)=t.length)(hm:0<z->∀k,k<t.length->(t.length-1-k)%(z+1)=z->t.getD k 0=m):GG z m t:=by
 rcases eq_zero_or_pos z with p|p
 .subst p;have e:ug 0 t=t:=rfl;unfold GG;rw[e,Zy];simp at hl;exact⟨by omega,by omega,rfl⟩
 .rw[if_pos p]at hl;have hn:t.length%(z+1)≠0:=by
   have d:=Nat.div_add_mod (many-1) z;have r:=Nat.mod_lt (many-1) p;generalize(many-1)/z=q at *;generalize(many-1)%z=r' at *;have e:t.length=r'+1+(z+1)*q:=by rw[Nat.add_mul,Nat.one_mul];omega
   rw[e,Nat.add_mul_mod_self_left,mod_eq_of_lt (by omega)];omega
  have rj:=FP (m:=m) p _ t.reverse (Nat.le_refl _) (by rw[length_reverse];exact hn) (λj hj he=>by
   rw[length_reverse]at hj;rw[Kq hj];exact hm p _ (by omega) (by rw[show t.length-1-(t.length-1-j)=j by omega];exact he))
  have e:ug z t=(UJ z t.reverse).reverse:=by unfold ug;rw[if_neg (by omega)]
  have tp:0<t.length:=lt_of_lt_of_le (show 0<many by omega) (by rw[<- hl];exact Nat.le_add_right _ _);have up:=KY (c:=t.reverse) p (by rw[length_reverse];exact tp);have ln:=Y1 (m:=m) p _ (UJ z t.reverse) (Nat.le_refl _) up;rw[rj,length_reverse]at ln;have em:=rq (z:=z) (a:=(UJ z t.reverse).length) (b:=many) up h1 (by omega);refine⟨by rw[e,length_reverse];omega,by rw[e,length_reverse];omega,?_⟩;rw[e];unfold gr;rw[reverse_reverse,rj,reverse_reverse]
theorem D6{t:List Nat}:(ug z t).length<=t.length:=by
 rcases eq_zero_or_pos z with p|p
 .subst p;exact Nat.le_refl _
 .rw[<- FS p];exact(gG p _ _ (Nat.le_refl _)).1
section
variable{σ:St}{H:Hp}{Q:VK}{D:Z0}{K:W.Frag}
def tj(g:TG)(tb:TS)(D:Z0)(σ:St)(vs:List V)(H:Hp):Prop:=∃i j:Int,vs=[.int i,.int j]/\(-(2^62)<=i/\i<2^62/\-(2^62)<=j/\j<2^62)/\∃W:Nat->Nat->St->Hp->Prop,(∃m,W 0 m σ H)/\∀k m σ H,W k m σ H ->
 ((Itr i (j-i).toNat).stop k H/\D.nx σ H)\/((Itr i (j-i).toNat).go k H/\∃N:St->Hp->Prop,(∀σ' H',N σ' H'->∃m',m'<m/\W (k+1) m' σ' H')/\∀x H',(Itr i (j-i).toNat).yld k H x H'->g x σ H' λσ2 H2=>tb { D with nx:=N,ct:=N,bk:=D.nx } σ2 H2)
theorem CT{ta:TA}{g:TG}{tb:TS}(h:ta σ H (tj g tb D σ)):C5 (Dk ta) g tb D σ H:=h
theorem sH{g:TG}{tb:TS}(hb:-(2^62)<=i/\i<2^62/\-(2^62)<=j/\j<2^62)(Pv:Nat->St->Hp->Prop)(h0:Pv 0 σ H)
  (hs:∀k σ H,k<(j-i).toNat->Pv k σ H->g (.int (i+k)) σ H λσ2 H2=>tb { D with nx:=Pv (k+1),ct:=Pv (k+1),bk:=D.nx } σ2 H2) (hd:∀σ H,Pv (j-i).toNat σ H->D.nx σ H):tj g tb D σ [.int i,.int j] H:=⟨i,j,rfl,hb,aR Pv h0 hs hd⟩
end
def KD(w:World)(K:W.Frag)(d:Addr)(z:Str)(v:Addr):Prop:=∃(es:Array DictEntry)(n:Nat),K.lookup d=some { cls:=.type "dict",data:=.dict es n }/\(∀e,e∈es->∃k,Value.isStrOf k e.key=true/\e.hash=hashStr w k)/\findBy Value.isStrOf es z=some (.ref v)
def HX(w:World)(K:W.Frag):R2:=λx y H Q=>∃d z v,x=.ref d/\y=.str z/\KD w K d z v/\Q (.ref v) H
section
variable{X:Cx}{H:Hp}{Q:VK}{K:W.Frag}{w:World}
theorem Fm:IxR X (HX X.w X.K):=by
 intro value slice pins s σ H x y v u Q I rx ry h hs;obtain⟨d,z,p,rfl,rfl,⟨es,n,lk,ks,f⟩,q⟩:=h;cases rx;obtain⟨t,rfl⟩:=ry;have ho:=I.kIn d _ lk;have fin:∀k,EP X pins σ Q (.ref p) { s with toks:=k }:=λk=>⟨.ref p,H,I.tok _,rfl,q⟩
 exact subscriptTail_builtinR (x:=.ref p) ⟨_,ho,rfl⟩ slot_dict_getitem.lookup
  (wpAny_getItem_of (knd:=PySem.strKind X.prog X.w) (k:=z) (f:=λk=>findBy Value.isStrOf es k) (Q:=λr s'=>r=.ref p/\EP X pins σ Q r s') (by simp[PySem.strKind,Value.isStrOf]) ⟨_,es,n,ho,⟨rfl,rfl,rfl⟩,rfl,ks,λk=>rfl⟩ f ⟨rfl,fin _⟩) hs
theorem DT{d v:Addr}{z:Str}(h:KD w K d z v)(q:Q (.ref v) H):HX w K (.ref d) (.str z) H Q:=⟨d,z,v,rfl,rfl,h,q⟩
theorem sF{p:Addr}{v:V}(h:SqT K H p xs)(e:atI xs i=some v)(q:Q v H):AJ K (.ref p) (.int i) H Q:=⟨p,xs,i,v,rfl,rfl,h,e,q⟩
theorem SqT.same{p:Addr}(h:SqT K H p xs)(e:zR H H'):SqT K H' p xs:=by
 rcases h with h|h
 .rcases h with h|⟨o,h⟩
  .exact .inl (.inl (e _ _ h))
  .exact .inl (.inr ⟨o,e _ _ h⟩)
 .exact .inr h
theorem SqT.mod{p:Addr}{its:List Value}(lk:K.lookup p=some { cls:=.type "tuple",data:=.seq its.toArray n })(hz:its.length<=1000)(r:qP xs its):SqT K H p xs:=.inr ⟨_,its.toArray,n,lk,rfl,rfl,qU (by simpa using hz),by simpa using r⟩
end
def stL(x:Str)(b:Bool):List Nat:=if x="minus" then(if b then[45]else[])else if x="plus" then(if b then[45]else[43])else if x="blank" then(if b then[45]else[32])else if x="brackets" then(if b then[40]else[])else[]
def stT(x:Str)(b:Bool):List Nat:=if x="minus" then[]else if x="plus" then[]else if x="blank" then[]else if x="brackets" then(if b then[41]else[])else(if b then[45]else[])
def yj(x:Str):Prop:=x="minus"\/x="plus"\/x="blank"\/x="brackets"\/x="behind"
theorem jh(b:Bool):stL "minus" b=(if b then[45]else[])/\stT "minus" b=[]:=by unfold stL stT;cases b<;>right
theorem xx(b:Bool):stL "plus" b=(if b then[45]else[43])/\stT "plus" b=[]:=by unfold stL stT;cases b<;>right
theorem ji(b:Bool):stL "blank" b=(if b then[45]else[32])/\stT "blank" b=[]:=by unfold stL stT;cases b<;>right
theorem qN(b:Bool):stL "brackets" b=(if b then[40]else[])/\stT "brackets" b=(if b then[41]else[]):=by unfold stL stT;cases b<;>right
theorem jD(b:Bool):stL "behind" b=[]/\stT "behind" b=(if b then[45]else[]):=by unfold stL stT;cases b<;>right
theorem VP(h:yj x)(b:Bool):(stL x b).length<=1/\(stT x b).length<=1:=by
 rcases h with rfl|rfl|rfl|rfl|rfl
 .rw[(jh b).1,(jh b).2];cases b<;>decide
 .rw[(xx b).1,(xx b).2];cases b<;>decide
 .rw[(ji b).1,(ji b).2];cases b<;>decide
 .rw[(qN b).1,(qN b).2];cases b<;>decide
 .rw[(jD b).1,(jD b).2];cases b<;>decide
def Sty(w:World)(K:W.Frag)(d:Addr):Prop:=∀(x:Str),yj x->∃p a b:Addr,KD w K d x p/\∀H:Hp,SqT K H p [.ref a,.ref b]/\SqT K H a [.str (T (stL x false)),.str (T (stT x false))]/\SqT K H b [.str (T (stL x true)),.str (T (stT x true))]
theorem sty_mk{d:Addr}{n0:Nat}{t0:Tok}{p0 a0 b0:Addr}{n01 n02 n03:Nat}{u01 u02 u03 u04:Tok}{t1:Tok}{p1 a1 b1:Addr}{n11 n12 n13:Nat}{u11 u12 u13 u14:Tok}{t2:Tok}{p2 a2 b2:Addr}{n21 n22 n23:Nat}{u21 u22 u23 u24:Tok}{t3:Tok}{p3 a3 b3:Addr}{n31 n32 n33:Nat}{u31 u32 u33 u34:Tok}{t4:Tok}{p4 a4 b4:Addr}{n41 n42 n43:Nat}{u41 u42 u43 u44:Tok}
  (hd:K.lookup d=some { cls:=.type "dict",data:=.dict #[⟨PyData.keyHash w.params "minus",.str "minus" t0,.ref p0⟩,⟨PyData.keyHash w.params "plus",.str "plus" t1,.ref p1⟩,⟨PyData.keyHash w.params "blank",.str "blank" t2,.ref p2⟩,⟨PyData.keyHash w.params "brackets",.str "brackets" t3,.ref p3⟩,⟨PyData.keyHash w.params "behind",.str "behind" t4,.ref p4⟩] n0 })
  (hp0:K.lookup p0=some { cls:=.type "tuple",data:=.seq #[.ref a0,.ref b0] n01 })
  (ha0:K.lookup a0=some { cls:=.type "tuple",data:=.seq #[.str "" u01,.str "" u02] n02 })
  (hb0:K.lookup b0=some { cls:=.type "tuple",data:=.seq #[.str "-" u03,.str "" u04] n03 })
  (hp1:K.lookup p1=some { cls:=.type "tuple",data:=.seq #[.ref a1,.ref b1] n11 })
  (ha1:K.lookup a1=some { cls:=.type "tuple",data:=.seq #[.str "+" u11,.str "" u12] n12 })
  (hb1:K.lookup b1=some { cls:=.type "tuple",data:=.seq #[.str "-" u13,.str "" u14] n13 })
  (hp2:K.lookup p2=some { cls:=.type "tuple",data:=.seq #[.ref a2,.ref b2] n21 })
  (ha2:K.lookup a2=some { cls:=.type "tuple",data:=.seq #[.str " " u21,.str "" u22] n22 })
  (hb2:K.lookup b2=some { cls:=.type "tuple",data:=.seq #[.str "-" u23,.str "" u24] n23 })
  (hp3:K.lookup p3=some { cls:=.type "tuple",data:=.seq #[.ref a3,.ref b3] n31 })
  (ha3:K.lookup a3=some { cls:=.type "tuple",data:=.seq #[.str "" u31,.str "" u32] n32 })
  (hb3:K.lookup b3=some { cls:=.type "tuple",data:=.seq #[.str "(" u33,.str ")" u34] n33 })
  (hp4:K.lookup p4=some { cls:=.type "tuple",data:=.seq #[.ref a4,.ref b4] n41 })
  (ha4:K.lookup a4=some { cls:=.type "tuple",data:=.seq #[.str "" u41,.str "" u42] n42 })
  (hb4:K.lookup b4=some { cls:=.type "tuple",data:=.seq #[.str "" u43,.str "-" u44] n43 }):Sty w K d:=by
 have ks:∀e,e∈(#[⟨PyData.keyHash w.params "minus",.str "minus" t0,.ref p0⟩,⟨PyData.keyHash w.params "plus",.str "plus" t1,.ref p1⟩,⟨PyData.keyHash w.params "blank",.str "blank" t2,.ref p2⟩,⟨PyData.keyHash w.params "brackets",.str "brackets" t3,.ref p3⟩,⟨PyData.keyHash w.params "behind",.str "behind" t4,.ref p4⟩]:Array DictEntry)->∃k,Value.isStrOf k e.key=true/\e.hash=hashStr w k:=by
  intro e he;simp only[List.mem_toArray,mem_cons,List.not_mem_nil,or_false]at he;rcases he with rfl|rfl|rfl|rfl|rfl
  .exact⟨"minus",by simp[Value.isStrOf],rfl⟩
  .exact⟨"plus",by simp[Value.isStrOf],rfl⟩
  .exact⟨"blank",by simp[Value.isStrOf],rfl⟩
  .exact⟨"brackets",by simp[Value.isStrOf],rfl⟩
  .exact⟨"behind",by simp[Value.isStrOf],rfl⟩
 intro x hx;rcases hx with rfl|rfl|rfl|rfl|rfl
 .refine⟨p0,a0,b0,⟨_,_,hd,ks,?_⟩,λH=>⟨.mod hp0 (by simp) (.cons rfl (.cons rfl .nil)),.mod ha0 (by simp) (.cons ⟨u01,?_⟩ (.cons ⟨u02,?_⟩ .nil)),.mod hb0 (by simp) (.cons ⟨u03,?_⟩ (.cons ⟨u04,?_⟩ .nil))⟩⟩
  .unfold findBy;simp only[find?_toArray,find?_cons];rfl
  .exact congrArg (λz=>Value.str z _) (by rw[(jh _).1];right)
  .exact congrArg (λz=>Value.str z _) (by rw[(jh _).2];right)
  .exact congrArg (λz=>Value.str z _) (by rw[(jh _).1];right)
  .exact congrArg (λz=>Value.str z _) (by rw[(jh _).2];right)
 .refine⟨p1,a1,b1,⟨_,_,hd,ks,?_⟩,λH=>⟨.mod hp1 (by simp) (.cons rfl (.cons rfl .nil)),.mod ha1 (by simp) (.cons ⟨u11,?_⟩ (.cons ⟨u12,?_⟩ .nil)),.mod hb1 (by simp) (.cons ⟨u13,?_⟩ (.cons ⟨u14,?_⟩ .nil))⟩⟩
  .unfold findBy;simp only[find?_toArray,find?_cons];rfl
  .exact congrArg (λz=>Value.str z _) (by rw[(xx _).1];right)
  .exact congrArg (λz=>Value.str z _) (by rw[(xx _).2];right)
  .exact congrArg (λz=>Value.str z _) (by rw[(xx _).1];right)
  .exact congrArg (λz=>Value.str z _) (by rw[(xx _).2];right)
 .refine⟨p2,a2,b2,⟨_,_,hd,ks,?_⟩,λH=>⟨.mod hp2 (by simp) (.cons rfl (.cons rfl .nil)),.mod ha2 (by simp) (.cons ⟨u21,?_⟩ (.cons ⟨u22,?_⟩ .nil)),.mod hb2 (by simp) (.cons ⟨u23,?_⟩ (.cons ⟨u24,?_⟩ .nil))⟩⟩
  .unfold findBy;simp only[find?_toArray,find?_cons];rfl
  .exact congrArg (λz=>Value.str z _) (by rw[(ji _).1];right)
  .exact congrArg (λz=>Value.str z _) (by rw[(ji _).2];right)
  .exact congrArg (λz=>Value.str z _) (by rw[(ji _).1];right)
  .exact congrArg (λz=>Value.str z _) (by rw[(ji _).2];right)
 .refine⟨p3,a3,b3,⟨_,_,hd,ks,?_⟩,λH=>⟨.mod hp3 (by simp) (.cons rfl (.cons rfl .nil)),.mod ha3 (by simp) (.cons ⟨u31,?_⟩ (.cons ⟨u32,?_⟩ .nil)),.mod hb3 (by simp) (.cons ⟨u33,?_⟩ (.cons ⟨u34,?_⟩ .nil))⟩⟩
  .unfold findBy;simp only[find?_toArray,find?_cons];rfl
  .exact congrArg (λz=>Value.str z _) (by rw[(qN _).1];right)
  .exact congrArg (λz=>Value.str z _) (by rw[(qN _).2];right)
  .exact congrArg (λz=>Value.str z _) (by rw[(qN _).1];right)
  .exact congrArg (λz=>Value.str z _) (by rw[(qN _).2];right)
 .refine⟨p4,a4,b4,⟨_,_,hd,ks,?_⟩,λH=>⟨.mod hp4 (by simp) (.cons rfl (.cons rfl .nil)),.mod ha4 (by simp) (.cons ⟨u41,?_⟩ (.cons ⟨u42,?_⟩ .nil)),.mod hb4 (by simp) (.cons ⟨u43,?_⟩ (.cons ⟨u44,?_⟩ .nil))⟩⟩
  .unfold findBy;simp only[find?_toArray,find?_cons];rfl
  .exact congrArg (λz=>Value.str z _) (by rw[(jD _).1];right)
  .exact congrArg (λz=>Value.str z _) (by rw[(jD _).2];right)
  .exact congrArg (λz=>Value.str z _) (by rw[(jD _).1];right)
  .exact congrArg (λz=>Value.str z _) (by rw[(jD _).2];right)
section
variable{X:Cx}{σ:St}{H:Hp}{Q:VK}{D:Z0}{K:W.Frag}
def Fa(K:PySem.W.Frag)(g:TG)(tb:TS)(D:Z0)(σ:St)(x:V)(H:Hp):Prop:=∃a,x=.ref a/\(∃xs,SqT K H a xs)/\∃W:Nat->Nat->St->Hp->Prop,(∃m,W 0 m σ H)/\∀i m σ H,W i m σ H ->
 ((Itt K a).stop i H/\D.nx σ H)\/((Itt K a).go i H/\∃N:St->Hp->Prop,(∀σ' H',N σ' H'->∃m',m'<m/\W (i+1) m' σ' H')/\∀x H',(Itt K a).yld i H x H'->g x σ H' λσ2 H2=>tb { D with nx:=N,ct:=N,bk:=D.nx } σ2 H2)
theorem DO{tl:TE}{g:TG}{tb:TS}(h:tl σ H (Fa K g tb D σ)):C5 (HS K tl) g tb D σ H:=h
theorem BB{g:TG}{tb:TS}(hx:SqT K H a xs)(Pv:Nat->St->Hp->Prop)(h0:Pv 0 σ H)(hl:∀i σ H,i<=xs.length->Pv i σ H->SqT K H a xs)
  (hs:∀i x σ H,xs[i]?=some x->Pv i σ H->g x σ H λσ2 H2=>tb { D with nx:=Pv (i+1),ct:=Pv (i+1),bk:=D.nx } σ2 H2) (hd:∀σ H,Pv xs.length σ H->D.nx σ H):Fa K g tb D σ (.ref a) H:=⟨a,rfl,⟨xs,hx⟩,Ar Pv h0 hl hs hd⟩
theorem Dn:∀c∈List.range 127,(!(Builtin.Str.occurrences "0123456789abcdef" (T [c]) 0 (Str.ofString "0123456789abcdef").length 1).isEmpty)=decide (0<=fv c):=by right
theorem GD{c:Nat}(h:c<127)(q:Q (.bl (decide (0<=fv c))) H):Dd (.str (T [c])) (.str "0123456789abcdef") H Q:=E6 (by rw[Dn c (List.mem_range.mpr h)];exact q)
theorem Ah{lo hi:Option Int}(q:Q (.str (T [])) H):sM (.str (T [])) lo hi H Q:=by
 refine sQ (by decide) ?_;rw[K1,YN];simpa using q
end
def bod(x:Str)(b:Bool)(t:List Nat):List Nat:=(t.take (t.length-(stT x b).length)).drop (stL x b).length
def Fg(l:List Nat):Prop:=l≠[]/\0<=fv (l.getD 0 0)/\0<=fv (l.getD (l.length-1) 0)
def Sgd(x:Str)(b:Bool)(t:List Nat):Prop:=Fg (bod x b t)/\stL x b++bod x b t++stT x b=t
theorem Bb{t:List Nat}:(bod x b t).length=t.length-(stT x b).length-(stL x b).length:=by
 unfold bod;rw[length_drop,length_take,Nat.min_eq_left (Nat.sub_le _ _)]
theorem A8{t:List Nat}(h:Asc t):Asc (bod x b t):=(h.take _).drop _
theorem fz{t:List Nat}{i:Nat}(h:Asc t)(hi:i<t.length):t.getD i 0<127:=by
 rw[getD_eq_getElem?_getD,getElem?_eq_getElem hi];exact h _ (getElem_mem hi)
theorem Yj{c d:Nat}(h:0<=fv c)(e:c=d)(hd:fv d=-1):False:=by rw[e,hd]at h;omega
theorem Qp(hx:yj x){t:List Nat}(h0:Sgd x false t)(h1:Sgd x true t):False:=by
 have b0:=List.length_pos_iff.mpr h0.1.1;have b1:=List.length_pos_iff.mpr h1.1.1;have e0:=h0.2;have e1:=h1.2;have f0:=h0.1.2;generalize hB:bod x false t=B at *;generalize hC:bod x true t=C at *;have e:=e0.trans e1.symm;rcases hx with rfl|rfl|rfl|rfl|rfl
 .rw[(jh _).1,(jh _).2,(jh _).1,(jh _).2]at e;have z1:=congrArg (λl=>l.getD 0 0) e;exact Yj f0.1 (by simpa using z1) (by decide)
 .rw[(xx _).1,(xx _).2,(xx _).1,(xx _).2]at e;have z1:=congrArg (λl=>l.getD 0 0) e;simp at z1
 .rw[(ji _).1,(ji _).2,(ji _).1,(ji _).2]at e;have z1:=congrArg (λl=>l.getD 0 0) e;simp at z1
 .rw[(qN _).1,(qN _).2,(qN _).1,(qN _).2]at e;have z1:=congrArg (λl=>l.getD 0 0) e;exact Yj f0.1 (by simpa using z1) (by decide)
 .rw[(jD _).1,(jD _).2,(jD _).1,(jD _).2]at e;have e':B=C++[45]:=by simpa using e
  have z1:B.getD (B.length-1) 0=45:=by
   rw[e',length_append,length_singleton,Nat.add_sub_cancel,dS (Nat.le_refl _),Nat.sub_self];rfl
  exact Yj f0.2 z1 (by decide)
theorem oh(h:yj x)(b:Bool):Asc (stL x b)/\Asc (stT x b):=by
 unfold Asc;rcases h with rfl|rfl|rfl|rfl|rfl
 .rw[(jh b).1,(jh b).2];cases b<;>decide
 .rw[(xx b).1,(xx b).2];cases b<;>decide
 .rw[(ji b).1,(ji b).2];cases b<;>decide
 .rw[(qN b).1,(qN b).2];cases b<;>decide
 .rw[(jD b).1,(jD b).2];cases b<;>decide
section
variable{X:Cx}{H:Hp}{Q:VK}{K:W.Frag}{σ:St}
def Hr:V->List V->Hp->VK->Prop:=λx vs H Q=>∃(a:List Nat)(i:Int)(c:Nat),x=.str (T a)/\vs=[.int i,.str (T [c])]/\0<=i/\i<=1000/\Q (.str (T (List.replicate (i.toNat-a.length) c++a))) H
theorem mZ:MtR X "str.rjust" Hr:=by
 intro pins s σ H x vs v us Q I rx rv h;obtain⟨a,i,c,rfl,rfl,h0,h1,q⟩:=h;obtain⟨t,rfl⟩:=rx;obtain⟨u1,u2,rfl,r1,r2⟩:=nz rv;obtain⟨t1,rfl⟩:=r1;obtain⟨t2,rfl⟩:=r2;have pk:PadOk i=true:=by
  unfold PadOk Builtin.Str.tooLong fitsSsize;have:¬i.toNat>sizeLine:=by show ¬i.toNat>16777216;omega
  rw[decide_eq_false this];simp;omega
 refine rjust_fill pk rfl λt' k=>⟨.str _,H,I.tok _,⟨t',rfl⟩,?_⟩
 have e:Txt.rjustF (T a) i ((T [c]).cps.getD 0 0)=T (List.replicate (i.toNat-a.length) c++a):=Vw (rjustF_list (T a) i c);rw[e];exact q
theorem Gf{a:List Nat}{c:Nat}(h0:0<=i)(h1:i<=1000)(q:Q (.str (T (List.replicate (i.toNat-a.length) c++a))) H):Hr (.str (T a)) [.int i,.str (T [c])] H Q:=⟨a,i,c,rfl,rfl,h0,h1,q⟩
end
def dgs(b p n:Nat):List Nat:=List.replicate (p+1-(yh b n).length) 48++yh b n
theorem JA{b p:Nat}(h2:2<=b)(h16:b<=16)(hp:p<=6)(h:n<b^(40+p)):yF b (dgs b p n)/\val b (dgs b p n)=n/\p+1<=(dgs b p n).length/\(dgs b p n).length<=40+p/\((dgs b p n).getD 0 0=48->(dgs b p n).length=p+1):=by
 have s:=Vh h2 h16 n n (Nat.le_refl _);have ln:=Kz h2 (39+p) n (by rw[show 39+p+1=40+p by omega];exact h);have ps:=List.length_pos_iff.mpr s.2.2.1;have ld:(dgs b p n).length=p+1-(yh b n).length+(yh b n).length:=by unfold dgs;rw[length_append,length_replicate]
 refine⟨(yF.noughts (by omega) _).app s.1,?_,by omega,by omega,λz=>?_⟩
 .unfold dgs;rw[YV];exact s.2.1
 .rcases lt_or_ge (p+1) (yh b n).length with q|q
  .have e:dgs b p n=yh b n:=by unfold dgs;rw[show p+1-(yh b n).length=0 by omega];rfl
   rw[e]at z;have:=s.2.2.2 z;subst this;rw[jL (by omega)]at q;simp at q
  .omega
def whl(b p n:Nat):List Nat:=(dgs b p n).take ((dgs b p n).length-p)
def rst(b p n:Nat):List Nat:=(dgs b p n).drop ((dgs b p n).length-p)
def bdy(b p pt z m n:Nat):List Nat:=if p=0 then gr z m (whl b p n)else gr z m (whl b p n)++[pt]++rst b p n
theorem nK(b p n:Nat):whl b p n++rst b p n=dgs b p n:=List.take_append_drop _ _
theorem gP{b p:Nat}(h2:2<=b)(h16:b<=16)(hp:p<=6)(h:n<b^(40+p)):1<=(whl b p n).length/\(whl b p n).length<=40/\(rst b p n).length=p/\((whl b p n).getD 0 0=48->(whl b p n).length=1):=by
 have s:=JA h2 h16 hp h;have lw:(whl b p n).length=(dgs b p n).length-p:=by unfold whl;rw[length_take];omega
 refine⟨by omega,by omega,by unfold rst;rw[length_drop];omega,λz=>?_⟩;have e:(whl b p n).getD 0 0=(dgs b p n).getD 0 0:=by
  rw[<- nK b p n,kX (by omega)]
 rw[e]at z;have:=s.2.2.2.2 z;omega
theorem rc{a:List Nat}(hk:k<a.length):gr z m (a.drop k)=a.getD k 0::((if 0<z/\0<a.length-(k+1)/\(a.length-(k+1))%z=0 then[m]else[])++gr z m (a.drop (k+1))):=by
 have t:=fM (z:=z) (m:=m) (a:=a) (k:=a.length-(k+1)) (by omega);rw[show a.length-(a.length-(k+1)+1)=k by omega,show a.length-1-(a.length-(k+1))=k by omega,show a.length-(a.length-(k+1))=k+1 by omega]at t;exact t
section
variable{X:Cx}{H:Hp}{Q:VK}{K:W.Frag}{σ:St}
theorem FM{a:Bool}(q:Q (.bl (!decide (a=b))) H):rNe (.bl a) (.bl b) H Q:=⟨rfl,by
 have e:decide (V.bl a=V.bl b)=decide (a=b):=by
  by_cases h:a=b
  .rw[decide_eq_true h,decide_eq_true (congrArg V.bl h)]
  .rw[decide_eq_false h,decide_eq_false (λz=>h (V.bl.inj z))]
 rw[e];exact q⟩
end
theorem u7{z m:Nat}:∀(k:Nat)(b:List Nat),b.length<=k->∀c∈RJ z m b,c∈b\/c=m
 |0,b,h,c,hc=>by rw[y7 (by omega)]at hc;exact .inl hc
 |k+1,b,h,c,hc=>by
  rcases eq_zero_or_pos z with p|p
  .subst p;rw[XI]at hc;exact .inl hc
  .rcases lt_or_ge z b.length with q|q
   .rw[Vu p q]at hc;rcases List.mem_append.mp hc with hc|hc
    .exact .inl (List.mem_of_mem_take hc)
    .rcases List.mem_cons.mp hc with hc|hc
     .exact .inr hc
     .rcases u7 k (b.drop z) (by rw[length_drop];omega) c hc with hc|hc
      .exact .inl (List.mem_of_mem_drop hc)
      .exact .inr hc
   .rw[y7 q]at hc;exact .inl hc
theorem Dc{a:List Nat}(h:Asc a)(hm:m<127):Asc (gr z m a):=λc hc=>by
 unfold gr at hc;rcases u7 _ a.reverse (Nat.le_refl _) c (List.mem_reverse.mp hc)with z|z
 .exact h c (List.mem_reverse.mp z)
 .rw[z];exact hm
theorem B9{b:List Nat}(h:0<b.length):(RJ z m b).getD 0 0=b.getD 0 0:=by
 rcases eq_zero_or_pos z with p|p
 .subst p;rw[XI]
 .rcases lt_or_ge z b.length with q|q
  .rw[Vu p q,kX (by rw[length_take];omega),getD_eq_getElem?_getD,List.getElem?_take,if_pos p,<- getD_eq_getElem?_getD]
  .rw[y7 q]
theorem CP{a:List Nat}(h:0<a.length):(gr z m a).getD ((gr z m a).length-1) 0=a.getD (a.length-1) 0:=by
 have l:=dU (z:=z) (m:=m) (a:=a);have e1:(RJ z m a.reverse).getD 0 0=a.reverse.getD 0 0:=B9 (by rw[length_reverse];exact h);rw[Kq h]at e1;have e2:(gr z m a).reverse=RJ z m a.reverse:=by unfold gr;rw[reverse_reverse]
 rw[<- e2,Kq (by omega)]at e1;rw[show(gr z m a).length-1=(gr z m a).length-1-0 by omega,e1];rfl
theorem mH{a:List Nat}(h:0<a.length):(gr z m a).getD 0 0=a.getD 0 0:=by
 have f:=rc (z:=z) (m:=m) (a:=a) (k:=0) h;rw[drop_zero]at f;rw[f];rfl
theorem yF.get{b:Int}{l:List Nat}(h:yF b l){i:Nat}(hi:i<l.length):0<=fv (l.getD i 0):=by
 rw[getD_eq_getElem?_getD,getElem?_eq_getElem hi];exact(h _ (getElem_mem hi)).2.1
theorem gR{b p pt:Nat}(h2:2<=b)(h16:b<=16)(hp:p<=6)(h:n<b^(40+p))(hpt:pt<127)(hm:m<127):Fg (bdy b p pt z m n)/\Asc (bdy b p pt z m n)/\(bdy b p pt z m n).length<=100:=by
 have ds:=JA h2 h16 hp h;have ws:=gP h2 h16 hp h;have wr:=nK b p n;have fw:yF b (whl b p n):=λc hc=>ds.1 c (by rw[<- wr];exact mem_append_left _ hc);have fr:yF b (rst b p n):=λc hc=>ds.1 c (by rw[<- wr];exact mem_append_right _ hc);have gl:=dU (z:=z) (m:=m) (a:=whl b p n);have ag:=Dc (z:=z) (m:=m) fw.asc hm;unfold bdy Fg;rcases eq_zero_or_pos p with q|q
 .rw[if_pos q];refine⟨⟨List.length_pos_iff.mp (by omega),?_,?_⟩,ag,by omega⟩
  .rw[mH (by omega)];exact fw.get (by omega)
  .rw[CP (by omega)];exact fw.get (by omega)
 .rw[if_neg (by omega)];refine⟨⟨by simp,?_,?_⟩,(ag.app (Asc.one hpt)).app fr.asc,by simp only[length_append,length_singleton];omega⟩
  .rw[append_assoc,kX (by omega),mH (by omega)];exact fw.get (by omega)
  .rw[dS (by simp only[length_append,length_singleton];omega)];exact fr.get (by simp only[length_append,length_singleton];omega)
theorem nO{B:List Nat}:bod x b (stL x b++B++stT x b)=B:=by
 unfold bod;rw[show(stL x b++B++stT x b).length-(stT x b).length=(stL x b++B).length by simp only[length_append];omega,take_append_of_le_length (Nat.le_refl _),take_length,List.drop_append,drop_of_length_le (Nat.le_refl _),Nat.sub_self];rfl
def AA(X:Cx)(E:XK):Prop:=∀(pins:List (Addr×Obj))(σ:St)(e:Value)(s':Shared),XP X pins σ E e s'->X.xe e s'
section
variable{P:Program}{w:World}{K:W.Frag}{mg:Str ->Option Value}{base:Heap}{N:List Str}{qual:Str}{scope:Scope}{f:Addr}{cd:Value}{A:Around}{outer:List Env}{s:Shared}{H:Hp}{E:XK}
theorem dA:AA (Ze (CXE P w) P w K mg base N qual scope f cd A outer s H E) E:=by
 intro pins σ e s' h;obtain⟨H1,s1,I1,fl⟩:=h;obtain⟨x,C,a0,H',B,rfl,hos,hbare,fly,clo,hx1,hx2,q⟩:=fl;refine wpAny_leaves_onW I1.ok.frames rfl fly λh2 fly2 sm=>?_;refine⟨x,C,a0,H',B,rfl,hos.trans I1.os,hbare,fly2,λh3 st sm3=>?_,?_,hx2,q⟩
 .have cl:=clo h3 st (sm.trans sm3);have I3:=I1.call' (s':={ s' with heap:=h3 }) hos cl.1 cl.2 hbare (λb z=>nomatch z);exact⟨I3.base,I3.hok⟩
 .cases z:s.heap.get? x with
  |none=>rfl
  |some o=>
   obtain⟨o',e1⟩:=I1.base.there x o z (λh=>nomatch h);rw[hx1]at e1;cases e1
end
theorem rE{e:Expr}(F:Bj X.prog X.w X.K X.mg X.base x k ps sp)(pp:AA X E)(hr:xP n X.A)(hg:Gl X x)(ha:PA X (e::es) t)
  (hk:k<=n:=by decide)
  (hdb:Nd x:=by decide) (he:starEach (e::es) X.env=(false,eval e X.env)::starEach es X.env:=by rfl) (hpl:(backTo pos (starEach es X.env)).any (·.1)=false:=by rfl):
  PE X (.Call (.Name x p) (e::es) [] pos) (JU sp [] E t):=by
 intro pins s σ H Q I h;obtain⟨f,fd,G,hm,kp,hb⟩:=F;refine wpAny_Call_Name_kw (jG I hg hm ?_ hdb);refine W.callWith_K (h₀:=X.base) I.ok.mod.kin kp (thn (ha pos pins s σ H _ I h) λus s1⟨vs,H1,I1,r,q⟩=>⟨I1.kIn,?_⟩) he hpl;have r2:qP (vs++[]) (us++[]):=r.append .nil;have hl:(us++[]).length=ps.length:=by rw[<- r2.length];exact G.len _ _ _ _ q
 refine wpAny_call (codeAny_mono (G.run X.A X.stack s1 H1 ⟨us,[]⟩ (us++[]) (vs++[]) Q E (hr.mono hk) I1.env0 (hb s1 us I1.kIn hl) r2 q) λr s' hq=>?_);cases r with
 |error e=>exact pp pins σ e s' ⟨H1,s1,I1,hq⟩
 |ok fl=>
  cases fl with
  |ret u=>exact I1.after hq
  |next=>exact hq.elim
  |brk=>exact hq.elim
  |cont=>exact hq.elim
variable{N:List Str}{qual:Str}{f:Addr}
theorem mv{base:Heap}{scope:Scope}{cd:Value}{A:Around}{outer:List Env}{s:Shared}:xU (CXE P w) (Ze (CXE P w) P w K mg base N qual scope f cd A outer s H E) E:=λpins σ H1 s1 e s' I h=>dA pins σ e s' ⟨H1,s1,I,h⟩
abbrev tsV(ts:List (List Nat)):List V:=ts.map λl=>V.str (T l)
theorem d6(ts:List (List Nat)):(tsV ts).all Vs=true:=by
 rw[List.all_eq_true];intro x hx;obtain⟨l,_,rfl⟩:=List.mem_map.mp hx;rfl
theorem DS(a b:List Nat):eqV (.str (T a)) (.str (T b))=decide (a=b):=by
 show(T a==T b)=_;rw[Bool.eq_iff_iff,beq_iff_eq,decide_eq_true_iff,Fy]
section
variable{X:Cx}{H:Hp}{Q:VK}{K:W.Frag}
theorem o0(t:List Nat)(ts:List (List Nat)):inV (.str (T t)) (tsV ts)=decide (t∈ts):=by
 unfold inV;rw[Bool.eq_iff_iff,List.any_eq_true,decide_eq_true_iff];constructor
 .rintro⟨y,hy,e⟩;obtain⟨l,hl,rfl⟩:=List.mem_map.mp hy;rw[DS,decide_eq_true_iff]at e;exact e▸hl
 .intro h;exact⟨_,List.mem_map.mpr ⟨t,h,rfl⟩,by rw[DS,decide_eq_true_iff]⟩
theorem EN{p:Addr}{t:List Nat}(h:SqL K H p (tsV ts))(q:Q (.bl (decide (t∈ts))) H):rIn K false (.str (T t)) (.ref p) H Q:=⟨p,_,rfl,.inl h,rfl,d6 ts,by rw[o0];exact q⟩
theorem Aq{p:Addr}{t:List Nat}(h:SqL K H p (tsV ts))(q:Q (.bl (!decide (t∈ts))) H):rIn K true (.str (T t)) (.ref p) H Q:=⟨p,_,rfl,.inl h,rfl,d6 ts,by rw[o0];exact q⟩
theorem Ca{p:Addr}(h:SqL K H p (tsV ts))(h0:0<ts.length)(q:Q (.str (T (ts.getD (ts.length-1) []))) H):Aa K (.ref p) (.int (-1)) H Q:=by
 refine iX h (v:=.str (T (ts.getD (ts.length-1) []))) ?_ q;unfold atI ixN;rw[length_map,if_neg (show ¬(0:Int)<=-1 by decide),if_pos (show -(ts.length:Int)<=-1 by omega)];show(tsV ts)[((-1:Int)+ts.length).toNat]?=_;rw[show((-1:Int)+ts.length).toNat=ts.length-1 by omega,getElem?_map,getD_eq_getElem?_getD,getElem?_eq_getElem (by omega)];rfl
def lc(K:W.Frag):List V->Hp->VK->Prop:=λxs H Q=>∃p ys,xs=[.ref p]/\(SqL K H p ys\/SqT K H p ys)/\∀l,H l=none->Q (.ref l) (upd H l (.lst ys))
theorem fR:xa X (.type "list") (lc X.K):=cR
theorem gU{p:Addr}{ys:List V}(h:SqL K H p ys)(q:∀l H',zR H H'->H l=none->H' l=some (.lst ys)->Q (.ref l) H'):lc K [.ref p] H Q:=⟨p,ys,rfl,.inl h,λl hl=>q l _ (zw (zR.refl _) hl) hl zO⟩
theorem WJ(hz:xs.length<=sizeLine)(q:∀l H',zR H H'->H l=none->H' l=some (.lst xs)->Q (.ref l) H'):F9 Q xs H:=⟨hz,λl hl=>q l _ (zw (zR.refl _) hl) hl zO⟩
def lr:V->List V->Hp->VK->Prop:=λx xs H Q=>∃a b:List Nat,x=.str (T a)/\xs=[.str (T b)]/\Q (.bl (decide (a.take b.length=b))) H
theorem BU(a b:List Nat):Txt.startswith (T a) (T b)=decide (a.take b.length=b):=by
 have la:(T a).length=a.length:=rfl;have lb:(T b).length=b.length:=rfl;unfold Txt.startswith
 rw[StrLaws.subAt_eq,drop_zero,la,lb];show(decide (0+b.length<=a.length)&&(a.take b.length==b))=_;rw[Bool.eq_iff_iff,Bool.and_eq_true,decide_eq_true_iff,decide_eq_true_iff,beq_iff_eq];constructor
 .exact λh=>h.2
 .intro h;have:=congrArg List.length h;rw[length_take]at this;exact⟨by omega,h⟩
theorem QX:MtR X "str.startswith" lr:=by
 intro pins s σ H x xs v us Q I rx rv h;obtain⟨a,b,rfl,rfl,q⟩:=h;obtain⟨t,rfl⟩:=rx;obtain⟨u,rfl,ru⟩:=rv.one;obtain⟨t',rfl⟩:=ru;exact SC.startswith ⟨.bl _,H,I,rfl,by rw[BU];exact q⟩
theorem tY{a b:List Nat}(q:Q (.bl (decide (a.take b.length=b))) H):lr (.str (T a)) [.str (T b)] H Q:=⟨a,b,rfl,rfl,q⟩
end
def lk(n w:Int):Int:=if n<w then w-n else 0
def Zd(x:Str):Prop:=x="left"\/x="right"\/x="middle"
def pA(x:Str)(n w:Int):Int:=if x="left" then 0 else if x="right" then lk n w else lk n w/2
def pB(x:Str)(n w:Int):Int:=lk n w-pA x n w
theorem Jz(n w:Int)(h0:0<=n)(hw:w<=40):0<=lk n w/\lk n w<=40/\(w<=n->lk n w=0)/\(n<=w->lk n w=w-n):=by unfold lk;split<;>omega
theorem pAl(n w:Int):pA "left" n w=0:=by unfold pA;rw[if_pos rfl]
theorem pAr(n w:Int):pA "right" n w=lk n w:=by unfold pA;rw[if_neg (by right),if_pos rfl]
theorem pAm(n w:Int):pA "middle" n w=lk n w/2:=by unfold pA;rw[if_neg (by right),if_neg (by right)]
def tD(x:Str)(n w:Int):Prop:=0<=pA x n w/\0<=pB x n w/\pA x n w+pB x n w=lk n w/\(x="left" ->pA x n w=0)/\(x="right" ->pB x n w=0)/\(x="middle" ->pB x n w=pA x n w\/pB x n w=pA x n w+1)
theorem yb{n w:Int}(hs:Zd x)(h0:0<=n)(hw:w<=40):tD x n w:=by
 have b:=Jz n w h0 hw;unfold tD pB;rcases hs with rfl|rfl|rfl
 .rw[pAl];exact⟨by omega,by omega,by omega,λ_=>rfl,λh=>absurd h (by right),λh=>absurd h (by right)⟩
 .rw[pAr];exact⟨by omega,by omega,by omega,λh=>absurd h (by right),λ_=>by omega,λh=>absurd h (by right)⟩
 .rw[pAm];exact⟨by omega,by omega,by omega,λh=>absurd h (by right),λh=>absurd h (by right),λ_=>by omega⟩
def pad(t:List Nat)(w:Int)(f:Nat)(x:Str):List Nat:=List.replicate (pA x t.length w).toNat f++t++List.replicate (pB x t.length w).toNat f
theorem VR{t:List Nat}{w:Int}{f:Nat}(h:tD x t.length w):((pad t w f x).length:Int)=t.length+lk t.length w:=by
 unfold pad;obtain⟨h1,h2,h3,_⟩:=h;simp only[length_append,length_replicate];omega
theorem ge{t:List Nat}{w:Int}{f:Nat}(h:tD x t.length w)(h1:w<=t.length)(h2:w<=40):pad t w f x=t:=by
 have b:=Jz t.length w (by omega) h2;obtain⟨a1,a2,a3,_⟩:=h;unfold pad;rw[show(pA x t.length w).toNat=0 by omega,show(pB x t.length w).toNat=0 by omega];simp
def sl(t:List Nat)(w:Int)(x:Str)(n:Nat):List Nat:=(t.take ((pA x n w)+n).toNat).drop (pA x n w).toNat
def gd(t:List Nat)(w:Int)(f:Nat)(x:Str)(n:Nat):Bool:=decide (pad (sl t w x n) w f x=t)
def qy(t:List Nat)(w:Int)(f:Nat)(x:Str):List (List Nat):=if w<t.length then[t]else((List.range (w+1).toNat).filter (gd t w f x)).map (sl t w x)
theorem AL{w:Int}(hs:Zd x)(h:(n:Int)<=w)(hw:w<=40):∃a b:Nat,pA x n w=a/\pB x n w=b/\(a+b+n:Int)=w/\(x="left" ->a=0)/\(x="right" ->b=0)/\(x="middle" ->a=(w.toNat-n)/2):=by
 have b:=yb (n:=n) hs (by omega) hw;have l:=(Jz n w (by omega) hw).2.2.2 h;obtain⟨b1,b2,b3,b4,b5,b6⟩:=b;rw[l]at b3;obtain⟨A,ha⟩:=Int.eq_ofNat_of_zero_le b1;obtain⟨B,hb⟩:=Int.eq_ofNat_of_zero_le b2;rw[ha]at b3 b4 b6;rw[hb]at b3 b5 b6;have q:w.toNat-n=A+B:=by omega
 rw[q];have q2:(A+B+n:Int)=w:=by omega
 clear b3 b1 b2 l h hw q;exact⟨A,B,ha,hb,q2,λh=>Int.ofNat.inj (b4 h),λh=>Int.ofNat.inj (b5 h),λh=>by have:=b6 h;clear b4 b5 b6 q2 ha hb;omega⟩
theorem tq{t:List Nat}{w:Int}{a:Nat}(e:pA x n w=a):sl t w x n=(t.take (a+n)).drop a:=by
 unfold sl;rw[e];congr 1
theorem uT{t:List Nat}{w:Int}(hs:Zd x)(h:(n:Int)<=w)(hw:w<=40)(ht:(t.length:Int)=w):(sl t w x n).length=n:=by
 obtain⟨a,b,e1,e2,e3,_⟩:=AL hs h hw;rw[tq e1,length_drop,length_take];omega
theorem Qk{t:List Nat}{w:Int}{f:Nat}(h:w<t.length):qy t w f x=[t]:=by unfold qy;rw[if_pos h]
theorem dD{t:List Nat}{w:Int}{f:Nat}(hs:Zd x)(hw:w<=40)(h:(t.length:Int)<w):qy t w f x=[]:=by
 unfold qy;rw[if_neg (by omega),List.filter_eq_nil_iff.mpr,List.map_nil];intro n _ g;unfold gd at g;have g':=congrArg List.length (of_decide_eq_true g);have b:=yb (n:=(sl t w x n).length) hs (by omega) hw;have l:=VR (f:=f) b;have c:=Jz (sl t w x n).length w (by omega) hw;omega
theorem EU{t:List Nat}{w:Int}{f:Nat}(hs:Zd x)(hw:w<=40)(h:(t.length:Int)<=w):sl (pad t w f x) w x t.length=t/\gd (pad t w f x) w f x t.length=true/\((pad t w f x).length:Int)=w:=by
 obtain⟨a,b,e1,e2,e3,_⟩:=AL (n:=t.length) hs h hw;have hl:sl (pad t w f x) w x t.length=t:=by
  rw[tq e1];unfold pad;rw[e1,e2,Int.toNat_natCast,Int.toNat_natCast,List.take_left' (by rw[length_append,length_replicate]),List.drop_left' (by rw[length_replicate])]
 refine⟨hl,?_,?_⟩
 .unfold gd;rw[hl,decide_eq_true_iff]
 .have l:=VR (f:=f) (yb (n:=t.length) hs (by omega) hw);have c:=Jz t.length w (by omega) hw;omega
theorem J4{t:List Nat}{w:Int}{f:Nat}(sx:Zd x)(hw:w<=40){c:List Nat}(h:c∈qy t w f x):pad c w f x=t:=by
 unfold qy at h;split at h
 .rename_i hl;rw[List.mem_singleton.mp h];exact ge (yb sx (by omega) hw) (by omega) hw
 .obtain⟨n,hn,rfl⟩:=List.mem_map.mp h;exact of_decide_eq_true (List.mem_filter.mp hn).2
theorem gy{t:List Nat}{w:Int}{f:Nat}(sx:Zd x)(hw:w<=40):t∈qy (pad t w f x) w f x:=by
 rcases Int.lt_or_le w t.length with q|q
 .rw[ge (yb sx (by omega) hw) (by omega) hw,Qk q];exact List.mem_singleton.mpr rfl
 .obtain⟨p1,p2,p3⟩:=EU (f:=f) sx hw q;unfold qy;rw[if_neg (by omega)];exact List.mem_map.mpr ⟨t.length,List.mem_filter.mpr ⟨List.mem_range.mpr (by omega),p2⟩,p1⟩
theorem J3{t:List Nat}{w:Int}{f:Nat}(sx:Zd x)(hw:w<=40){c:List Nat}:c∈qy t w f x↔pad c w f x=t:=⟨J4 sx hw,λh=>h▸gy sx hw⟩
theorem Wm{t:List Nat}{w:Int}{f:Nat}(sx:Zd x)(hw:w<=40):(qy t w f x).Nodup:=by
 rcases Int.lt_trichotomy (t.length:Int) w with h|h|h
 .rw[dD sx hw h];exact List.nodup_nil
 .unfold qy;rw[if_neg (by omega)];refine List.pairwise_map.mpr ?_;have pr:((List.range (w+1).toNat).filter (gd t w f x)).Pairwise (·≠·):=List.Pairwise.filter _ (List.nodup_range);refine(List.Pairwise.and_mem.mp pr).imp ?_;rintro a b ⟨ha,hb,hne⟩ e;have la:=List.mem_range.mp (List.mem_filter.mp ha).1;have lb:=List.mem_range.mp (List.mem_filter.mp hb).1;have e2:=congrArg List.length e;rw[uT sx (by omega) hw h,uT sx (by omega) hw h]at e2;exact hne e2
 .rw[Qk h];exact List.nodup_cons.mpr ⟨by simp,List.nodup_nil⟩
structure eJ(K:W.Frag)(x qual:Str)(st:Stmt)(f:Addr)(fd:FuncData):Prop where
 ex:∃(oc:Value)(od:Option Addr)(dV kV doc pm:Value)(an:Option Addr)(cdv ct:Value)(osl:Array (Option Value)),
  fd=W.fnOf x qual (qM st) (zp st) (zC st) dV kV doc pm an cdv ct/\K.lookup f=some ⟨oc,od,.func fd,osl⟩/\W.codeIn K cdv qual=true
 kp:W.keepIn K (.ref f)=true
variable{st:Stmt}
theorem Fun.d(F:Fun K x qual st f fd):eJ K x qual st f fd:=by
 obtain⟨oc,od,kV,doc,pm,an,cdv,ct,osl,h⟩:=F.ex;exact⟨⟨oc,od,.none,kV,doc,pm,an,cdv,ct,osl,h⟩,F.kp⟩
section
variable{P:Program}{w:World}{K:W.Frag}{mg:Str ->Option Value}{base:Heap}
theorem eJ.ok (F:eJ K x qual st f fd) (S:zI N ps (zC st)) (len : ∀ vs H Q E,sp vs H Q E->vs.length=ps.length)
  (hbody : ∀ (cdv:Value) (A:Around) (outer:List Env) (s:Shared) (H:Hp) (vs:List V) (Q:VK) (E:XK),xP k (A.deeper (envOfC qual (zC st) s.heap.objs.size f cdv))->sp vs H Q E ->
   ∃ t,PSs (Ze CX0 P w K mg base N qual (zC st) f cdv A outer s H E).nox (zp st) t/\t { nx:=fun _ H'=>Q .non H',rt:=Q } (start N vs) H):yX P w K mg base CX0 (k+1) f fd ps sp:=by
 obtain ⟨oc,od,dV,kV,doc,pm,an,cdv,ct,osl,rfl,lk,hcd⟩:=F.ex
 refine iV lk hcd S len fun A outer s H vs Q E hr hsp=>?_
 obtain ⟨t,h,q⟩:=hbody cdv A outer s H vs Q E hr hsp
 exact ⟨t,h.nox,q⟩
theorem eJ.okX (F:eJ K x qual st f fd) (S:zI N ps (zC st)) (len : ∀ vs H Q E,sp vs H Q E->vs.length=ps.length)
  (hbody : ∀ (cdv:Value) (A:Around) (outer:List Env) (s:Shared) (H:Hp) (vs:List V) (Q:VK) (E:XK),xP k (A.deeper (envOfC qual (zC st) s.heap.objs.size f cdv))->sp vs H Q E ->
   nk (Ze (CXE P w) P w K mg base N qual (zC st) f cdv A outer s H E) E->xU (CXE P w) (Ze (CXE P w) P w K mg base N qual (zC st) f cdv A outer s H E) E -> ∃ t,PSs (Ze (CXE P w) P w K mg base N qual (zC st) f cdv A outer s H E) (zp st) t/\t { nx:=fun _ H'=>Q .non H',rt:=Q } (start N vs) H):yX P w K mg base (CXE P w) (k+1) f fd ps sp:=by
 obtain ⟨oc,od,dV,kV,doc,pm,an,cdv,ct,osl,rfl,lk,hcd⟩:=F.ex
 exact iV lk hcd S len fun A outer s H vs Q E hr hsp=>hbody cdv A outer s H vs Q E hr hsp (fun pins σ H s h' x C args I hm q=>VT I hm q) mv
theorem eJ.binds(F:eJ K x qual st f fd)
  (h:∀(dV kV doc pm:Value)(an:Option Addr)(cdv ct:Value)(us:List Value),us.length=ps.length->bindArgs (W.fnOf x qual (qM st) (zp st) (zC st) dV kV doc pm an cdv ct) ⟨us,[]⟩=pure (ps.zip us)):xz K fd ps []:=by
 obtain⟨oc,od,dV,kV,doc,pm,an,cdv,ct,osl,rfl,lk,hcd⟩:=F.ex;exact .all (h dV kV doc pm an cdv ct)
theorem lZ{oc:Value}{od an:Option Addr}{osl:Array (Option Value)}{dV kV doc pm cdv ct:Value}(l:K.lookup f=some ⟨oc,od,.func (W.fnOf x qual (qM st) (zp st) (zC st) dV kV doc pm an cdv ct),osl⟩)
  (c:W.codeIn K cdv qual=true) (k:W.keepIn K (.ref f)=true):eJ K x qual st f (W.fnOf x qual (qM st) (zp st) (zC st) dV kV doc pm an cdv ct):=⟨⟨oc,od,dV,kV,doc,pm,an,cdv,ct,osl,rfl,l,c⟩,k⟩
end
def Dp(P:Program)(w:World)(K:W.Frag)(mg:Str->Option Value)(base:Heap)(CX:CXT)(C:Addr)(m:Str)(k:Nat)(ps:List Str)(sp:Sp):Prop:=
 ∃(f:Addr)(fd:FuncData),yX P w K mg base CX k f fd ps sp/\GA K C m f/\xz K fd ps []
def GH(P:Program)(w:World)(K:W.Frag)(mg:Str->Option Value)(base:Heap)(CX:CXT)(C:Addr)(k:Nat)(ps:List Str)(sp:Sp):Prop:=
 ∃(f:Addr)(fd:FuncData),yX P w K mg base CX k f fd ps sp/\Mk K C f/\xz K fd ps []
structure G6(K:W.Frag)(C:Addr)(m:Str)(f:Addr):Prop where
 sp:W.specialIn K (.ref C) "__getattribute__"=some (some (.builtin "type.__getattribute__"))
 rd:W.readsIn K C (.type "type")=true
 fc:W.findCls K (.ref C) (.type "type") m=some (.val (.ref f))
 kp:W.keepIn K (.ref f)=true
def Fz(P:Program)(w:World)(K:W.Frag)(mg:Str->Option Value)(base:Heap)(CX:CXT)(C:Addr)(m:Str)(k:Nat)(ps:List Str)(sp:Sp):Prop:=
 ∃(f:Addr)(fd:FuncData),yX P w K mg base CX k f fd ps sp/\G6 K C m f/\xz K fd ps []
section
variable{X:Cx}{CX:CXT}{k n:Nat}{C:Addr}{ps:List Str}{sp:Sp}{E:XK}{x m:Str}{p np pos apos:Pos}{e o:Expr}{es:List Expr}{ta:TE}{t:TA}
variable{pl:Sem Bool}
theorem zQ (F:Dp X.prog X.w X.K X.mg X.base CX C m k ps sp) (c:Cls X.K C) (hx:xU CX X E) (hr:xP n X.A) (he:PE X o ta) (ha:PA X (e::es) t) (hk:k<=n:=by decide)
  (hst:starEach (e::es) X.env=(false,eval e X.env)::starEach es X.env:=by rfl) (hpl:(backTo pos (starEach es X.env)).any (·.1)=false:=by rfl)
  (ht:eval (.Call (.Attribute o m apos) (e::es) [] pos) X.env=(do
   let ov <- eval o X.env
   standAt apos.atName
   let (f,first) <- holding [ov] (getMethod ov m pl)
   callWith pos f first (backTo pos (starEach (e::es) X.env)) (backToKw pos (keywordEach [] X.env))):=by rfl) :
  PE X (.Call (.Attribute o m apos) (e::es) [] pos) (VN C m sp [] E ta t):=by
 obtain ⟨f,fd,G,M,b⟩:=F
 exact B8 (pl:=pl) he c M (G.mono hk) hr b .nil hx ha hst hpl ht
theorem qR (F:Dp X.prog X.w X.K X.mg X.base CX C m k ps sp) (c:Cls X.K C) (hx:xU CX X E) (hr:xP n X.A) (he:PE X o ta) (hk:k<=n:=by decide)
  (ht:eval (.Call (.Attribute o m apos) [] [] pos) X.env=(do
   let ov <- eval o X.env
   standAt apos.atName
   let (f,first) <- holding [ov] (getMethod ov m pl)
   callWith pos f first (backTo pos (starEach [] X.env)) (backToKw pos (keywordEach [] X.env))):=by rfl) :
  PE X (.Call (.Attribute o m apos) [] [] pos) (VN C m sp [] E ta WK):=by
 obtain ⟨f,fd,G,M,b⟩:=F
 exact tU (pl:=pl) he c M (G.mono hk) hr b .nil hx ht
theorem YO(F:GH X.prog X.w X.K X.mg X.base CX C k ps sp)(hx:xU CX X E)(hr:xP n X.A)(hg:Gl X x)(hm:X.mg x=some (.ref C))(ha:PA X (e::es) t)(hk:k+1<=n:=by decide)
  (hdb:Nd x:=by decide) (he:starEach (e::es) X.env=(false,eval e X.env)::starEach es X.env:=by rfl) (hpl:(backTo pos (starEach es X.env)).any (·.1)=false:=by rfl):
  PE X (.Call (.Name x p) (e::es) [] pos) (Bw C sp [] E t):=by
 obtain⟨f,fd,G,M,b⟩:=F;exact C8 M G (hr.mono hk) hg hm b .nil hx ha hdb he hpl
theorem Vd (F:Fz X.prog X.w X.K X.mg X.base CX C m k ps sp) (hx:xU CX X E) (hr:xP n X.A) (hg:Gl X x) (hm:X.mg x=some (.ref C)) (ha:PA X (e::es) t) (hk:k<=n:=by decide)
  (hdb:Nd x:=by decide) (hst:starEach (e::es) X.env=(false,eval e X.env)::starEach es X.env:=by rfl) (hpl:(backTo pos (starEach es X.env)).any (·.1)=false:=by rfl)
  (ht:eval (.Call (.Attribute (.Name x np) m apos) (e::es) [] pos) X.env=(do
   let ov <- eval (.Name x np) X.env
   standAt apos.atName
   let (f,first) <- holding [ov] (getMethod ov m pl)
   callWith pos f first (backTo pos (starEach (e::es) X.env)) (backToKw pos (keywordEach [] X.env))):=by rfl) :
  PE X (.Call (.Attribute (.Name x np) m apos) (e::es) [] pos) (JU sp [] E t):=by
 intro pins s σ H Q I h
 obtain ⟨f,fd,G,M,b⟩:=F
 refine W.methodCall_KW (pl:=pl) (jG I hg hm ?_ hdb) ht
 refine W.method_cls I.kIn M.sp (W.cls_value I.kIn M.rd M.fc rfl ?_)
 have I1:=I.tok (s.toks+1)
 refine W.callWith_K (first:=[]) (h₀:=X.base) I.ok.mod.kin M.kp (thn (ha pos pins _ σ H _ I1 h) fun us s2 ⟨vs,H2,I2,r,q2⟩=>⟨I2.kIn,?_⟩) hst hpl
 exact KM (us:=us) (vs:=vs) (G.mono hk) hr b .nil hx I2 r q2
end
section
variable{σ:St}{H:Hp}{Q:VK}{D:Z0}{K:W.Frag}{C:Addr}{m f:Str}{sp:Sp}{E:XK}{ta tv:TE}{t:TA}{a:Addr}
def tG(H:Hp)(a C:Addr)(m:Str):Prop:=∃dx fs,H a=some (.ins C dx fs)/\fs.lookup m=none
def jj(K:W.Frag)(H:Hp)(a:Addr)(f:Str)(v:V):Prop:=∃C dx fs,H a=some (.ins C dx fs)/\Cls K C/\ZK K C f/\fs.lookup f=some v
theorem tG.same(g:zR H H')(h:tG H a C m):tG H' a C m:=by obtain⟨dx,fs,e,l⟩:=h;exact⟨dx,fs,g _ _ e,l⟩
variable{v:V}
theorem jj.same(g:zR H H')(h:jj K H a f v):jj K H' a f v:=by obtain⟨C,dx,fs,e,l⟩:=h;exact⟨C,dx,fs,g _ _ e,l⟩
def Ci(C:Addr)(m:Str)(sp:Sp)(dvs:List V)(E:XK)(t:TA)(σ:St)(Q:VK):VK:=λx H1=>∃a dx fs,x=.ref a/\H1 a=some (.ins C dx fs)/\fs.lookup m=none/\t σ H1 λvs H2=>sp (x::(vs++dvs)) H2 Q E
variable{dvs:List V}
theorem Vb(h:ta σ H (Ci C m sp dvs E t σ Q)):VN C m sp dvs E ta t σ H Q:=h
theorem Zx(hi:tG H a C m)(h:t σ H λvs H2=>sp (.ref a::(vs++dvs)) H2 Q E):Ci C m sp dvs E t σ Q (.ref a) H:=by
 obtain⟨dx,fs,e,l⟩:=hi;exact⟨a,dx,fs,rfl,e,l,h⟩
def Hx(K:W.Frag)(f:Str)(Q:VK):VK:=λx H1=>∃a C dx fs v,x=.ref a/\H1 a=some (.ins C dx fs)/\Cls K C/\ZK K C f/\fs.lookup f=some v/\Q v H1
theorem GZ(h:ta σ H (Hx K f Q)):DG K ta f σ H Q:=h
theorem DX(hi:jj K H a f v)(q:Q v H):Hx K f Q (.ref a) H:=by
 obtain⟨C,dx,fs,e,c,n,l⟩:=hi;exact⟨a,C,dx,fs,v,rfl,e,c,n,l,q⟩
def HR(K:W.Frag)(f:Str)(y:V)(D:Z0)(σ:St):VK:=λx H2=>∃a C dx fs,x=.ref a/\H2 a=some (.ins C dx fs)/\Cls K C/\ZK K C f/\fs.length<1000/\D.nx σ (upd H2 a (.ins C dx (JZ f y fs)))
theorem DL(h:tv σ H λy H1=>ta σ H1 (HR K f y D σ)):Ha K ta tv f D σ H:=h
theorem jm{dx:Addr}{fs:List (Str×V)}{y:V}(e:H a=some (.ins C dx fs))(c:Cls K C)(n:ZK K C f)(l:fs.length<1000)(q:D.nx σ (upd H a (.ins C dx (JZ f y fs)))):HR K f y D σ (.ref a) H:=⟨a,C,dx,fs,rfl,e,c,n,l,q⟩
def GY(C:Addr)(sp:Sp)(dvs:List V)(E:XK)(Q:VK):List V->Hp->Prop:=λvs H1=>∀x dx,H1 x=none->H1 dx=none->dx≠x ->
 sp (.ref x::(vs++dvs)) (upd (upd H1 dx (.own x)) x (.ins C dx [])) (λv H2=>v=.non/\Q (.ref x) H2) E
theorem Ep(h:t σ H (GY C sp dvs E Q)):Bw C sp dvs E t σ H Q:=h
theorem qb(f:Str)(v:V):JZ f v []=[(f,v)]:=rfl
variable{r:List (Str×V)}
theorem zf{k:Str}{x:V}(h:k≠f):JZ f v ((k,x)::r)=(k,x)::JZ f v r:=by
 rw[show JZ f v ((k,x)::r)=(if k=f then(k,v)::r else(k,x)::JZ f v r)from rfl,if_neg h]
theorem ZW{k:Str}{x:V}:((k,x)::r).lookup k=some x:=by simp[List.lookup]
theorem qH{k:Str}{x:V}(h:f≠k):((k,x)::r).lookup f=r.lookup f:=by
 have:(f==k)=false:=by simpa using h
 simp[List.lookup,this]
end
def Wk(σc σ:St):Prop:=σc.length=σ.length/\∀(i:Nat)v,σc[i]?=some (some v)->σ[i]?=some (some v)
theorem Wk.nil:Wk [] []:=⟨rfl,λi v h=>h⟩
theorem Wk.one{a b:St}{x:Option V}(h:Wk a b):Wk (x::a) (x::b):=⟨by rw[length_cons,length_cons,h.1],λi v e=>by
 cases i with
 |zero=>exact e
 |succ i=>exact h.2 i v e⟩
theorem Wk.any{a b:St}{x:Option V}(h:Wk a b):Wk (none::a) (x::b):=⟨by rw[length_cons,length_cons,h.1],λi v e=>by
 cases i with
 |zero=>exact absurd (Option.some.inj e) (by simp)
 |succ i=>exact h.2 i v e⟩
def Cx.tr(X:Cx)(pins:List (Addr×Obj))(σc:St)(E:XK):Cx:={ X with pn:=X.pn++pins,xe:=XP X pins σc E }
section
variable{X:Cx}{pins pins0:List (Addr×Obj)}{σ σc:St}{H:Hp}{s:Shared}{E:XK}
theorem Cx.Ok.tr(ok:X.Ok):(X.tr pins σc E).Ok:=⟨ok.mod,ok.kind,ok.glob,ok.blt,ok.above,ok.inj,ok.has,ok.cab,ok.hd,ok.frames,ok.stk,ok.exf,ok.bs,ok.bsz,ok.noex,ok.exfs,ok.funs,ok.frf⟩
theorem Cx.Ok.untr(ok:(X.tr pins σc E).Ok):X.Ok:=⟨ok.mod,ok.kind,ok.glob,ok.blt,ok.above,ok.inj,ok.has,ok.cab,ok.hd,ok.frames,ok.stk,ok.exf,ok.bs,ok.bsz,ok.noex,ok.exfs,ok.funs,ok.frf⟩
theorem Inv.tr(I:Inv X pins σ H s):Inv (X.tr pins σc E) [] σ H s:=⟨I.ok.tr,I.os,I.bare,I.base,I.loc,I.cell,I.free,I.freeC,λp hp=>I.pin p (by simpa[Cx.tr]using hp),I.hok,I.len⟩
theorem Inv.untr(I:Inv (X.tr pins0 σc E) pins σ H s):Inv X pins0 σ H s:=⟨I.ok.untr,I.os,I.bare,I.base,I.loc,I.cell,I.free,I.freeC,λp hp=>I.pin p (mem_append_left _ hp),I.hok,I.len⟩
theorem SP.untr{D:Z0}{f:Flow}{s':Shared}(h:SP (X.tr pins0 σc E) pins D f s'):SP X pins0 D f s':=by
 cases f with
 |next=>obtain⟨σ',H',I,q⟩:=h;exact⟨σ',H',I.untr,q⟩
 |brk=>obtain⟨σ',H',I,q⟩:=h;exact⟨σ',H',I.untr,q⟩
 |cont=>obtain⟨σ',H',I,q⟩:=h;exact⟨σ',H',I.untr,q⟩
 |ret u=>obtain⟨v,σ',H',I,r,q⟩:=h;exact⟨v,σ',H',I.untr,r,q⟩
theorem SP.outExc{y:Addr}{D:Z0}{f:Flow}{s':Shared}(ok:X.Ok)(h:SP (X.inExc y) pins D f s'):SP X pins D f s':=by
 cases f with
 |next=>obtain⟨σ',H',I,q⟩:=h;exact⟨σ',H',I.outExc ok,q⟩
 |brk=>obtain⟨σ',H',I,q⟩:=h;exact⟨σ',H',I.outExc ok,q⟩
 |cont=>obtain⟨σ',H',I,q⟩:=h;exact⟨σ',H',I.outExc ok,q⟩
 |ret u=>obtain⟨v,σ',H',I,r,q⟩:=h;exact⟨v,σ',H',I.outExc ok,r,q⟩
end
def PHs(X:Cx)(hs:List ExceptHandler)(th:Addr->TS):Prop:=
 ∀(pins:List (Addr×Obj))(s:Shared)(σ:St)(H:Hp)(D:Z0)(y C:Addr)(B:Heap)(a0:Value),Heap.FlyingW B (X.env::X.outer) y (.ref C) a0 s.heap->Inv X pins σ H s ->
  (∀h',B.StaysIn h'->s.heap.UpToSlots h'->Inv X pins σ H { s with heap:=h' })->th C D σ H->wpAny (model X.prog X.w) X.A (handleBy (.ref y) X.env hs) (SP X pins D) X.xe s
def tHn:Addr->TS:=λ_ _ _ _=>False
def tHc(K:W.Frag)(C':Addr)(ts:TS)(th:Addr->TS):Addr->TS:=λC D σ H=>∃b,W.exmOne K (.ref C) (.ref C')=some b/\if b=true then ts D σ H else th C D σ H
section
variable{X:Cx}{cx:Str}{C':Addr}{ts:TS}{th:Addr ->TS}{np hpos pos:Pos}{b₀:Stmt}{suite body:List Stmt}{Z3 hs:List ExceptHandler}{h₀:ExceptHandler}{tb:St ->XK ->TS}
theorem DR:PHs X [] tHn:=λ_ _ _ _ _ _ _ _ _ _ _ _ h=>h.elim
theorem isx{B:Heap}{l:List Env}{y:Addr}{a0:Value}(fl:Heap.FlyingW B l y (.ref C) a0 h):i7 y C h:=by
 obtain⟨_,_,_,oe,vs,_,_,_,h1,⟨h2,_⟩,h3,_⟩:=fl;exact⟨oe,h1,h2,vs,h3⟩
theorem A7(hgc:Gl X cx)(hmc:X.mg cx=some (.ref C'))(hs:∀y,PSs (X.inExc y) (b₀::suite) ts)(hr:PHs X Z3 th)(hdc:Nd cx:=by decide):
  PHs X (.ExceptHandler (some (.Name cx np)) none (b₀::suite) hpos::Z3) (tHc X.K C' ts th):=by
 intro pins s σ H D y C B a0 fly I clo h;obtain⟨b,exm,q⟩:=h;refine wpAny_handleBy_cons (codeAny_handlers_test (jG (I.inExc y) hgc hmc ?_ hdc)) (by intro q;cases q);refine(W.exm_one (M:=model X.prog X.w) I.kIn (isx fly).ty exm).here ?_;cases b with
 |false=>
  rw[if_neg Bool.false_ne_true]at q;exact hr pins s σ H D y C B a0 fly I clo q
 |true=>
  rw[if_pos rfl]at q;refine codeAny_handlers_suite (lands_againW fly λh3 fly3 sm3=>?_);have I3:=clo h3 fly3.1 sm3;exact wpAny_mono (hs y pins _ σ H D (I3.inExc y) q) (λf s6 sp6=>sp6.outExc I.ok) λ_ _ z=>z.elim
def D4(tb:St->XK->TS)(th:Addr->TS):TS:=λD σ H=>∃σc,tb σc (λcls _ H2=>∃C,cls=.ref C/\th C D σc H2) D σ H
theorem lx(hst:X.stack=X.env::X.outer)(hfr:X.env.frame=some X.env.locals)(hb:∀pins σc E,PSs (X.tr pins σc E) body (tb σc E))(hh:PHs X (h₀::hs) th):PS X (.Try body (h₀::hs) [] [] pos) (D4 tb th):=by
 intro pins s σ H D I h;obtain⟨σc,h⟩:=h;refine wpAny_Try_except (wpAny_mono (hb pins σc _ [] s σ H D I.tr h) (λf s1 q=>?_) λer s' z=>?_)
 .cases f with
  |next=>exact wpAny_execs_nil q.untr
  |ret u=>exact q.untr
  |brk=>exact q.untr
  |cont=>exact q.untr
 .obtain⟨H1,s1,I1,fl⟩:=z;obtain⟨y,C,a0,H2,B,rfl,hos,hbare,fly,clo,hy0,hy2,C0,z0,q⟩:=fl;cases z0;rw[hst]at fly;refine wpAny_looks_onW (I.ok.frames.trans (congrArg some hst)) hfr fly λh1 held sm1=>?_;refine wpAny_landsW held λh2 fly2 sm2=>?_;have cl:∀h',B.StaysIn h'->h2.UpToSlots h'->Inv X pins σc H2 { s' with heap:=h' }:=λh' st sm=>by
   have c:=clo h' st ((sm1.trans sm2).trans sm);exact I1.call' (s':={ s' with heap:=h' }) hos c.1 c.2 hbare (λb z=>nomatch z)
  have c2:=clo h2 fly2.1 (sm1.trans sm2);have I2:Inv X pins σc H2 { s' with heap:=h2 }:=I1.call' (s':={ s' with heap:=h2 }) hos c2.1 c2.2 hbare (λb z=>nomatch z);exact hh pins { s' with heap:=h2 } σc H2 D y C B a0 fly2 I2 cl q
theorem uM{D:Z0}(σc:St)(h:tb σc (λcls _ H2=>∃C,cls=.ref C/\th C D σc H2) D σ H):D4 tb th D σ H:=⟨σc,h⟩
end
section
variable{X:Cx}{pins0:List (Addr×Obj)}{σc:St}{k n:Nat}{C:Addr}{ps:List Str}{sp:Sp}{E:XK}{x m:Str}{p np pos apos:Pos}{e o:Expr}{es:List Expr}{ta:TE}{t:TA}
def gj(C:Addr)(m:Str)(sp:Sp)(E:XK)(σc:St)(ta:TE)(t:TA):TE:=λσ H Q=>ta σ H (Ci C m (λvs H Q E=>Wk σc σ/\sp vs H Q E) [] E t σ Q)
def nt(sp:Sp)(E:XK)(σc:St)(t:TA):TE:=λσ H Q=>t σ H λvs H1=>Wk σc σ/\sp (vs++[]) H1 Q E
theorem Cj{pins:List (Addr×Obj)}{s:Shared}{us:List Value}{vs:List V}(F:yX X.prog X.w X.K X.mg X.base (CXE X.prog X.w) k f fd ps sp)(hr:xP k X.A)(hb:xz X.K fd ps [])
  (I:Inv (X.tr pins0 σc E) pins σ H s) (r:qP vs us) (wk:Wk σc σ) (h:sp (vs++[]) H Q E):wpAny (model X.prog X.w) X.A (call (.ref f) us) (EP (X.tr pins0 σc E) pins σ Q) (X.tr pins0 σc E).xe s:=by
 have r2:qP (vs++[]) (us++[]):=r.append .nil;have hl:(us++[]).length=ps.length:=by rw[<- r2.length];exact F.len _ _ _ _ h
 have e0:ie X.prog X.w X.K X.mg X.base X.A X.stack s H:=I.env0;refine wpAny_call (codeAny_mono (F.run X.A X.stack s H ⟨us,[]⟩ (us++[]) (vs++[]) Q E hr e0 (hb s us I.kIn hl) r2 h) λr s' hq=>?_);cases r with
 |error e=>exact⟨H,s,I.untr.weak wk.1 wk.2,hq⟩
 |ok fl=>
  cases fl with
  |ret u=>exact I.after hq
  |next=>exact False.elim hq
  |brk=>exact False.elim hq
  |cont=>exact False.elim hq
theorem K5(F:Bj X.prog X.w X.K X.mg X.base x k ps sp)(hr:xP n X.A)(hg:Gl X x)(ha:PA (X.tr pins0 σc E) (e::es) t)(hk:k<=n:=by decide)
  (hdb:Nd x:=by decide) (he:starEach (e::es) X.env=(false,eval e X.env)::starEach es X.env:=by rfl) (hpl:(backTo pos (starEach es X.env)).any (·.1)=false:=by rfl):
  PE (X.tr pins0 σc E) (.Call (.Name x p) (e::es) [] pos) (nt sp E σc t):=by
 intro pins s σ H Q I h;obtain⟨f,fd,G,hm,kp,b⟩:=F;refine wpAny_Call_Name_kw (jG I hg hm ?_ hdb);refine W.callWith_K (h₀:=X.base) I.ok.mod.kin kp (thn (ha pos pins s σ H _ I h) λus s1⟨vs,H1,I1,r,q⟩=>⟨I1.kIn,?_⟩) he hpl;exact Cj (G.mono hk) hr b I1 r q.1 q.2
variable{σ:St}{H:Hp}{Q:VK}
theorem Ct(h:t σ H λvs H1=>Wk σc σ/\sp (vs++[]) H1 Q E):nt sp E σc t σ H Q:=h
theorem Ir{R:Prop}(h:Wk σc σ)(q:R):Wk σc σ/\R:=⟨h,q⟩
end
section
variable{X:Cx}{tg:Expr}
def Vo(z:Str)(lo hi:Option Int)(st:Int):List Nat:=(Builtin.Str.strSliceIndices lo hi st z.length).filterMap ((Lt z)[·]?)
def IC:V->Option Int->Option Int->Int->Hp->VK->Prop:=λx lo hi st H Q=>∃z:Str,x=.str z/\st≠0/\z.length<=sizeLine/\(Vo z lo hi st).length<=sizeLine/\∀y,(y=T (Vo z lo hi st)\/(st=1/\y=z))->Q (.str y) H
def Hs(r:V->Option Int->Option Int->Int->Hp->VK->Prop)(te:TE)(tl th:TO)(ts:TE):TE:=λσ H Q=>te σ H λx H1=>tl σ H1 λl H2=>th σ H2 λu H3=>ts σ H3 λs H4=>∃i,s=.int i/\r x l u i H4 Q
theorem og{v:Value}{o:Option Int}(p:IsPart v o):∃l:Option (Int×Tok),v=partValue l/\l.map (·.1)=o:=by
 cases p with
 |none=>exact⟨none,rfl,rfl⟩
 |int i t=>exact⟨some (i,t),rfl,rfl⟩
variable{te:TE}
theorem nS{e st:Expr}{lo hi:Option Expr}{ts:TE}{tl th:TO}{p2:Pos}(he:PE X e te)(hl:PO X lo tl)(hu:PO X hi th)(hs:PE X st ts):PE X (.Subscript e (.Slice lo hi (some st) p2) pos) (Hs IC te tl th ts):=by
 intro pins s σ H Q I h;refine Subscript_ (thn (he pins s σ H _ I h) λv s1 zq=>?_);obtain⟨x,H1,I1,r1,q1⟩:=zq;refine wpAny_Slice (thn (hl pins s1 σ H1 _ I1 q1) λvl s2⟨l,H2,I2,pl,q2⟩=>thn (hu pins s2 σ H2 _ I2 q2) λvu s3 zq=>?_);obtain⟨u,H3,I3,pu,q3⟩:=zq;refine thn (hs pins s3 σ H3 _ I3 q3) λvs s4 zq=>?_;obtain⟨y,H4,I4,r4,i,ey,z,ex,hst,hz,hzp,q4⟩:=zq;subst ey ex;obtain⟨t,rfl⟩:=r1;obtain⟨t4,rfl⟩:=r4;obtain⟨l',rfl,hl'⟩:=og pl;obtain⟨u',rfl,hu'⟩:=og pu;have I5:Inv X pins σ H4 { s4 with heap:=s4.heap.push { cls:=.type "slice",data:=.fields #[partValue l',partValue u',.int i t4] } }:=I4.kept (t':=s4.toks) λb ob q=>Heap.get?_push_of_some _ q;show wpAny (model X.prog X.w) X.A (subscriptTail e (.Slice lo hi (some st) p2) (.str z t) (.ref s4.heap.objs.size)) (EP X pins σ Q) X.xe { s4 with heap:=s4.heap.push { cls:=.type "slice",data:=.fields #[partValue l',partValue u',.int i t4] } };refine tail_any (ops:=[.ref s4.heap.objs.size,.str z t]) (typeIs_str _ _ _) PySem.F.slot_str_getitem.lookup ?_ (by with_unfolding_all rfl);refine wpAny_getItem_str_slice (l:=l') (u:=u') (st:=some (i,t4)) ⟨_,Heap.get?_push_size _ rfl,rfl,rfl⟩ (by simpa using hst) ?_;have e:slicePicked z l' u' (some (i,t4))=Builtin.Str.strSliceIndices l u i z.length:=by unfold slicePicked;rw[hl',hu'];rfl
 unfold sliceMade;rw[e];have ep:(⟨((Builtin.Str.strSliceIndices l u i z.length).filterMap (z.cps[·]?)).toArray⟩:Str)=T (Vo z l u i):=by
  unfold Vo T;congr 3;funext k;simp[Lt]
 rw[ep];refine post_val_or_str ⟨?_,λt' k=>⟨.str _,H4,I5.tok _,⟨t',rfl⟩,q4 _ ?_⟩⟩
 .split
  .exact hz
  .exact hzp
 .split
  .rename_i hc;rw[Bool.and_eq_true]at hc;exact .inr ⟨by simpa using hc.1,rfl⟩
  .exact .inl rfl
theorem G7{r:V->Option Int->Option Int->Int->Hp->VK->Prop}{ts:TE}{tl th:TO}(h:te σ H λx H1=>tl σ H1 λl H2=>th σ H2 λu H3=>ts σ H3 λs H4=>∃i,s=.int i/\r x l u i H4 Q):Hs r te tl th ts σ H Q:=h
theorem mQ{is:List Nat}{tt:TT}(h1:-(2^62)<=j)(h2:j<2^62)(hz:j.toNat<=sizeLine)(Pv:Nat->List V->Hp->Prop)(h0:Pv 0 [] H)(hl:∀i ys H,i<=j.toNat->Pv i ys H->ys.length<=i)
  (hs:∀i ys H,i<j.toNat->Pv i ys H->tt (some (.int (0+i))::is.map λj=>(σ[j]?).getD none) H λok H2=>if ok=true then te (some (.int (0+i))::is.map λj=>(σ[j]?).getD none) H2 λy H3=>NxC j.toNat Pv i (ys++[y]) H3 else NxC j.toNat Pv i ys H2)
  (hd:∀ys H,Pv j.toNat ys H->∀p H',zR H H'->H p=none->H' p=some (.lst ys)->Q (.ref p) H'):nA is tt te σ Q [.int j] H:=by
 refine⟨j,rfl,h1,h2,λi m ys H=>m=j.toNat-i/\i<=j.toNat/\Pv i ys H,⟨j.toNat,by simp,zero_le _,h0⟩,?_⟩;rintro i m ys H ⟨rfl,hi,p⟩;have ly:=hl i ys H hi p;refine⟨by omega,?_⟩;by_cases hlt:i<j.toNat
 .refine .inr ⟨hlt,by omega,λx H' y=>?_⟩;obtain⟨e,y⟩:=y;subst e y;exact hs i ys _ hlt p
 .have e:i=j.toNat:=by omega
  subst e;exact .inl ⟨Nat.le_refl _,λp' hp=>hd ys H p p' _ (qz hp _) hp zO⟩
end
def qd(K:W.Frag)(C:Addr):List Str->Prop
 |[]=>True
 |f::r=>ZK K C f/\qd K C r
theorem qd.at{f:Str}:∀{l:List Str},qd K C l->f∈l->ZK K C f
 |[],_,h=>by cases h
 |g::r,n,h=>by
  rcases List.mem_cons.mp h with rfl|h
  .exact n.1
  .exact n.2.at h
def bfs(wd:Int)(f:Nat)(x:Str)(st:Bool)(more:List (Str×V)):List (Str×V):=("width",.int wd)::("fill",.str (T [f]))::("side",.str x)::("strict",.bl st)::more
def bns:List Str:=["width","fill","side","strict"]
structure zS(K:W.Frag)(H:Hp)(a C:Addr)(wd:Int)(f:Nat)(x:Str)(st:Bool)(more:List (Str×V)):Prop where
 at_:∃dx,H a=some (.ins C dx (bfs wd f x st more))
 cl:Cls K C
 na:qd K C (bns++more.map (·.1))
section
variable{K:W.Frag}{H H':Hp}{a C:Addr}{wd:Int}{f:Nat}{x:Str}{st:Bool}{more:List (Str×V)}{g m:Str}{v:V}
theorem zS.same(s:zR H H')(F:zS K H a C wd f x st more):zS K H' a C wd f x st more:=⟨F.at_.imp λ_ e=>s _ _ e,F.cl,F.na⟩
theorem lE:(bfs wd f x st more).lookup ("width":Str)=some (.int wd):=ZW
theorem pY:(bfs wd f x st more).lookup ("fill":Str)=some (.str (T [f])):=(qH (by right)).trans ZW
theorem pT:(bfs wd f x st more).lookup ("side":Str)=some (.str x):=(qH (by right)).trans ((qH (by right)).trans ZW)
theorem iC:(bfs wd f x st more).lookup ("strict":Str)=some (.bl st):=(qH (by right)).trans ((qH (by right)).trans ((qH (by right)).trans ZW))
theorem gM(h:g∉bns):(bfs wd f x st more).lookup g=more.lookup g:=by
 simp only[bns,mem_cons,List.not_mem_nil,or_false,not_or]at h;exact(qH h.1).trans ((qH h.2.1).trans ((qH h.2.2.1).trans (qH h.2.2.2)))
theorem zS.fld(F:zS K H a C wd f x st more)(n:g∈bns++more.map (·.1))(l:(bfs wd f x st more).lookup g=some v):jj K H a g v:=by
 obtain⟨dx,e⟩:=F.at_;exact⟨C,dx,_,e,F.cl,F.na.at n,l⟩
theorem zS.width(F:zS K H a C wd f x st more):jj K H a "width" (.int wd):=F.fld (mem_append_left _ (by right)) lE
theorem zS.fill(F:zS K H a C wd f x st more):jj K H a "fill" (.str (T [f])):=F.fld (mem_append_left _ (by right)) pY
theorem zS.side(F:zS K H a C wd f x st more):jj K H a "side" (.str x):=F.fld (mem_append_left _ (by right)) pT
theorem zS.strict(F:zS K H a C wd f x st more):jj K H a "strict" (.bl st):=F.fld (mem_append_left _ (by right)) iC
theorem zS.own(F:zS K H a C wd f x st more)(h:g∉bns)(l:more.lookup g=some v)(n:g∈more.map (·.1)):jj K H a g v:=F.fld (mem_append_right _ n) ((gM h).trans l)
theorem zS.meth(F:zS K H a C wd f x st more)(h:m∉bns)(l:more.lookup m=none):tG H a C m:=by
 obtain⟨dx,e⟩:=F.at_;exact⟨dx,_,e,(gM h).trans l⟩
theorem x3(h:g∉bns):JZ g v (bfs wd f x st more)=bfs wd f x st (JZ g v more):=by
 simp only[bns,mem_cons,List.not_mem_nil,or_false,not_or]at h;unfold bfs;rw[zf (Ne.symm h.1),zf (Ne.symm h.2.1),zf (Ne.symm h.2.2.1),zf (Ne.symm h.2.2.2)]
end
theorem kC{e:Expr}{f:Str}{ta:TE}(hK:X.K=K)(he:PE X e ta)(hb:attributeBase e f X.env (eval e X.env)=eval e X.env):PE X (.Attribute e f pos) (DG K ta f):=hK▸FK he hb
section
variable{X:Cx}{K:W.Frag}{σ:St}{H:Hp}{Q:VK}{is:List Nat}{tt:TT}{te:TE}
theorem iP(bs:List Bool):((List.range bs.length).all λi=>(bs[i]?).getD true)=bs.all id:=by
 rw[Bool.eq_iff_iff,List.all_eq_true,List.all_eq_true];constructor
 .intro h b hb;obtain⟨i,hi,rfl⟩:=List.getElem_of_mem hb;have:=h i (List.mem_range.mpr hi);simpa[getElem?_eq_getElem hi]using this
 .intro h i hi;have hi':=List.mem_range.mp hi;have:=h _ (getElem_mem hi');simpa[getElem?_eq_getElem hi']using this
def Hh(K:W.Frag):List V->Hp->VK->Prop:=λxs H Q=>∃(p:Addr)(bs:List Bool),xs=[.ref p]/\SqL K H p (bs.map V.bl)/\Q (.bl (bs.all id)) H
theorem VU(hc:X.calm=true):xa X (.builtin "all") (Hh X.K):=by
 intro pins s σ H xs us Q I r h;obtain⟨p,bs,rfl,hp,q⟩:=h;obtain⟨u,rfl,ru⟩:=r.one;cases ru;obtain⟨its,ri,pl,hz⟩:=I.list hp;have hl:=pl.isList;have hlt:p<s.heap.objs.size:=by obtain⟨_,e,_⟩:=hl;exact Heap.lt_size e
 have hlen:its.length=bs.length:=by have:=ri.length;rw[length_map]at this;exact this.symm
 refine call_all_walk (wpAny_pyIter_list hl ?_);refine⟨s.heap.objs.size,[s.heap.objs.size,p],[s.heap.objs.size],its.toArray.size,_,_,λi=>(bs[i]?).getD true,rfl,Walks.list (A:=X.A.in1) (I.ok.hd hc) _ p (ne_of_lt hlt) its.toArray,
  ⟨⟨_,Heap.get?_push_size _ rfl,rfl,rfl⟩,hl.push _⟩,λi v s' Q' E' hP hQ=>?_,λh' tk hk=>?_⟩
 .have hP':its[i]?=some v:=by simpa using hP
  have hi:i<bs.length:=by
   rcases lt_or_ge i its.length with z|z
   .omega
   .rw[List.getElem?_eq_none z]at hP';cases hP'
  obtain⟨u,hu,ru⟩:=ri.get (i:=i) (x:=.bl bs[i]) (by rw[getElem?_map,getElem?_eq_getElem hi];rfl);rw[hP']at hu;cases hu;cases ru;simp only[getElem?_eq_getElem hi,Option.getD_some]at hQ;exact wpAny_truthy_bool hQ
 .have e:((List.range its.toArray.size).all λi=>(bs[i]?).getD true)=bs.all id:=by
   rw[List.size_toArray,hlen];exact iP bs
  rw[e];exact⟨.bl _,H,I.kept λb x eb=>hk b x (λhm=>by rw[List.mem_singleton.mp hm]at eb;exact lt_irrefl _ (Heap.lt_size eb)) (Heap.get?_push_of_some _ eb),rfl,q⟩
theorem Gb{p:Addr}{bs:List Bool}(h:SqL K H p (bs.map V.bl))(q:Q (.bl (bs.all id)) H):Hh K [.ref p] H Q:=⟨p,bs,rfl,h,q⟩
theorem AR{c:Nat}{a:List Nat}(q:Q (.bl (decide (c∈a))) H):Dd (.str (T [c])) (.str (T a)) H Q:=E6 (by
 have e:=PySem.StrLaws.found_one (T a) c;rw[show(T [c])=(⟨#[c]⟩:Str)from rfl,e];exact q)
theorem oO:bootBuiltins "all"=some (.builtin "all"):=by right
def tf(is:List Nat)(tt:TT)(te:TE)(σ:St)(Q:VK)(x:V)(H:Hp):Prop:=∃z:Str,x=.str z/\oH is tt te σ Q (Its z) H
theorem Ba{tl:TE}(h:tl σ H (tf is tt te σ Q)):nq is (HI tl) tt te σ H Q:=h
theorem ff{a:List Nat}(hz:a.length<=sizeLine)(Pv:Nat->List V->Hp->Prop)(h0:Pv 0 [] H)(hl:∀i ys H,i<=a.length->Pv i ys H->ys.length<=i)
  (hs:∀i c ys H,a[i]?=some c->i<a.length->Pv i ys H->tt (some (.str (T [c]))::is.map λj=>(σ[j]?).getD none) H λok H2=>if ok=true then te (some (.str (T [c]))::is.map λj=>(σ[j]?).getD none) H2 λy H3=>NxC a.length Pv i (ys++[y]) H3 else NxC a.length Pv i ys H2)
  (hd:∀ys H,Pv a.length ys H->∀p H',zR H H'->H' p=some (.lst ys)->Q (.ref p) H'):tf is tt te σ Q (.str (T a)) H:=by
 refine⟨T a,rfl,λi m ys H=>m=a.length-i/\i<=a.length/\Pv i ys H,⟨a.length,by simp,zero_le _,h0⟩,?_⟩;rintro i m ys H ⟨rfl,hi,p⟩;have ly:=hl i ys H hi p;refine⟨by omega,?_⟩;by_cases hlt:i<a.length
 .refine .inr ⟨hlt,by omega,λx H' y=>?_⟩;obtain⟨rfl,c,hc,rfl⟩:=y;exact hs i c ys _ hc hlt p
 .have e:i=a.length:=by omega
  subst e;exact .inl ⟨rfl,λp' hp=>hd ys H p p' _ (qz hp _) zO⟩
end
mutual
inductive Dt(K:W.Frag)(H:Hp):V->PyData->Prop
 |non:Dt K H .non .none
 |bl (b:Bool):Dt K H (.bl b) (.bool b)
 |int (i:Int):Dt K H (.int i) (.int i)
 |str (z:Str):Dt K H (.str z) (.str z)
 |lst {p:Addr} {xs:List V} {ds:List PyData}:SqL K H p xs->Dts K H xs ds->Dt K H (.ref p) (.list ds)
 |tup {p:Addr} {xs:List V} {ds:List PyData}:SqT K H p xs->Dts K H xs ds->Dt K H (.ref p) (.tuple ds)
inductive Dts(K:W.Frag)(H:Hp):List V->List PyData->Prop
 |nil:Dts K H [] []
 |cons {x:V} {d:PyData} {xs:List V} {ds:List PyData}:Dt K H x d->Dts K H xs ds->Dts K H (x::xs) (d::ds)
end
section
variable{X:Cx}{pins:List (Addr×Obj)}{σ:St}{H H':Hp}{s:Shared}{K:W.Frag}{Q:VK}
mutual
theorem ko(I:Inv X pins σ H s):∀{x:V}{d:PyData}{u:Value},Dt X.K H x d->xX x u->∃as,Reads s.heap u d as
 |_,_,_,.non,r=>by cases r;exact⟨_,.none⟩
 |_,_,_,.bl b,r=>by cases r;exact⟨_,.bool b⟩
 |_,_,_,.int i,r=>by obtain⟨t,rfl⟩:=r;exact⟨_,.int i t⟩
 |_,_,_,.str z,r=>by obtain⟨t,rfl⟩:=r;exact⟨_,.str z t⟩
 |_,_,_,.lst h hs,r=>by
  cases r;obtain⟨its,ri,pl,_⟩:=I.list h;obtain⟨as,q⟩:=Qq I hs ri;obtain⟨o,e,c,n,d⟩:=pl.isList;exact⟨_,.list e c d (by simpa using q)⟩
 |_,_,_,.tup h hs,r=>by
  cases r;obtain⟨its,ri,pl,_⟩:=I.tuple h;obtain⟨as,q⟩:=Qq I hs ri;obtain⟨o,e,c,n,d⟩:=pl;exact⟨_,.tuple e c d (by simpa using q)⟩
theorem Qq(I:Inv X pins σ H s):∀{xs:List V}{ds:List PyData}{us:List Value},Dts X.K H xs ds->qP xs us->∃as,ReadsAll s.heap us ds as
 |_,_,_,.nil,.nil=>⟨_,.nil⟩
 |_,_,_,.cons h hs,.cons r rs=>by
  obtain⟨as,q⟩:=ko I h r;obtain⟨bs,qs⟩:=Qq I hs rs;exact⟨_,.cons q qs⟩
end
mutual
theorem Dt.same(g:zR H H'):∀{x:V}{d:PyData},Dt K H x d->Dt K H' x d
 |_,_,.non=>.non
 |_,_,.bl b=>.bl b
 |_,_,.int i=>.int i
 |_,_,.str z=>.str z
 |_,_,.lst h hs=>.lst (g.seq h) (Dts.same g hs)
 |_,_,.tup h hs=>.tup (SqT.same h g) (Dts.same g hs)
theorem Dts.same(g:zR H H'):∀{xs:List V}{ds:List PyData},Dts K H xs ds->Dts K H' xs ds
 |_,_,.nil=>.nil
 |_,_,.cons h hs=>.cons (Dt.same g h) (Dts.same g hs)
end
def Hn(K:W.Frag):R2:=λx y H Q=>∃d,Dt K H x d/\Dt K H y d/\d.canLay0=true/\d.depth<=20/\Q (.bl true) H
def GE(K:W.Frag):R2:=λx y H Q=>∃d,Dt K H x d/\Dt K H y d/\d.canLay0=true/\d.depth<=20/\Q (.bl false) H
theorem FY(hu:X.A.units+20<cLine):OpR X (compareOp .Eq) (Hn X.K):=by
 intro pins s σ H x y v u Q I rx ry h;obtain⟨d,h1,h2,c,dp,q⟩:=h;obtain⟨as,r1⟩:=ko I h1 rx;obtain⟨bs,r2⟩:=ko I h2 ry;refine SeqAt.compareEq_reads r1 r2 c c (by rw[Nat.min_self];omega) ⟨.bl _,H,I,rfl,?_⟩;rw[SeqAt.eqv_refl d c];exact q
theorem AT(hu:X.A.units+20<cLine):OpR X (compareOp .NotEq) (GE X.K):=by
 intro pins s σ H x y v u Q I rx ry h;obtain⟨d,h1,h2,c,dp,q⟩:=h;obtain⟨as,r1⟩:=ko I h1 rx;obtain⟨bs,r2⟩:=ko I h2 ry;refine SeqAt.compareNe_reads r1 r2 c c (by rw[Nat.min_self];omega) ⟨.bl _,H,I,rfl,?_⟩;rw[SeqAt.eqv_refl d c];exact q
theorem F7{A:Around}(hr:xP k A):A.units+20<cLine:=Nat.lt_of_le_of_lt (Nat.add_le_add_left (by decide:20<=64) _) hr.units
theorem GF{x y:V}{d:PyData}(h1:Dt K H x d)(h2:Dt K H y d)(c:d.canLay0=true)(dp:d.depth<=20)(q:Q (.bl true) H):Hn K x y H Q:=⟨d,h1,h2,c,dp,q⟩
theorem HL{x y:V}{d:PyData}(h1:Dt K H x d)(h2:Dt K H y d)(c:d.canLay0=true)(dp:d.depth<=20)(q:Q (.bl false) H):GE K x y H Q:=⟨d,h1,h2,c,dp,q⟩
end
end L2
namespace L2
open PySem PySem.Spec PyProof.Rows
open List (append_assoc cons_append getElem?_eq_getElem getElem?_map length_append length_map length_singleton map_id map_map mem_cons_of_mem mem_cons_self)
open Nat (le_trans lt_irrefl lt_or_ge ne_of_lt)
section
variable{X:Cx}{H:Hp}{Q:VK}{K:W.Frag}
def lP:V->List V->Hp->VK->Prop:=λx vs H Q=>∃(l:Addr)(zs:List Str)(z:Str)(j:Nat),x=.ref l/\vs=[.str z]/\H l=some (.lst (zs.map V.str))/\zs[j]?=some z/\(∀m,m<j->zs[m]?≠some z)/\j<1000/\Q (.int j) H
theorem lQ:MtM X "list.index" lP:=by
 intro pins s σ H x vs v us Q I rx rv h;obtain⟨l,zs,z,j,rfl,rfl,hH,hj,hno,hj1,q⟩:=h;cases rx;obtain⟨u,rfl,ru⟩:=rv.one;obtain⟨_,its,n,r,hl,e⟩:=I.lstM hH;have fl:(zs.map V.str).all Vs=true:=by
  rw[List.all_eq_true];intro x hx;obtain⟨l,_,rfl⟩:=List.mem_map.mp hx;rfl
 have it:∀(m:Nat)(hm:m<its.toArray.size),∃(y:Str)(t:Tok),zs[m]?=some y/\its.toArray[m]=.str y t:=λm hm=>by
  have hm':m<its.length:=by simpa using hm
  have hz:m<zs.length:=by have:=r.length;rw[length_map]at this;omega
  obtain⟨w,hw,rw'⟩:=r.get (i:=m) (x:=.str zs[m]) (by rw[getElem?_map,getElem?_eq_getElem hz];rfl);obtain⟨t,rfl⟩:=rw';refine⟨zs[m],t,getElem?_eq_getElem hz,?_⟩;rw[getElem?_eq_getElem hm']at hw;simpa using Option.some.inj hw
 have hjz:j<its.toArray.size:=by
  have:=r.length;rw[length_map]at this;rcases lt_or_ge j zs.length with z1|z1
  .simp;omega
  .rw[List.getElem?_eq_none z1]at hj;cases hj
 refine call_meets F.slot_list_index ⟨_,e,rfl⟩ F.entry_list_index (F.args_list_index_2 _ _) (SeqAt.list_indexAt l its.toArray n none #[] u (eqU (.str z)) j hjz (by omega) ?_ λm hm hmj=>?_) ⟨e,λy hy=>QB ru rfl r fl y (by simpa using hy),⟨.int j,H,I.tok _,⟨_,rfl⟩,q⟩⟩
 .obtain⟨y,t,h1,h2⟩:=it j hjz;rw[hj]at h1;cases h1;rw[h2];show(z==z)=true;simp
 .obtain⟨y,t,h1,h2⟩:=it m hm;rw[h2];show(y==z)=false;simpa using λee=>hno m hmj (by rw[h1,ee])
theorem tW{l:Addr}{zs:List Str}{z:Str}(j:Nat)(h:H l=some (.lst (zs.map V.str)))(hj:zs[j]?=some z)(hno:∀m,m<j->zs[m]?≠some z)(hj1:j<1000)(q:Q (.int j) H):lP (.ref l) [.str z] H Q:=⟨l,zs,z,j,rfl,rfl,h,hj,hno,hj1,q⟩
end
def RsA(H:Hp)(v:V)(d:PyData):Prop:=(∃z:Str,v=.str z/\d=.str z)\/∃(q:Addr)(z:Str),v=.ref q/\H q=some (.tup [.str z])/\d=.tuple [.str z]
section
variable{H H':Hp}{v:V}{d:PyData}{K:W.Frag}
theorem RsA.tag{q:Addr}{z:Str}(h:H q=some (.tup [.str z])):RsA H (.ref q) (.tuple [.str z]):=.inr ⟨q,z,rfl,h,rfl⟩
theorem RsA.same(g:zR H H')(h:RsA H v d):RsA H' v d:=by
 rcases h with⟨z,a,b⟩|⟨q,z,a,e,b⟩
 .exact .inl ⟨z,a,b⟩
 .exact .inr ⟨q,z,a,g _ _ e,b⟩
theorem RsA.put{p:Addr}{xs ys:List V}(hp:H p=some (.lst xs))(h:RsA H v d):RsA (upd H p (.lst ys)) v d:=by
 rcases h with⟨z,a,b⟩|⟨q,z,a,e,b⟩
 .exact .inl ⟨z,a,b⟩
 .exact .inr ⟨q,z,a,by rw[zu (Ge e hp (by intro z;cases z))];exact e,b⟩
end
variable{l:List Nat}
theorem Hm(h:Asc l):PyData.strOk (T l)=true:=by
 unfold PyData.strOk;show(l.toArray.all λc=>decide (c<0x110000))=true;rw[Array.all_eq_true_iff_forall_mem];intro c hc;have:=h c (by simpa using hc);exact decide_eq_true (by omega)
variable{a:List Nat}
theorem iN{s st:Int}(h0:0<=s)(h1:s<a.length)(h2:1<=st):Vo (T a) (some s) none st≠[]/\(∀c∈Vo (T a) (some s) none st,c∈a)/\((Vo (T a) (some s) none st).length:Int)<=a.length+st:=by
 have e:Builtin.Str.strSliceIndices (some s) none st (T a).length=(List.range (((a.length:Int)-s+st-1)/st).toNat).map λk:Nat=>(s+st*(k:Int)).toNat:=by
  have l:((T a).length:Int)=a.length:=rfl;unfold Builtin.Str.strSliceIndices;dsimp only;rw[l,if_neg (show ¬s<0 by omega),if_pos (show st>0 by omega),if_pos (show st>0 by omega),Int.min_eq_left (by omega),Int.max_eq_right h0];unfold sliceRange;rw[if_pos (show st>0 by omega),if_pos h1]
 have hc:1<=((a.length:Int)-s+st-1)/st:=Int.le_ediv_of_mul_le (by omega) (by omega);have hc2:((a.length:Int)-s+st-1)/st<=(a.length:Int)-s+st-1:=Int.ediv_le_self _ (by omega);unfold Vo;rw[e,YN];refine⟨λz=>?_,λc hcm=>?_,?_⟩
 .rw[List.filterMap_eq_nil_iff]at z;have:=z (s+st*((0:Nat):Int)).toNat (List.mem_map.mpr ⟨0,List.mem_range.mpr (by omega),rfl⟩);rw[show(s+st*((0:Nat):Int)).toNat=s.toNat by simp,getElem?_eq_getElem (by omega)]at this;cases this
 .obtain⟨i,_,hi⟩:=List.mem_filterMap.mp hcm;exact List.mem_of_getElem? hi
 .have:=List.length_filterMap_le (λx=>a[x]?) ((List.range (((a.length:Int)-s+st-1)/st).toNat).map λk:Nat=>(s+st*(k:Int)).toNat);rw[length_map,List.length_range]at this;omega
variable{X:Cx}{x:Str}{k n:Nat}{ps:List Str}{sp:Sp}{p pos:Pos}
theorem kH(F:Has X.prog X.w X.K X.mg X.base x k ps sp)(hr:xP n X.A)(hg:Gl X x)(hk:k<=n:=by decide)(hdb:Nd x:=by decide):
  PE X (.Call (.Name x p) [] [] pos) (JU sp [] E0 WK):=by
 obtain⟨f,fd,G,hm,kp,hb⟩:=F;exact tL G (hr.mono hk) hg hm kp hb .nil zd hdb
section
variable{X:Cx}{pos:Pos}
def EL(i j k:Nat)(ta:TA):TS:=λD σ H=>ta σ H λvs H1=>∃v1 v2 v3,vs=[v1,v2,v3]/\D.nx (((σ.set k (some v3)).set j (some v2)).set i (some v1)) H1
variable{i j:Nat}
theorem CM{y z:Str}{a b c:Expr}{ta:TA}{px py pz pt:Pos}{kt k2 pt2}(hc:X.calm=true)(hN:X.N.Nodup)(hi:X.N[i]?=some x)(hj:X.N[j]?=some y)(hk:X.N[k]?=some z)
  (hx:X.env.scope.names.lookup x=some .local) (hy:X.env.scope.names.lookup y=some .local) (hz:X.env.scope.names.lookup z=some .local) (ha:PA X [a,b,c] ta)
  (hw:swappedStores [.Tuple [.Name x px,.Name y py,.Name z pz] kt pt] (.Tuple [a,b,c] k2 pt2) X.env=pure (some [x,y,z]))
  (hs:swapsWithSole [.Tuple [.Name x px,.Name y py,.Name z pz] kt pt] (.Tuple [a,b,c] k2 pt2) pos.line X.env=pure false:=by rfl):
  PS X (.Assign [.Tuple [.Name x px,.Name y py,.Name z pz] kt pt] (.Tuple [a,b,c] k2 pt2) pos) (EL i j k ta):=by
 intro pins s σ H D I h;rw[exec_Assign_arm];refine wpAny_bind (wpAny_standAt ?_);rw[hs];refine wpAny_bind (wpAny_pure ?_);rw[if_neg (by decide)];refine wpAny_bind (Tuple_ (thn (ha _ pins s σ H _ I h) λus s1 zq=>?_));obtain⟨vs,H1,I1,r1,q1⟩:=zq;obtain⟨v1,v2,v3,e1,q1⟩:=q1;subst e1;obtain⟨u1,u2,u3,rfl,rv1,rv2,rv3⟩:∃u1 u2 u3,us=[u1,u2,u3]/\xX v1 u1/\xX v2 u2/\xX v3 u3:=by
  cases r1 with
  |cons p q=>
   cases q with
   |cons p' q'=>
    cases q' with
    |cons p'' q''=>
     cases q'';exact⟨_,_,_,rfl,p,p',p''⟩
 refine wpAny_newObj_type ?_ (by show 3<=sizeLine;decide);have I2:Inv X pins σ H1 { s1 with heap:=s1.heap.push { cls:=.type "tuple",data:=.seq [u1,u2,u3].toArray } }:=I1.kept (t':=s1.toks) λb o e=>Heap.get?_push_of_some _ e;rw[hw];refine wpAny_bind (wpAny_pure ?_);show wpAny (model X.prog X.w) X.A (do rule "assign.swapped-stores"; let items <- unpackItems (.ref s1.heap.objs.size) 3 none;assignInOrder [λv=>bindName X.env z v,λv=>bindName X.env y v,λv=>bindName X.env x v] items.reverse;pure Flow.next) _ _ _;refine wpAny_bind (wpAny_rule (wpAny_bind (unpackItems_tuple (items:=#[u1,u2,u3]) (I.ok.hd hc) (IsTup.new s1.heap _) λh' hx'=>?_)));have I3:=I2.kept (h':=h') (t':=s1.toks) λb o e=>hx' b o (ne_of_lt (Heap.lt_size e)) e;show wpAny _ _ (assignInOrder [λv=>bindName X.env z v,λv=>bindName X.env y v,λv=>bindName X.env x v] [u3,u2,u1]>>= λ_=>pure Flow.next) _ _ _;refine wpAny_bind (assignInOrder_cons (wpAny_bindName (y4 I3 hN hk (.inl hz) rv3 (λs2 I4=>?_) (.inr hz))));refine assignInOrder_cons (wpAny_bindName (y4 I4 hN hj (.inl hy) rv2 (λs3 I5=>?_) (.inr hy)));refine assignInOrder_cons (wpAny_bindName (y4 I5 hN hi (.inl hx) rv1 (λs4 I6=>assignInOrder_nil (wpAny_pure ?_)) (.inr hx)));exact⟨_,H1,I6,q1⟩
def DJ(i j k:Nat)(D:Z0)(σ:St)(vs:List V)(H1:Hp):Prop:=∃v1 v2 v3,vs=[v1,v2,v3]/\D.nx (((σ.set k (some v3)).set j (some v2)).set i (some v1)) H1
theorem EH{ta:TA}{D:Z0}{σ:St}{H:Hp}(h:ta σ H (DJ i j k D σ)):EL i j k ta D σ H:=h
theorem CU{D:Z0}{σ:St}{H:Hp}{v1 v2 v3:V}(h:D.nx (((σ.set k (some v3)).set j (some v2)).set i (some v1)) H):DJ i j k D σ [v1,v2,v3] H:=⟨v1,v2,v3,rfl,h⟩
end
def low(b:Nat):Nat->Nat->List Nat
 |0,_=>[]
 |p+1,n=>low b p (n/b)++[fc (n%b)]
theorem m8(b:Nat):∀p n,(low b p n).length=p
 |0,_=>rfl
 |p+1,n=>by unfold low;rw[length_append,m8 b p];rfl
theorem fc0:fc 0=48:=by right
variable{b:Nat}
theorem YL(h2:2<=b):1<=(yh b n).length:=by
 rcases lt_or_ge n b with h|h
 .rw[jL h,length_singleton];exact Nat.le_refl _
 .rw[Zk h2 h,length_append,length_singleton];omega
theorem sX{p:Nat}(h2:2<=b):dgs b (p+1) n=dgs b p (n/b)++[fc (n%b)]:=by
 unfold dgs;rcases lt_or_ge n b with h|h
 .rw[jL h,Nat.div_eq_of_lt h,jL (by omega),Nat.mod_eq_of_lt h,fc0];rw[length_singleton,length_singleton,show p+1+1-1=p+1 by omega,show p+1-1=p by omega,List.replicate_succ']
 .rw[Zk h2 h,length_append,length_singleton,show p+1+1-((yh b (n/b)).length+1)=p+1-(yh b (n/b)).length by omega,append_assoc]
theorem lh{b:Nat}(h2:2<=b):∀p n,dgs b p n=yh b (n/b^p)++low b p n
 |0,n=>by
  have:=YL (b:=b) (n:=n) h2;unfold dgs low;rw[show 0+1-(yh b n).length=0 by omega,Nat.pow_zero,Nat.div_one,List.append_nil];rfl
 |p+1,n=>by
  rw[sX h2,lh h2 p,Nat.div_div_eq_div_mul,Nat.pow_succ,Nat.mul_comm (b^p) b,append_assoc];rfl
theorem mo{p:Nat}(h2:2<=b):whl b p n=yh b (n/b^p)/\rst b p n=low b p n:=by
 have l:=m8 b p n;unfold whl rst;rw[lh h2,length_append,l,Nat.add_sub_cancel];exact⟨List.take_left' rfl,List.drop_left' rfl⟩
def pz(b p r:Nat):List Nat:=List.replicate (p-(yh b r).length) 48++yh b r
theorem Ay{p r:Nat}(h2:2<=b)(hp:0<p):pz b (p+1) r=pz b p (r/b)++[fc (r%b)]:=by
 unfold pz;rcases lt_or_ge r b with h|h
 .rw[jL h,Nat.div_eq_of_lt h,jL (by omega),Nat.mod_eq_of_lt h,fc0];obtain⟨q,rfl⟩:∃q,p=q+1:=⟨p-1,by omega⟩
  rw[length_singleton,length_singleton,show q+1+1-1=q+1 by omega,show q+1-1=q by omega,List.replicate_succ']
 .rw[Zk h2 h,length_append,length_singleton,show p+1-((yh b (r/b)).length+1)=p-(yh b (r/b)).length by omega,append_assoc]
theorem my{b:Nat}(h2:2<=b):∀p n,low b p n=low b p (n%b^p)
 |0,n=>rfl
 |p+1,n=>by
  unfold low;rw[my h2 p (n/b)];have e1:n%b^(p+1)/b=n/b%b^p:=by rw[Nat.pow_succ,Nat.mul_comm,Nat.mod_mul_right_div_self]
  have e2:n%b^(p+1)%b=n%b:=Nat.mod_mod_of_dvd n (by rw[Nat.pow_succ];exact Nat.dvd_mul_left b (b^p));rw[e1,e2]
theorem AK{b:Nat}(h2:2<=b):∀p r,0<p->r<b^p->low b p r=pz b p r
 |1,r,_,h=>by
  rw[Nat.pow_one]at h;unfold low pz low;rw[jL h,Nat.mod_eq_of_lt h];rfl
 |p+2,r,_,h=>by
  rw[Ay h2 (by omega),<- AK h2 (p+1) (r/b) (by omega) (Nat.div_lt_of_lt_mul (by rw[Nat.pow_succ,Nat.mul_comm]at h;exact h))];rfl
variable{z:Nat}
theorem Bk{p pt m:Nat}(h2:2<=b):bdy b p pt z m n=if p=0 then gr z m (yh b (n/b^p))else gr z m (yh b (n/b^p))++[pt]++pz b p (n%b^p):=by
 unfold bdy;rw[(mo h2).1,(mo h2).2];split
 .rfl
 .rename_i hp;rw[my h2,AK h2 p _ (by omega) (Nat.mod_lt _ (Nat.pow_pos (by omega)))]
variable{K:W.Frag}{fd:FuncData}{it:Array Value}{osl:Array (Option Value)}
theorem hE{t:Addr}{oc:Value}{od:Option Addr}(hl:K.lookup t=some ⟨oc,od,.seq it n,osl⟩)(hd:fd.defaults=.ref t)
  (h:∀us:List Value,us.length=ps.length->∃k,bindArgs fd ⟨us,[]⟩=seqItems? fd.defaults >>= k/\k (some it)=pure (ps.zip us)):xz K fd ps []:=λs us hK hlen=>by
 rw[List.append_nil]at hlen ⊢;obtain⟨k,h1,h2⟩:=h us hlen;exact .of_defaults hd (hK _ _ hl) rfl h1 h2
set_option maxHeartbeats 1000000
def C2(h:Heap)(e:Addr):Prop:=∃o vs,h.get? e=some o/\o.data=.fields vs/\vs[2]?=some .none
variable{h:Heap}{oe:Obj}{vs:Array Value}
theorem kv{e b:Addr}{o:Obj}(a:h.get? e=some oe)(d:oe.data=.fields vs)(q:h.get? b=some o)(n:∀us,o.data≠.fields us):b≠e:=by
 rintro rfl;rw[a]at q;cases q;exact n vs d
variable{base:Heap}{a0:Value}
theorem iH{g:Heap}{l:List Env}{e:Addr}{ob:Obj}{ts:Array Value}{fl:Value}(FF:h.FunFrames base l)(sg:Heap.SlotsOnly (l.filterMap (·.frame)) h g)(a1:h.get? e=some oe)
  (a2:base.StaysIn h) (a3:base.get? e=none) (a4:oe.data=.fields vs) (a5:1<vs.size) (a6:vs[0]?=some a0) (a7:vs[2]?=some .none) (b1:ob.data=.fields ts) (b2:ts[3]?=some fl):
  Heap.NotedW base l e oe.cls a0 fl h ((g.push ob).update e (Obj.mapFields (·.setIfInBounds 1 (Value.ref g.objs.size))))/\C2 ((g.push ob).update e (Obj.mapFields (·.setIfInBounds 1 (Value.ref g.objs.size)))) e:=by
 have nf:e∉l.filterMap (·.frame):=λm=>by
  obtain⟨_,o,q,n⟩:=FF.mem m;exact kv a1 a4 q n rfl
 have g1:g.get? e=some oe:=(sg.2.1 e nf).trans a1;have ne:g.objs.size≠e:=λz=>lt_irrefl _ (z▸Heap.lt_size g1);have d1:(Obj.mapFields (·.setIfInBounds 1 (Value.ref g.objs.size)) oe).data=_:=Obj.data_mapFields a4 _;have self:((g.push ob).update e (Obj.mapFields (·.setIfInBounds 1 (Value.ref g.objs.size)))).get? e=some (Obj.mapFields (·.setIfInBounds 1 (Value.ref g.objs.size)) oe):=
  Heap.get?_update_self _ (Heap.get?_push_of_some _ g1) (Obj.isFreed_of_fields d1)
 have kp:∀{b:Addr}{o:Obj},b≠e->g.get? b=some o->((g.push ob).update e (Obj.mapFields (·.setIfInBounds 1 (Value.ref g.objs.size)))).get? b=some o:=λ{b o}n q=>by
  rw[Heap.get?_update_other _ _ (Ne.symm n)];exact Heap.get?_push_of_some _ q
 have new:((g.push ob).update e (Obj.mapFields (·.setIfInBounds 1 (Value.ref g.objs.size)))).get? g.objs.size=some ob:=by
  rw[Heap.get?_update_other _ _ (Ne.symm ne)];exact Heap.get?_push_size g (Obj.isFreed_of_fields b1)
 have bg:base.StaysIn g:=λb o q=>(sg.2.1 b λm=>by rw[(FF.mem m).1]at q;cases q).trans (a2 b o q);have oth:∀b o,h.get? b=some o->(∀us,o.data≠.fields us)->∃sl,((g.push ob).update e (Obj.mapFields (·.setIfInBounds 1 (Value.ref g.objs.size)))).get? b=some { o with slots:=sl }:=λb o q n=>by
  obtain⟨sl,q1⟩:=sg.2.2 b o q;exact⟨sl,kp (kv a1 a4 q n) q1⟩
 refine⟨⟨λb o q=>kp (λz=>by rw[z,a3]at q;cases q) (bg b o q),FF.of_keeps λb o q n=>?_,⟨_,_,g.objs.size,ob,ts,self,⟨Obj.cls_mapFields _ _,?_⟩,d1,?_,?_,ne,new,b1,b2⟩,oth⟩,⟨_,_,self,d1,?_⟩⟩
 .obtain⟨sl,q1⟩:=oth b o q n;exact⟨_,q1,rfl⟩
 .rw[Array.getElem?_setIfInBounds_ne (by decide)];exact a6
 .rw[Array.getElem?_setIfInBounds_self_of_lt a5]
 .cases z:base.get? g.objs.size with
  |none=>rfl
  |some o=>exact absurd (Heap.lt_size (bg _ o z)) (lt_irrefl _)
 .rw[Array.getElem?_setIfInBounds_ne (by decide)];exact a7
section
variable{M:Model}{A:Around}{E:Value ->Shared ->Prop}{s:Shared}{base:Heap}{env:Env}{outer:List Env}{L e:Addr}{Q:Unit ->Shared ->Prop}
theorem uV{head:Value}{hadNext:Bool}(fr:A.frames=some (env::outer))(FF:s.heap.FunFrames base (env::outer))(ef:env.frame=some L)(a1:s.heap.get? e=some oe)
  (a2:base.StaysIn s.heap) (a3:base.get? e=none) (a4:oe.data=.fields vs) (a5:1<vs.size) (a6:vs[0]?=some a0) (a7:vs[2]?=some .none)
  (k:∀h',Heap.NotedW base (env::outer) e oe.cls a0 (rawInt L) s.heap h'->C2 h' e->Q () { s with heap:=h' }):
  wpAny M A (do let a <- frameOf env;let pl <- entryPlaceOf L hadNext;let b <- EntryCells.newEntry head a .none (rawInt L) .none pl;setField (.ref e) 1 b) Q E s:=by
 have nf:e∉(env::outer).filterMap (·.frame):=λm=>by
  obtain⟨_,o,q,n⟩:=FF.mem m;exact kv a1 a4 q n rfl
 refine wpAny_bind (wpAny_frameOf_fun fr FF ef λg sg=>wpAny_bind (wpAny_entryPlaceOf λpl ip=>?_));unfold EntryCells.newEntry newFields;refine wpAny_bind (wpAny_newObj_type (wpAny_setField (Heap.get?_push_of_some _ ((sg.2.1 e nf).trans a1)) a4 a5 ?_) (ip.sizeOk5 _ _ _ _ _));have nh:=iH (ob:={ cls:=.type "traceback",dict:=none,data:=.fields ([head,.ref L,.none,rawInt L,.none]++(if pl.isEmpty then List.replicate 6 Value.none else pl)).toArray }) FF sg a1 a2 a3 a4 a5 a6 a7 rfl (fl:=rawInt L) (by simp);exact k _ nh.1 nh.2
variable{cls:Value}
theorem eZ{l:List Env}{fl:Value}(a2:base.StaysIn s.heap)(FF:s.heap.FunFrames base l)(tr:s.heap.TracedAtW base e cls a0 fl)(c2:C2 s.heap e)
  (k:∀h',base.StaysIn h'->h'.FunFrames base l->h'.TracedW base e cls a0->C2 h' e->s.heap.UpToSlots h'->Q () { s with heap:=h' }):wpAny M A (setFlight (.ref e) none) Q E s:=by
 obtain⟨oe,vs,t,ot,ts,q1,q2,q3,q4,q5,q6,q7,q8,q9⟩:=tr;obtain⟨o',us,c1,c3,c4⟩:=c2;rw[q1]at c1;cases c1;rw[q3]at c3;cases c3;unfold setFlight;refine wpAny_bind (wpAny_field q1 q3 q4 ?_);have nn:(Value.ref t != Value.none)=true:=by simp
 rw[if_pos nn];have lt3:=(Array.getElem?_eq_some_iff.mp q9).1;have ot':∀{b:Addr},b≠t->(s.heap.update t (Obj.mapFields (·.setIfInBounds 3 ((none:Option Addr).elim Value.none λf=>rawInt f)))).get? b=s.heap.get? b:=λ{b}n=>Heap.get?_update_other _ _ (Ne.symm n);have df:=Obj.data_mapFields q8 (·.setIfInBounds 3 ((none:Option Addr).elim Value.none λf=>rawInt f));refine wpAny_setField q7 q8 lt3 (k _ (λb o q=>(ot' λz=>by rw[z,q5]at q;cases q).trans (a2 b o q)) (FF.of_keeps λb o q n=>⟨o,(ot' (kv q7 q8 q n)).trans q,rfl⟩)
  ⟨oe,vs,t,_,_,(ot' (Ne.symm q6)).trans q1,q2,q3,q4,q5,q6,Heap.get?_update_self _ q7 (Obj.isFreed_of_fields df),df,?_⟩ ⟨oe,vs,(ot' (Ne.symm q6)).trans q1,q3,c4⟩ λb o q n=>⟨o.slots,(ot' (kv q7 q8 q n)).trans q⟩)
 rw[Array.getElem?_setIfInBounds_self_of_lt lt3];rfl
theorem cQ{args:List Value}(fr:A.frames=some (env::outer))(ef:env.frame=some L)(a2:base.StaysIn h)(FF:h.FunFrames base (env::outer))(mk:Heap.MadeExcOf h s.heap e cls args)
  (k:∀h' a0,Heap.FlyingW base outer e cls a0 h'->C2 h' e->s.heap.UpToSlots h'->Q () { s with heap:=h' }):wpAny M A (leaving env (.ref e)) Q E s:=by
 obtain⟨t,m1,m2,m3⟩:=mk.there;have out:base.get? e=none:=by
  cases z:base.get? e with
  |none=>rfl
  |some o=>have:=a2 e o z;rw[mk.new]at this;cases this
 have FF1:s.heap.FunFrames base (env::outer):=FF.of_keeps λb o q _=>⟨o,mk.keeps b o q,rfl⟩
 unfold leaving noteFrame;simp only[ef];refine wpAny_bind (wpAny_bind (wpAny_field m1 rfl (x:=.none) rfl ?_));have nn:¬((Value.none != Value.none)=true):=by decide
 rw[if_neg nn];refine uV fr FF1 ef m1 (λb o q=>mk.keeps b o (a2 b o q)) out rfl (by show 1<6;decide) (a0:=.ref t) rfl rfl λh1 nd c1=>?_;obtain⟨n1,n2,n3,n4⟩:=nd;exact eZ (s:={ s with heap:=h1 }) n1 n2 n3 c1 λh2 w1 w2 w3 w4 w5=>k h2 _ ⟨w1,out,w2.2.2,w3⟩ w4 (Heap.UpToSlots.trans (h₂:=h1) n4 w5)
theorem pH(fr:A.frames=some (env::outer))(ef:env.frame=some L)(fly:Heap.FlyingW base (env::outer) e cls a0 s.heap)(c2:C2 s.heap e)
  (k:∀h',Heap.HeldW base (env::outer) e cls a0 L h'->C2 h' e->s.heap.UpToSlots h'->Q () { s with heap:=h' }):wpAny M A (noteFrame (.ref e) env) Q E s:=by
 obtain⟨f1,f2,f3,oe,vs,t,ot,ts,q1,⟨q2,q2'⟩,q3,q4,q5,q6,q7,q8,q9⟩:=fly;obtain⟨o',us,c1,c3,c4⟩:=c2;rw[q1]at c1;cases c1;rw[q3]at c3;cases c3;subst q2;unfold noteFrame;simp only[ef];refine wpAny_bind (wpAny_field q1 q3 q4 ?_);have nn:(Value.ref t != Value.none)=true:=by simp
 have n3:¬((Value.none==rawInt L)=true):=by simp[rawInt]
 rw[if_pos nn];refine wpAny_bind (wpAny_field q7 q8 q9 ?_);rw[if_neg n3];have ot':∀{b:Addr},b≠t->(s.heap.update t (Obj.mapFields (·.setIfInBounds 3 Value.none))).get? b=s.heap.get? b:=λ{b}n=>Heap.get?_update_other _ _ (Ne.symm n);refine wpAny_bind (wpAny_setField q7 q8 (Array.getElem?_eq_some_iff.mp q9).1 ?_);refine uV fr (f3.of_keeps λb o q n=>⟨o,(ot' (kv q7 q8 q n)).trans q,rfl⟩) ef ((ot' (Ne.symm q6)).trans q1) (λb o q=>(ot' λz=>by rw[z,q5]at q;cases q).trans (f1 b o q)) f2 q3 (Array.getElem?_eq_some_iff.mp q4).1 q2' c4 λh1 nd cc=>?_;exact k h1 ⟨nd.1,f2,nd.2.1,nd.2.2.1⟩ cc λb o q n=>nd.2.2.2 b o ((ot' (kv q7 q8 q n)).trans q) n
theorem mI{l:List Env}(hd:Heap.HeldW base l e cls a0 L s.heap)(c2:C2 s.heap e)
  (k:∀h',Heap.FlyingW base l e cls a0 h'->C2 h' e->s.heap.UpToSlots h'->Q () { s with heap:=h' }):wpAny M A (setFlight (.ref e) none) Q E s:=
 eZ hd.1 hd.2.2.1 hd.2.2.2 c2 λh' w1 w2 w3 w4 w5=>k h' ⟨w1,hd.2.1,w2,w3⟩ w4 w5
theorem li{l:List Env}(fl:Heap.FlyingW base l e cls a0 s.heap)(c2:C2 s.heap e)
  (k:∀h',Heap.FlyingW base l e cls a0 h'->C2 h' e->s.heap.UpToSlots h'->Q () { s with heap:=h' }):wpAny M A (setFlight (.ref e) none) Q E s:=
 eZ fl.1 fl.2.2.1 fl.2.2.2.at c2 λh' w1 w2 w3 w4 w5=>k h' ⟨w1,fl.2.1,w2,w3⟩ w4 w5
theorem gm(fr:A.frames=some (env::outer))(ef:env.frame=some L)(a1:s.heap.get? e=some oe)(a2:base.StaysIn s.heap)(FF:s.heap.FunFrames base (env::outer))(a3:base.get? e=none)
  (a4:oe.data=.fields vs) (a5:vs[1]?=some .none) (a6:vs[0]?=some a0) (k:∀h',Heap.FlyingW base outer e oe.cls a0 h'->s.heap.UpToSlots h'->Q () { s with heap:=h' }):wpAny M A (leaving env (.ref e)) Q E s:=
 wpAny_leaving_firstW fr FF ef a1 a2 a3 a4 a5 a6 λh' lf=>k h' ⟨lf.1,a3,lf.2.1.2.2,lf.2.2.1⟩ lf.2.2.2
end
theorem WD:entryFor table "proto.unchain"=some Builtin.«proto.unchain»:=entryFor_of_tree (by kernel_rfl)
section
variable{prog:Program}{w:World}{A:Around}{E:Value ->Shared ->Prop}{s:Shared}
theorem iI{e y:Addr}{Q:Value->Shared->Prop}(c2:C2 s.heap y)(k:Q .none s):wpAny (model prog w) A (runValue (.builtin "proto.unchain" ⟨[.ref e,.ref y,.ref y,.bool false],[]⟩)) Q E s:=by
 obtain⟨o,vs,q1,q2,q3⟩:=c2;refine wpAny_runValue (codeAny_builtin WD ?_);show wpAny _ _ (do let context <- field (.ref y) 2;_) _ _ _;refine wpAny_bind (wpAny_field q1 q2 q3 ?_);have nn:((Value.none==Value.none)=true):=by decide
 rw[if_pos nn];exact wpAny_pure k
theorem YI{α:Type}{e y:Addr}{Q:α->Shared->Prop}(hh:A.handled=some (.ref y))(ne:y≠e)(c2:C2 s.heap y)(a1:s.heap.get? e=some oe)(a2:oe.data=.fields vs)(a3:2<vs.size)
  (k:E (.ref e) { s with heap:=s.heap.update e (Obj.mapFields (·.setIfInBounds 2 (.ref y))) }):wpAny (model prog w) A (raiseNew (.ref e):Sem α) Q E s:=by
 unfold raiseNew;refine wpAny_bind (wpAny_handled ?_);rw[hh];have nn:((Value.ref y != Value.ref e)=true):=by simp[ne]
 dsimp only;rw[if_pos nn];refine wpAny_bind (wpAny_holding (iI c2 ?_));have up:wpAny (model prog w) A (setField (.ref e) 2 (.ref y)) (λ_ s'=>wpAny (model prog w) A (throw (.ref e):Sem α) Q E s') E s:=wpAny_setField a1 a2 a3 (wpAny_throw k);exact wpAny_bind up
end
section
variable{prog:Program}{w:World}{A:Around}{E:Value ->Shared ->Prop}{env:Env}
variable{nm q:Str}{C N:Addr}{bs bm:List Value}{hdct:Bool}{sn:List Str}{sub:List Value}{ab:Bool}{col:Option Bool}{dd:Option Addr}{k0 k1 k2 k3 k5:Option Value}{newId:String}
theorem WL {s:Shared} {y:Addr} {x c:Sem Value} {Q:Flow->Shared->Prop} (hbase:bm.contains (.type "BaseException")=true) (hh:A.handled=some (.ref y))
  (h:wpAny (model prog w) A x (fun v s₁=>∃ e t,v = .ref e/\s₁.heap.get? C=some (excClassObj nm q C N bs bm hdct sn sub ab col dd k0 k1 k2 k3 k5 newId) /\
   s₁.heap.get? e=some { cls:=.ref C,data:=.fields #[.ref t,.none,.none,.none,.bool false,.none] }/\y≠e/\C2 s₁.heap y/\(∀ R:Value->Shared->Prop,R .none s₁->wpAny (model prog w) A c R E s₁) /\
   ∀ h',(∀ b,b≠e->h'.get? b=s₁.heap.get? b)->h'.get? e=some { cls:=.ref C,data:=.fields #[.ref t,.none,.ref y,.none,.bool true,.none] }->E (.ref e) { s₁ with heap:=h' }) E s) :
  wpAny (model prog w) A (raiseStmt env (some x) (some c)) Q E s:=by
 have cb:(Value.ref C::bm).contains (.type "BaseException")=true:=by rw [List.contains_cons,hbase,Bool.or_true]
 unfold raiseStmt
 refine wpAny_bind (wpAny_mono h (fun v s₁ h₁=>?_) fun _ _ z=>z)
 obtain ⟨e,t,rfl,hC,he,ne,c2,hc,k⟩:=h₁
 refine wpAny_bind (wpAny_holding (hc _ (wpAny_bind (wpAny_pure ?_))))
 obtain ⟨hp,g,d,tk,os⟩:=s₁
 repeat (first
  | with_reducible refine wpAny_loadPart_at he ?_
  | with_reducible refine wpAny_loadPart_at hC ?_
  | (with_reducible refine wpAny_isSubtype_exc hC ?_;rw [cb])
  | wp_step)
 have nC:C≠e:=by
  rintro rfl
  have z:=hC.symm.trans he
  simp [excClassObj] at z
 have u1:=Heap.get?_update_self (Obj.mapFields (·.setIfInBounds 3 Value.none)) he rfl
 have u2:=Heap.get?_update_self (Obj.mapFields (·.setIfInBounds 4 (Value.bool true))) u1 rfl
 have ot : ∀ b,b≠e->((hp.update e (Obj.mapFields (·.setIfInBounds 3 Value.none))).update e (Obj.mapFields (·.setIfInBounds 4 (Value.bool true)))).get? b=hp.get? b:=fun b n=>by
  rw [Heap.get?_update_other _ _ (Ne.symm n),Heap.get?_update_other _ _ (Ne.symm n)]
 have u3:=(ot C nC).trans hC
 have cy:C2 ((hp.update e (Obj.mapFields (·.setIfInBounds 3 Value.none))).update e (Obj.mapFields (·.setIfInBounds 4 (Value.bool true)))) y:=by
  obtain ⟨o,vs,z1,z2,z3⟩:=c2
  exact ⟨o,vs,(ot y ne).trans z1,z2,z3⟩
 generalize (hp.update e (Obj.mapFields (·.setIfInBounds 3 Value.none))).update e (Obj.mapFields (·.setIfInBounds 4 (Value.bool true)))=h2 at u2 ot u3 cy ⊢
 refine wpAny_loadPart_at u3 (wpAny_pure ?_)
 have ty:((excClassObj nm q C N bs bm hdct sn sub ab col dd k0 k1 k2 k3 k5 newId).cls == Value.type "type")=true:=by rfl
 rw [if_pos ty]
 refine wpAny_pure ?_
 unfold setFlight
 refine wpAny_bind (wpAny_bind (wpAny_field u2 rfl (x:=.none) rfl ?_))
 have nn : ¬ ((Value.none != Value.none)=true):=by decide
 rw [if_neg nn]
 refine wpAny_pure (YI hh ne cy u2 rfl (by show 2 < 6;decide) (k _ (fun b n=>?_) ?_))
 ·rw [Heap.get?_update_other _ _ (Ne.symm n)];exact ot b n
 ·exact Heap.get?_update_self (Obj.mapFields (·.setIfInBounds 2 (.ref y))) u2 rfl
end
structure BM(h h':Heap)(e C:Addr):Prop where
 keeps:∀b o,h.get? b=some o->h'.get? b=some o
 new:h.get? e=none
 there:∃oe vs a0,h'.get? e=some oe/\oe.cls=.ref C/\oe.data=.fields vs/\vs[1]?=some .none/\vs[0]?=some a0
section
variable{prog:Program}{w:World}{A:Around}{E:Value ->Shared ->Prop}{env:Env}
variable{nm q:Str}{C N:Addr}{bs bm bmB:List Value}{hdct:Bool}{sn:List Str}{sub:List Value}{ab:Bool}{col:Option Bool}{dd:Option Addr}{k0 k1 k2 k3 k5:Option Value}{B newId initId:String}
theorem Bz(F:ExcBaseFacts B newId initId bmB){mN:Str->Option Value}{s:Shared}{m:Str}{np mp cpos cp:Pos}{j j':Nat}{y:Addr}{Q:Flow->Shared->Prop}(hb:bm.contains (.type "BaseException")=true)(hh:A.handled=some (.ref y))(c2:C2 s.heap y)
  (hx:∀R:Value->Shared->Prop,R (.ref C) s->wpAny (model prog w) A (eval (.Name x np) env) R E s) (hC:s.heap.get? C=some (excClassObj nm q C N bs bm hdct sn sub ab col dd k0 k1 k2 k3 k5 newId)) (hN:s.heap.Ns N mN) (hni:mN "__init__"=none) (T:OwnTail s.heap bmB bm)
  (k:∀h' e tk,BM s.heap h' e C->E (.ref e) { s with heap:=h',toks:=tk }):
  wpAny (model prog w) A (exec (.Raise (some (.Call (.Name x np) [.Constant (.str m) j mp] [] cpos)) (some (.Constant .none j' cp)) pos) env) Q E s:=by
 rw[arm_exec_Raise];refine wpAny_bind (wpAny_standAt ?_);refine WL (y:=y) (C:=C) (nm:=nm) (q:=q) (N:=N) (bs:=bs) (bm:=bm) (hdct:=hdct) (sn:=sn) (sub:=sub) (ab:=ab) (col:=col) (dd:=dd) (k0:=k0) (k1:=k1) (k2:=k2) (k3:=k3) (k5:=k5) (newId:=newId) hb hh ?_;refine wpAny_bind (wpAny_Call_ofName (hx _ ?_));unfold callWith;refine wpAny_bind (wpAny_holding (Calls.evalArgs_plain (Calls.spliced_cons (Calls.Constant_str (k:=j) (pos:=mp) (Calls.spliced_nil ?_)))));refine wpAny_bind (wpAny_standAt ?_);have st:(((backTo cpos (starEach [Expr.Constant (Const.str m) j mp] env)).any λx=>x.fst)||(backToKw cpos (keywordEach [] env)).any λx=>x.fst.isNone)=false:=rfl;simp only[st];obtain⟨hp,g,d,tk,os⟩:=s;refine wpAny_bind (wpAny_keeperOf_exc hC ?_);dsimp only;have one:([]++[Value.str m tk]).length<=sizeLine:=by show 1<=sizeLine;decide
 refine wpAny_bind (wpAny_call_exc_subT (hrest:=one) F T hC hN hni λh' e hm=>wpAny_bind (wpAny_holding (wpAny_point (wpAny_pure ?_))));refine wpAny_bind (wpAny_standAt (wpAny_pure ?_));obtain⟨t,h1,h2,h3⟩:=hm.there;have ny:y≠e:=by
  rintro rfl;obtain⟨o,vs,z1,_⟩:=c2;have:=hm.new;rw[z1]at this;cases this
 refine⟨e,t,rfl,hm.keeps _ _ hC,h1,ny,?_,λR hR=>wpAny_bind (wpAny_Constant_none (wpAny_bind (wpAny_standAt (wpAny_pure hR)))),λh'' o1 o2=>?_⟩
 .obtain⟨o,vs,z1,z2,z3⟩:=c2;exact⟨o,vs,hm.keeps _ _ z1,z2,z3⟩
 .refine k h'' e (tk+1) ⟨λb o z=>?_,hm.new,⟨_,_,_,o2,rfl,rfl,rfl,rfl⟩⟩;rw[o1 b (λz1=>by have:=hm.new;rw[<- z1,z]at this;cases this)];exact hm.keeps b o z
end
def WO(P:Program)(w:World):CXT:=λouter H s E e s'=>∃(x C:Addr)(a0:Value)(H':Hp)(B:Heap),e=.ref x/\s'.os=s.os/\AllBare s'.gens/\Heap.FlyingW B outer x (.ref C) a0 s'.heap/\C2 s'.heap x /\
 (∀h',B.StaysIn h'->s'.heap.UpToSlots h'->Un (frs outer) [] H H' s.heap h'/\HOk P w H' h')/\s.heap.get? x=none/\H' x=none/\E (.ref C) none H'
section
variable{P:Program}{w:World}{K:W.Frag}{mg:Str ->Option Value}{base:Heap}{N:List Str}{qual:Str}{scope:Scope}{f:Addr}{cd:Value}{A:Around}{outer:List Env}{s:Shared}{H:Hp}{E:XK}{CX:CXT}
variable{pins:List (Addr×Obj)}{σ:St}{H1:Hp}{s1:Shared}{h':Heap}
theorem oW{h2:Heap}(I:Inv (Ze CX P w K mg base N qual scope f cd A outer s H E) pins σ H1 s1)(kp:∀b o,s1.heap.get? b=some o->h'.get? b=some o)(f4:h'.UpToSlots h2):
  ∀h3,(W.hideAll s1.heap (frs (envOfC qual scope s.heap.objs.size f cd::outer))).StaysIn h3->h2.UpToSlots h3->Un (frs outer) [] H H1 s.heap h3/\HOk P w H1 h3:=by
 intro h3 st sm;have hst:∀b∈frs (envOfC qual scope s.heap.objs.size f cd::outer),H1 b=none:=I.stkFree;have FF:s1.heap.FunFrames base (envOfC qual scope s.heap.objs.size f cd::outer):=I.stack;have old:∀b o,s.heap.get? b=some o->b≠s.heap.objs.size:=λb o e=>ne_of_lt (Heap.lt_size e);have sub:∀b,b∈frs (envOfC qual scope s.heap.objs.size f cd::outer)->b=s.heap.objs.size\/b∈frs outer:=λb hb=>List.mem_cons.mp (I.stkSub b hb);have here:∀b o,s1.heap.get? b=some o->b∉frs (envOfC qual scope s.heap.objs.size f cd::outer)->h3.get? b=some o:=λb o e n=>st b o (W.hideAll_get _ e n);have fram:∀b o,s1.heap.get? b=some o->b∈frs (envOfC qual scope s.heap.objs.size f cd::outer)->∃sl,h3.get? b=some { o with slots:=sl }:=λb o e m=>by
  obtain⟨_,o',e',nf⟩:=FF.mem m;have z:o'=o:=Option.some.inj (e'.symm.trans e);subst z;obtain⟨sl,e2⟩:=f4 b o' (kp b o' e) nf;obtain⟨sl',e3⟩:=sm b _ e2 nf;exact⟨sl',e3⟩
 refine⟨⟨λb o e n hb hx=>?_,λb o e n hb hx=>?_,λb o e n hx=>I.base.free b o e n hx,λb o e hx=>?_,I.base.tups,I.base.frzs,I.base.tbls⟩,λa u e=>?_⟩
 .exact here b o (I.base.keep b o e n hb hx) λz=>(sub b z).elim (old b o e) hb
 .obtain⟨sl,e1⟩:=I.base.slot b o e n hb hx;have mem:b∈frs (envOfC qual scope s.heap.objs.size f cd::outer):=by
   show b∈List.filterMap _ _;rw[List.filterMap_cons];exact mem_cons_of_mem _ hb
  obtain⟨sl',e2⟩:=fram b _ e1 mem;exact⟨sl',e2⟩
 .obtain⟨o',e1⟩:=I.base.there b o e hx;by_cases mem:b∈frs (envOfC qual scope s.heap.objs.size f cd::outer)
  .obtain⟨sl,e2⟩:=fram b o' e1 mem;exact⟨_,e2⟩
  .exact⟨o',here b o' e1 mem⟩
 .refine(I.hok a u e).stay (λb ob hb eb=>here b ob eb λz=>?_) (λ_ z=>z) (λ_ _ z=>z);have:=hst b z;rcases hb with rfl|hb
  .rw[e]at this;cases this
  .rw[hb]at this;cases this
theorem t9{x:Addr}(I:Inv (Ze CX P w K mg base N qual scope f cd A outer s H E) pins σ H1 s1)(nw:s1.heap.get? x=none):s.heap.get? x=none/\H1 x=none:=by
 constructor
 .cases z:s.heap.get? x with
  |none=>rfl
  |some o=>
   obtain⟨o',e1⟩:=I.base.there x o z (λh=>nomatch h);rw[nw]at e1;cases e1
 .cases z:H1 x with
  |none=>rfl
  |some o=>
   obtain⟨ob,e1⟩:=(I.hok x o z).is;rw[nw]at e1;cases e1
theorem Y0(I:Inv (Ze CX P w K mg base N qual scope f cd A outer s H E) pins σ H1 s1):s1.heap.FunFrames (W.hideAll s1.heap (frs (envOfC qual scope s.heap.objs.size f cd::outer))) (envOfC qual scope s.heap.objs.size f cd::outer):=by
 have FF:s1.heap.FunFrames base (envOfC qual scope s.heap.objs.size f cd::outer):=I.stack;exact W.funFrames_hide FF λenv he b hb=>List.mem_filterMap.mpr ⟨env,he,hb⟩
theorem XJ{x C:Addr}{args:List Value}
  (I:Inv (Ze (WO P w) P w K mg base N qual scope f cd A outer s H E) pins σ H1 s1) (hm:Heap.MadeExcOf s1.heap h' x (.ref C) args) (q:E (.ref C) none H1):
  (Ze (WO P w) P w K mg base N qual scope f cd A outer s H E).xe (.ref x) { s1 with heap:=h' }:=by
 have nw:=t9 I hm.new;refine cQ (s:={ s1 with heap:=h' }) (base:=W.hideAll s1.heap (frs (envOfC qual scope s.heap.objs.size f cd::outer))) I.ok.frames rfl (λb o e=>W.of_hideAll _ e) (Y0 I) hm λh2 a0 f1 f2 f4=>?_;exact⟨x,C,a0,H1,_,rfl,I.os,I.bare,f1,f2,oW I hm.keeps f4,nw.1,nw.2,q⟩
theorem rO{x C:Addr}{tk:Nat}
  (I:Inv (Ze (CXE P w) P w K mg base N qual scope f cd A outer s H E) pins σ H1 s1) (hm:BM s1.heap h' x C) (q:E (.ref C) none H1):
  (Ze (CXE P w) P w K mg base N qual scope f cd A outer s H E).xe (.ref x) { s1 with heap:=h',toks:=tk }:=by
 have nw:=t9 I hm.new;obtain⟨oe,vs,a0,m1,m2,m3,m4,m5⟩:=hm.there;have FF:=Y0 I;have bs:(W.hideAll s1.heap (frs (envOfC qual scope s.heap.objs.size f cd::outer))).StaysIn s1.heap:=λb o e=>W.of_hideAll _ e;have bx:(W.hideAll s1.heap (frs (envOfC qual scope s.heap.objs.size f cd::outer))).get? x=none:=by
  cases z:(W.hideAll s1.heap (frs (envOfC qual scope s.heap.objs.size f cd::outer))).get? x with
  |none=>rfl
  |some o=>have:=bs x o z;rw[hm.new]at this;cases this
 refine gm (s:={ s1 with heap:=h',toks:=tk }) (base:=W.hideAll s1.heap (frs (envOfC qual scope s.heap.objs.size f cd::outer))) I.ok.frames rfl m1 (λb o e=>hm.keeps b o (bs b o e)) (FF.of_keeps λb o e _=>⟨o,hm.keeps b o e,rfl⟩) bx m3 m4 m5 λh2 f1 f4=>?_;rw[m2]at f1;exact⟨x,C,a0,H1,_,rfl,I.os,I.bare,f1,oW I hm.keeps f4,nw.1,nw.2,q⟩
end
def uZ(X:Cx)(E:XK):Prop:=∀(pins:List (Addr×Obj))(σ:St)(H:Hp)(s:Shared)(h':Heap)(x C:Addr)(tk:Nat),Inv X pins σ H s->BM s.heap h' x C->E (.ref C) none H->X.xe (.ref x) { s with heap:=h',toks:=tk }
variable{P:Program}{w:World}{mg:Str->Option Value}{N:List Str}{qual:Str}{f:Addr}{A:Around}{s:Shared}{H:Hp}{E:XK}
theorem BY{scope:Scope}{cd:Value}{outer:List Env}:uZ (Ze (CXE P w) P w K mg base N qual scope f cd A outer s H E) E:=
 λpins σ H s h' x C tk I hm q=>rO I hm q
variable{st:Stmt}
theorem Fun.okX2 (F:Fun K x qual st f fd) (S:zI N ps (zC st)) (len : ∀ vs H Q E,sp vs H Q E->vs.length=ps.length)
  (hbody : ∀ (cdv:Value) (A:Around) (outer:List Env) (s:Shared) (H:Hp) (vs:List V) (Q:VK) (E:XK),xP k (A.deeper (envOfC qual (zC st) s.heap.objs.size f cdv))->sp vs H Q E ->
   nk (Ze (WO P w) P w K mg base N qual (zC st) f cdv A outer s H E) E -> ∃ t,PSs (Ze (WO P w) P w K mg base N qual (zC st) f cdv A outer s H E) (zp st) t/\t { nx:=fun _ H'=>Q .non H',rt:=Q } (start N vs) H):yX P w K mg base (WO P w) (k+1) f fd ps sp:=by
 obtain ⟨oc,od,kV,doc,pm,an,cdv,ct,osl,rfl,lk,hcd⟩:=F.ex
 exact iV lk hcd S len fun A outer s H vs Q E hr hsp=>hbody cdv A outer s H vs Q E hr hsp fun pins σ H s h' x C args I hm q=>XJ I hm q
theorem yX.of2 (F:yX P w K mg base (WO P w) k f fd ps sp):yX P w K mg base (CXE P w) k f fd ps sp:=
 ⟨F.len,fun A outer s H args us vs Q E hr he hb hv hs=>codeAny_mono (F.run A outer s H args us vs Q E hr he hb hv hs) fun r s' hq=>by
  cases r with
  | ok fl=>cases fl <;> exact hq
  | error e =>
   obtain ⟨x,C,a0,H',B,z1,z2,z3,z4,_,z5⟩:=hq
   exact ⟨x,C,a0,H',B,z1,z2,z3,z4,z5⟩⟩
def rS(P:Program)(w:World)(K:W.Frag)(mg:Str->Option Value)(base:Heap)(x:Str)(k:Nat)(ps:List Str)(sp:Sp):Prop:=
 ∃(f:Addr)(fd:FuncData),yX P w K mg base (WO P w) k f fd ps sp/\mg x=some (.ref f)/\W.keepIn K (.ref f)=true/\xz K fd ps []
def XP2(X:Cx)(pins:List (Addr×Obj))(σ:St)(E:XK)(e:Value)(s':Shared):Prop:=∃H1 s1,Inv X pins σ H1 s1/\WO X.prog X.w X.stack H1 s1 E e s'
def Cx.tr2(X:Cx)(pins:List (Addr×Obj))(σc:St)(E:XK):Cx:={ X with pn:=X.pn++pins,xe:=XP2 X pins σc E }
section
variable{X:Cx}{pins pins0:List (Addr×Obj)}{σ σc:St}{H:Hp}{s:Shared}{E:XK}
theorem Cx.Ok.tr2(ok:X.Ok):(X.tr2 pins σc E).Ok:=⟨ok.mod,ok.kind,ok.glob,ok.blt,ok.above,ok.inj,ok.has,ok.cab,ok.hd,ok.frames,ok.stk,ok.exf,ok.bs,ok.bsz,ok.noex,ok.exfs,ok.funs,ok.frf⟩
theorem Cx.Ok.untr2(ok:(X.tr2 pins σc E).Ok):X.Ok:=⟨ok.mod,ok.kind,ok.glob,ok.blt,ok.above,ok.inj,ok.has,ok.cab,ok.hd,ok.frames,ok.stk,ok.exf,ok.bs,ok.bsz,ok.noex,ok.exfs,ok.funs,ok.frf⟩
theorem Inv.tr2(I:Inv X pins σ H s):Inv (X.tr2 pins σc E) [] σ H s:=⟨I.ok.tr2,I.os,I.bare,I.base,I.loc,I.cell,I.free,I.freeC,λp hp=>I.pin p (by simpa[Cx.tr2]using hp),I.hok,I.len⟩
theorem Inv.untr2(I:Inv (X.tr2 pins0 σc E) pins σ H s):Inv X pins0 σ H s:=⟨I.ok.untr2,I.os,I.bare,I.base,I.loc,I.cell,I.free,I.freeC,λp hp=>I.pin p (List.mem_append_left _ hp),I.hok,I.len⟩
theorem SP.untr2{D:Z0}{f:Flow}{s':Shared}(h:SP (X.tr2 pins0 σc E) pins D f s'):SP X pins0 D f s':=by
 cases f with
 |next=>obtain⟨σ',H',I,q⟩:=h;exact⟨σ',H',I.untr2,q⟩
 |brk=>obtain⟨σ',H',I,q⟩:=h;exact⟨σ',H',I.untr2,q⟩
 |cont=>obtain⟨σ',H',I,q⟩:=h;exact⟨σ',H',I.untr2,q⟩
 |ret u=>obtain⟨v,σ',H',I,r,q⟩:=h;exact⟨v,σ',H',I.untr2,r,q⟩
end
section
variable{X:Cx}{pins0:List (Addr×Obj)}{σc:St}{k n:Nat}{C:Addr}{ps:List Str}{sp:Sp}{E:XK}{x m:Str}{p np pos apos:Pos}{e o:Expr}{es:List Expr}{ta:TE}{t:TA}
theorem gO{pins:List (Addr×Obj)}{σ:St}{Q:VK}{us:List Value}{vs:List V}(F:yX X.prog X.w X.K X.mg X.base (WO X.prog X.w) k f fd ps sp)(hr:xP k X.A)(hb:xz X.K fd ps [])
  (I:Inv (X.tr2 pins0 σc E) pins σ H s) (r:qP vs us) (wk:Wk σc σ) (h:sp (vs++[]) H Q E):wpAny (model X.prog X.w) X.A (call (.ref f) us) (EP (X.tr2 pins0 σc E) pins σ Q) (X.tr2 pins0 σc E).xe s:=by
 have r2:qP (vs++[]) (us++[]):=r.append .nil;have hl:(us++[]).length=ps.length:=by rw[<- r2.length];exact F.len _ _ _ _ h
 have e0:ie X.prog X.w X.K X.mg X.base X.A X.stack s H:=I.env0;refine wpAny_call (codeAny_mono (F.run X.A X.stack s H ⟨us,[]⟩ (us++[]) (vs++[]) Q E hr e0 (hb s us I.kIn hl) r2 h) λr s' hq=>?_);cases r with
 |error e=>exact⟨H,s,I.untr2.weak wk.1 wk.2,hq⟩
 |ok fl=>
  cases fl with
  |ret u=>exact I.after hq
  |next=>exact False.elim hq
  |brk=>exact False.elim hq
  |cont=>exact False.elim hq
theorem Wh(F:rS X.prog X.w X.K X.mg X.base x k ps sp)(hr:xP n X.A)(hg:Gl X x)(ha:PA (X.tr2 pins0 σc E) (e::es) t)(hk:k<=n:=by decide)
  (hdb:Nd x:=by decide) (he:starEach (e::es) X.env=(false,eval e X.env)::starEach es X.env:=by rfl) (hpl:(backTo pos (starEach es X.env)).any (·.1)=false:=by rfl):
  PE (X.tr2 pins0 σc E) (.Call (.Name x p) (e::es) [] pos) (nt sp E σc t):=by
 intro pins s σ H Q I h;obtain⟨f,fd,G,hm,kp,b⟩:=F;refine wpAny_Call_Name_kw (jG I hg hm ?_ hdb);refine W.callWith_K (h₀:=X.base) I.ok.mod.kin kp (thn (ha pos pins s σ H _ I h) λus s1⟨vs,H1,I1,r,q⟩=>⟨I1.kIn,?_⟩) he hpl;exact gO (G.mono hk) hr b I1 r q.1 q.2
end
def Ea(K:W.Frag)(C1 C2 CR:Addr)(E:XK)(tb:St->XK->TS):TS:=λD σ H=>∃σc,tb σc (λcls _ H2=>∃C,cls=.ref C/\W.exmAny K (.ref C) [.ref C1,.ref C2]=some true/\E (.ref CR) none H2) D σ H
variable{C1:Addr}{p2:Pos}{j:Nat}{body:List Stmt}{tb:St->XK->TS}
theorem Bf{c1 c2 cx msg:Str}{C2' CR:Addr}{p1 tpos np mp cpos cp rpos hpos:Pos}{kk j':Nat}
  (hst:X.stack=X.env::X.outer) (hfr:X.env.frame=some X.env.locals) (hc:X.calm=true) (ce:Exc X.K CR) (tk:uZ X E) (po:∀hd,PassesOwnAt (model X.prog X.w) (X.A.mark hd) X.A X.env X.xe)
  (g1:Gl X c1) (m1:X.mg c1=some (.ref C1)) (g2:Gl X c2) (m2:X.mg c2=some (.ref C2')) (gr:Gl X cx) (mr:X.mg cx=some (.ref CR)) (hb:∀pins σc E,PSs (X.tr2 pins σc E) body (tb σc E))
  (d1:Nd c1:=by decide) (d2:Nd c2:=by decide) (dr:Nd cx:=by decide):
  PS X (.Try body [.ExceptHandler (some (.Tuple [.Name c1 p1,.Name c2 p2] kk tpos)) none [.Raise (some (.Call (.Name cx np) [.Constant (.str msg) j mp] [] cpos)) (some (.Constant .none j' cp)) rpos] hpos] [] [] pos) (Ea X.K C1 C2' CR E tb):=by
 intro pins s σ H D I h;obtain⟨σc,h⟩:=h;refine wpAny_Try_except (wpAny_mono (hb pins σc _ [] s σ H D I.tr2 h) (λf s1 q=>?_) λer s' z=>?_)
 .cases f with
  |next=>exact wpAny_execs_nil q.untr2
  |ret u=>exact q.untr2
  |brk=>exact q.untr2
  |cont=>exact q.untr2
 .obtain⟨H1,s1,I1,fl⟩:=z;obtain⟨y,C,a0,H2,B,rfl,hos,hbare,fly,cc,clo,hy0,hy2,C0,z0,exm,q⟩:=fl;cases z0;rw[hst]at fly;refine pH (I.ok.frames.trans (congrArg some hst)) hfr fly cc λh1 held cc1 sm1=>?_;refine mI held cc1 λh2 fly2 cc2 sm2=>?_;have cl:∀h',B.StaysIn h'->h2.UpToSlots h'->Inv X pins σc H2 { s' with heap:=h' }:=λh' st sm=>by
   have c:=clo h' st ((sm1.trans sm2).trans sm);exact I1.call' (s':={ s' with heap:=h' }) hos c.1 c.2 hbare (λb z=>nomatch z)
  have I2:Inv X pins σc H2 { s' with heap:=h2 }:=cl h2 fly2.1 (Heap.UpToSlots.refl _);have hhd:(X.A.mark (some (.ref y))).handled=some (.ref y):=rfl;refine wpAny_handleBy_cons (codeAny_handlers_test ?_) (by intro q;cases q);refine wpAny_Tuple (wpAny_items_cons (jG (I2.inExc y) g1 m1 (wpAny_items_cons (jG (I2.inExc y) g2 m2 (wpAny_items_nil ⟨by size_fits,?_⟩) d2)) d1));have kp:∀b o,h2.get? b=some o->(h2.push { cls:=.type "tuple",data:=.seq [Value.ref C1,Value.ref C2'].toArray }).get? b=some o:=λ_ _ z=>Heap.get?_push_of_some _ z;have ty2:W.Looks (model X.prog X.w) h2 (typeOf (.ref y)) (.ref C):=(isx fly2).ty;refine(W.exm_tup2 (M:=model X.prog X.w) (I2.kIn.keeps kp) (ty2.keeps kp) (Heap.get?_push_size h2 rfl) exm).here ?_;have up:h2.UpToSlots (h2.push { cls:=.type "tuple",data:=.seq [Value.ref C1,Value.ref C2'].toArray }):=Heap.UpToSlots.of_keeps kp;have fly3:Heap.FlyingW B (X.env::X.outer) y (.ref C) a0 (h2.push { cls:=.type "tuple",data:=.seq [Value.ref C1,Value.ref C2'].toArray }):=by
   obtain⟨f1,f2,f3,oe,vs,t,ot,ts,q1,q2,q3,q4,q5,q6,q7,q8,q9⟩:=fly2;exact⟨λb o z=>kp b o (f1 b o z),f2,f3.of_keeps λb o z _=>⟨o,kp b o z,rfl⟩,oe,vs,t,ot,ts,kp _ _ q1,q2,q3,q4,q5,q6,kp _ _ q7,q8,q9⟩
  have cc3:C2 (h2.push { cls:=.type "tuple",data:=.seq [Value.ref C1,Value.ref C2'].toArray }) y:=by
   obtain⟨o,vs,z1,z2,z3⟩:=cc2;exact⟨o,vs,kp _ _ z1,z2,z3⟩
  refine codeAny_handlers_suite (li fly3 cc3 λh4 fly4 cc4 sm4=>?_);have I4:Inv X pins σc H2 { s' with heap:=h4 }:=cl h4 fly4.1 (up.trans sm4);obtain⟨tl,Nn,nm,qq,bs,hdct,sn,sub,ab,col,dd,k0,k1,k2,k3,k5,mN,hC,hN,hni,T⟩:=mq I4.kIn ce;refine wpAny_passesOwnAt (po (some (.ref y))) (wpAny_execs_cons ?_);refine Bz (s:={ s' with heap:=h4 }) (C:=CR) (bm:=tl) (mN:=mN) (N:=Nn) (nm:=nm) (q:=qq) (bs:=bs) (hdct:=hdct) (sn:=sn) (sub:=sub) (ab:=ab) (col:=col) (dd:=dd) (k0:=k0) (k1:=k1) (k2:=k2) (k3:=k3) (k5:=k5) PySem.F.excBase_ValueError (T.hasType PySem.F.excBase_ValueError.hasBase) hhd cc4 (λR hR=>jG (I4.inExc y) gr mr hR dr) hC hN hni T λh5 e5 tk5 mr5=>?_;exact tk pins σc H2 { s' with heap:=h4 } h5 e5 CR tk5 I4 mr5 q
variable{D:Z0}{σ:St}
theorem EE{C2 CR:Addr}(σc:St)(h:tb σc (λcls _ H2=>∃C,cls=.ref C/\W.exmAny K (.ref C) [.ref C1,.ref C2]=some true/\E (.ref CR) none H2) D σ H):Ea K C1 C2 CR E tb D σ H:=⟨σc,h⟩
variable{c:Nat}
theorem AQ{d:Nat}(h:0<=fv c)(e:fv c=fv d):c=d:=by
 unfold fv at h e;repeat' (split at h)
 all_goals repeat' (split at e)
 all_goals omega
theorem YM{P:List Nat->Prop}(h0:P [])(hs:∀l c,P l->P (l++[c]))(l:List Nat):P l:=by
 have:∀n(l:List Nat),l.length=n->P l:=λn=>by
  induction n with
  |zero=>intro l h;rw[List.length_eq_zero_iff.mp h];exact h0
  |succ n ih=>
   intro l h;have ne:l≠[]:=λz=>by rw[z]at h;cases h
   rw[<- List.dropLast_concat_getLast ne];exact hs _ _ (ih _ (by rw[List.length_dropLast];omega))
 exact this _ l rfl
theorem yF.left{b:Int}{m:List Nat}(h:yF b (l++m)):yF b l:=λc hc=>h c (List.mem_append_left _ hc)
theorem yF.right{b:Int}{m:List Nat}(h:yF b (l++m)):yF b m:=λc hc=>h c (List.mem_append_right _ hc)
theorem m9{b:Int}(hb:2<=b)(l:List Nat):yF b l->0<=val b l/\val b l<b^l.length:=by
 refine YM (P:=λl=>yF b l->0<=val b l/\val b l<b^l.length) (λ_=>⟨Int.le_refl 0,by show(0:Int)<b^0;rw[Int.pow_zero];decide⟩) (λl c ih h=>?_) l;obtain⟨i1,i2⟩:=ih h.left;obtain⟨_,c1,c2⟩:=h.right c (List.mem_singleton.mpr rfl);rw[Jk,length_append,length_singleton,Int.pow_succ];have m1:=Int.mul_le_mul_of_nonneg_right (show val b l<=b^l.length-1 by omega) (show 0<=b by omega);rw[Int.sub_mul,Int.one_mul]at m1;have m2:=Int.mul_nonneg i1 (show 0<=b by omega);omega
theorem A3{b:Int}(hb:2<=b)(l:List Nat):∀k,yF b l->yF b k->l.length=k.length->val b l=val b k->l=k:=by
 refine YM (P:=λl=>∀k,yF b l->yF b k->l.length=k.length->val b l=val b k->l=k) (λk _ _ h _=>(List.length_eq_zero_iff.mp h.symm).symm) (λl c ih k hl hk he hv=>?_) l;have ne:k≠[]:=λz=>by rw[z,length_append]at he;cases he
 obtain⟨k',d,rfl⟩:∃k' d,k=k'++[d]:=⟨_,_,(List.dropLast_concat_getLast ne).symm⟩
 obtain⟨_,c1,c2⟩:=hl.right c (List.mem_singleton.mpr rfl);obtain⟨_,d1,d2⟩:=hk.right d (List.mem_singleton.mpr rfl);rw[Jk,Jk]at hv;have q1:(val b l*b+fv c)/b=val b l:=by rw[Int.add_comm,Int.add_mul_ediv_right _ _ (by omega),Int.ediv_eq_zero_of_lt c1 c2,Int.zero_add]
 have q2:(val b k'*b+fv d)/b=val b k':=by rw[Int.add_comm,Int.add_mul_ediv_right _ _ (by omega),Int.ediv_eq_zero_of_lt d1 d2,Int.zero_add]
 have e1:val b l=val b k':=by rw[<- q1,hv,q2]
 have e2:fv c=fv d:=by rw[e1]at hv;omega
 rw[length_append,length_append,length_singleton,length_singleton]at he;rw[ih k' hl.left hk.left (by omega) e1,AQ c1 e2]
theorem AE{b:Int}(hb:2<=b)(l:List Nat):yF b l->1<=l.length->l.getD 0 0≠48->b^(l.length-1)<=val b l:=by
 refine YM (P:=λl=>yF b l->1<=l.length->l.getD 0 0≠48->b^(l.length-1)<=val b l) (λ_ h=>absurd h (by decide)) (λl c ih h _ hn=>?_) l;obtain⟨_,c1,c2⟩:=h.right c (List.mem_singleton.mpr rfl);rw[Jk,length_append,length_singleton,Nat.add_sub_cancel];rcases Nat.eq_zero_or_pos l.length with z|z
 .have z':=List.length_eq_zero_iff.mp z;subst z';have nc:c≠48:=hn;have:fv c≠fv 48:=λe=>nc (AQ c1 e);have e48:fv 48=0:=by decide
  show b^0<=(0:Int)*b+fv c;rw[Int.pow_zero];omega
 .have i:=ih h.left z (by rw[kX z]at hn;exact hn);have e:b^l.length=b^(l.length-1)*b:=by rw[<- Int.pow_succ];congr 1;omega
  have m1:=Int.mul_le_mul_of_nonneg_right i (show 0<=b by omega);rw[e];omega
theorem An{p:Nat}(h2:2<=b)(h16:b<=16)(hp:p<=6)(hf:yF b l)(h1:p+1<=l.length)(h40:l.length<=40+p)(hz:l.getD 0 0=48->l.length=p+1):(val b l).toNat<b^(40+p)/\dgs b p (val b l).toNat=l:=by
 have hb:(2:Int)<=(b:Int):=by omega
 obtain⟨v0,v1⟩:=m9 hb l hf;have cp:∀k:Nat,((b^k:Nat):Int)=(b:Int)^k:=λk=>by simp
 have mono:∀{j k:Nat},j<=k->(b:Int)^j<=(b:Int)^k:=λ{j k}h=>by
  rw[<- cp,<- cp];exact Int.ofNat_le.mpr (Nat.pow_le_pow_right (by omega) h)
 have nb:(val b l).toNat<b^(40+p):=by
  have a:=mono h40;have c:=cp (40+p);omega
 obtain⟨d1,d2,d3,d4,d5⟩:=JA h2 h16 hp nb;refine⟨nb,?_⟩;have ev:val b (dgs b p (val b l).toNat)=val b l:=by rw[d2];omega
 obtain⟨w0,w1⟩:=m9 hb _ d1;refine A3 hb _ _ d1 hf ?_ ev;generalize dgs b p (val b l).toNat=D at *;rcases Nat.lt_trichotomy D.length l.length with z|z|z
 .have lo:=AE hb l hf (by omega) (λe=>by have:=hz e;omega);have m:=mono (show D.length<=l.length-1 by omega);omega
 .exact z
 .have lo:=AE hb D d1 (by omega) (λe=>by have:=d5 e;omega);have m:=mono (show l.length<=D.length-1 by omega);omega
def j7(p:Nat)(t:List Nat):List Nat:=if p=0 then t else t.take (t.length-p-1)
def JQ(p:Nat)(t:List Nat):List Nat:=if p=0 then[]else t.drop (t.length-p)
def WE(p pt:Nat)(t:List Nat):Prop:=p=0\/(p+1<=t.length/\t.getD (t.length-p-1) 0=pt)
def NZ(u:List Nat):Prop:=¬(1<u.length/\u.getD 0 0=48)
def IsB(b:Int)(p pt z m:Nat)(t:List Nat):Prop:=WE p pt t/\GG z m (j7 p t)/\yF b (ug z (j7 p t)++JQ p t)/\NZ (ug z (j7 p t))
def iA(b:Int)(p z:Nat)(t:List Nat):Int:=val b (ug z (j7 p t)++JQ p t)
variable{t:List Nat}
theorem Wd{p pt:Nat}(h:WE p pt t):(JQ p t).length=p:=by
 unfold JQ;rcases h with h|h
 .rw[if_pos h,h];rfl
 .split
  .rename_i z;rw[z];rfl
  .rw[List.length_drop];omega
theorem mm{p pt:Nat}(h:WE p pt t):t=if p=0 then j7 p t else j7 p t++[pt]++JQ p t:=by
 rcases Nat.eq_zero_or_pos p with z|z
 .rw[if_pos z];unfold j7;rw[if_pos z]
 .rw[if_neg (by omega)];rcases h with h|⟨h1,h2⟩
  .omega
  .unfold j7 JQ;rw[if_neg (by omega),if_neg (by omega)];have lt:t.length-p-1<t.length:=by omega
   have e1:t.drop (t.length-p-1)=pt::t.drop (t.length-p):=by
    rw[List.drop_eq_getElem_cons lt,show t.length-p-1+1=t.length-p by omega];rw[List.getD_eq_getElem?_getD,getElem?_eq_getElem lt]at h2;rw[show t[t.length-p-1]=pt from h2]
   rw[append_assoc,show[pt]++t.drop (t.length-p)=t.drop (t.length-p-1)from e1.symm,List.take_append_drop]
theorem sU{p pt m:Nat}(h2:2<=b)(h16:b<=16)(hp:p<=6)(h:IsB b p pt z m t):0<=iA b p z t/\(iA b p z t).toNat<b^(40+p)/\bdy b p pt z m (iA b p z t).toNat=t:=by
 obtain⟨w,g,f,n⟩:=h;have rl:=Wd w;have jn:=mm w;unfold iA;generalize hU:ug z (j7 p t)=u at *;generalize JQ p t=r at *;have g1:=g.1;have g2:=g.2.1;have g3:=g.2.2;rw[hU]at g1 g2 g3;obtain⟨v1,v2⟩:=An h2 h16 hp f (by rw[length_append];omega) (by rw[length_append];omega) (λe=>by
  rw[kX (by omega)]at e;rw[length_append];have:¬1<u.length:=λz=>n ⟨z,e⟩;omega)
 refine⟨(m9 (by omega) _ f).1,v1,?_⟩;have ew:whl b p (val b (u++r)).toNat=u:=by
  unfold whl;rw[v2,length_append,show u.length+r.length-p=u.length by omega,List.take_left]
 have er:rst b p (val b (u++r)).toNat=r:=by
  unfold rst;rw[v2,length_append,show u.length+r.length-p=u.length by omega,List.drop_left]
 unfold bdy;rw[ew,er,g3];exact jn.symm
theorem Fs(h:c∈ug z t):c∈t:=by
 unfold ug at h;split at h
 .exact h
 .rename_i hz;have key:∀l:List Nat,c∈UJ z l->c∈l:=λl=>by
   refine YM (P:=λl=>c∈UJ z l->c∈l) (λh=>by rw[kh]at h;exact h) (λl x ih h=>?_) l;rw[mz (by omega) l.length l (Nat.le_refl _)]at h;rcases List.mem_append.mp h with h|h
   .exact List.mem_append_left _ (ih h)
   .split at h
    .cases h
    .exact List.mem_append_right _ h
  have:=key _ (List.mem_reverse.mp h);exact List.mem_reverse.mp this
theorem iO{p:Nat}:t.take (j7 p t).length=j7 p t:=by
 unfold j7;split
 .exact List.take_length
 .rw[List.length_take,Nat.min_def];split
  .rfl
  .rw[List.take_length,List.take_of_length_le (by omega)]
theorem hV{p pt:Nat}(h:WE p pt t):t.drop ((j7 p t).length+1)=JQ p t:=by
 unfold j7 JQ;split
 .exact List.drop_of_length_le (by omega)
 .rename_i n;rcases h with h|h
  .exact absurd h n
  .rw[List.length_take,Nat.min_eq_left (by omega),show t.length-p-1+1=t.length-p by omega]
theorem mD{p:Nat}:(j7 p t).length<=t.length:=by
 unfold j7;split
 .exact Nat.le_refl _
 .rw[List.length_take];omega
theorem rR{p:Nat}(h:Asc t):Asc (ug z (j7 p t)++JQ p t):=by
 intro c hc;rcases List.mem_append.mp hc with hc|hc
 .have:=Fs hc;unfold j7 at this;split at this
  .exact h c this
  .exact h c (List.mem_of_mem_take this)
 .unfold JQ at hc;split at hc
  .cases hc
  .exact h c (List.mem_of_mem_drop hc)
def fj(c:Nat)(us:List (List Nat)):List Nat:=(us.map ([c]++·)).flatten
theorem XG{u:List Nat}{us:List (List Nat)}:fj c (u::us)=c::(u++fj c us):=by
 unfold fj;simp
theorem d9{c:Nat}:∀{x y:List Nat}{xs ys:List (List Nat)},c∉x->c∉y->x++fj c xs=y++fj c ys->x=y/\fj c xs=fj c ys
 |[],[],_,_,_,_,h=>⟨rfl,h⟩
 |[],b::y,[],ys,_,_,h=>by unfold fj at h;simp at h
 |[],b::y,u::us,ys,_,h2,h=>by
  rw[XG,List.nil_append,cons_append,List.cons.injEq]at h;exact absurd (h.1▸mem_cons_self ..) h2
 |a::x,[],xs,[],_,_,h=>by unfold fj at h;simp at h
 |a::x,[],xs,u::us,h1,_,h=>by
  rw[XG,List.nil_append,cons_append,List.cons.injEq]at h;exact absurd (h.1▸mem_cons_self ..) h1
 |a::x,b::y,xs,ys,h1,h2,h=>by
  rw[cons_append,cons_append,List.cons.injEq]at h;obtain⟨e1,e2⟩:=d9 (λz=>h1 (mem_cons_of_mem _ z)) (λz=>h2 (mem_cons_of_mem _ z)) h.2;exact⟨by rw[h.1,e1],e2⟩
theorem AN{c:Nat}:∀{xs ys:List (List Nat)},(∀t∈xs,c∉t)->(∀t∈ys,c∉t)->fj c xs=fj c ys->xs=ys
 |[],[],_,_,_=>rfl
 |[],y::ys,_,_,h=>by rw[XG]at h;unfold fj at h;simp at h
 |x::xs,[],_,_,h=>by rw[XG]at h;unfold fj at h;simp at h
 |x::xs,y::ys,h1,h2,h=>by
  rw[XG,XG,List.cons.injEq]at h;obtain⟨e1,e2⟩:=d9 (h1 x (mem_cons_self ..)) (h2 y (mem_cons_self ..)) h.2;rw[e1,AN (λt ht=>h1 t (mem_cons_of_mem _ ht)) (λt ht=>h2 t (mem_cons_of_mem _ ht)) e2]
theorem E1{xs ys:List (List Nat)}(n1:xs≠[])(n2:ys≠[])(h1:∀t∈xs,c∉t)(h2:∀t∈ys,c∉t)(h:jn [c] xs=jn [c] ys):xs=ys:=by
 cases xs with
 |nil=>exact absurd rfl n1
 |cons x xs=>
  cases ys with
  |nil=>exact absurd rfl n2
  |cons y ys=>
   obtain⟨e1,e2⟩:=d9 (h1 x (mem_cons_self ..)) (h2 y (mem_cons_self ..)) (show x++fj c xs=y++fj c ys from h);rw[e1,AN (λt ht=>h1 t (mem_cons_of_mem _ ht)) (λt ht=>h2 t (mem_cons_of_mem _ ht)) e2]
theorem rm{ws:List (List Nat)}(n:ws≠[])(h:∀t∈ws,c∉t):Txt.split (T (jn [c] ws)) (T [c])=ws.map T:=by
 have e:=StrLaws.join_split (T (jn [c] ws)) (T [c]);have fr:=StrLaws.split_free (T (jn [c] ws)) c;have np:=split_pos (T (jn [c] ws)) (T [c]);generalize hq:Txt.split (T (jn [c] ws)) (T [c])=q at *;have eq:q=(q.map Lt).map T:=by
  rw[map_map];conv=>lhs;rw[<- map_id q]
  exact List.map_congr_left λz _=>(XR z).symm
 have e':T (jn [c] (q.map Lt))=T (jn [c] ws):=by
  rw[<- e];have j:=AS (T [c]) (q.map Lt);rw[<- eq,YN]at j;rw[<- j];exact StrLaws.glued_eq_join _ _
 have fr':∀t∈q.map Lt,c∉t:=λt ht=>by
  obtain⟨z,hz,rfl⟩:=List.mem_map.mp ht;exact fr z (by rw[show(⟨#[c]⟩:Str)=T [c]from rfl,hq];exact hz)
 rw[eq,E1 (by intro z;rw[List.map_eq_nil_iff]at z;rw[z]at np;simp at np) n fr' h (Fy.mp e')]
section
variable{X:Cx}{H:Hp}{Q:VK}{K:W.Frag}
open PySem.Builtin PySem.Builtin.Str in
theorem sy{prog:Program}{E:Value->Shared->Prop}{y:Str}{t u:Tok}{R:Value->Shared->Prop}(ne:(y.length==0)=false)
  (fin:∀(l:List (Str×Tok))k,l.map (·.1)=Txt.split x y->R (.ref s.heap.objs.size) { s with toks:=k,heap:=s.heap.push { cls:=.type "list",data:=.seq (strValues l).toArray } })
  (z1:x.length<=sizeLine) (z2:(partsBetween x (occurrences x y 0 x.length (x.length+1)) y.length).length<=sizeLine):wpAny (model prog w) A (call (.builtin "str.split") [.str x t,.str y u]) R E s:=by
 have arg:=F.args_str_split_2 (.str x t) (.str y u);rcases Bool.eq_false_or_eq_true (decide (x.length<y.length)||decide (strKind x<strKind y))with no|may
 .have m:=meets_str_split_cannot_occur x y t u no;refine call_meets F.slot_str_split (typeIs_str _ _ _) F.entry_str_split arg m (fin [(x,t)] _ ?_);unfold Txt.split;rw[if_pos no];rfl
 rcases Bool.eq_false_or_eq_true (occurrences x y 0 x.length (x.length+1)).isEmpty with nix|got
 .have m:=meets_str_split_not_found x y t u may ne nix;refine call_meets F.slot_str_split (typeIs_str _ _ _) F.entry_str_split arg m (fin [(x,t)] _ ?_);unfold Txt.split;rw[if_neg (by rw[may];decide),if_pos nix];rfl
 .have m:=meets_str_split_sep x y t u may ne got z1 z2;have q:=fin (numbered s.toks (partsBetween x (occurrences x y 0 x.length (x.length+1)) y.length)) (s.toks+(partsBetween x (occurrences x y 0 x.length (x.length+1)) y.length).length) (by
   rw[numbered_texts];unfold Txt.split;rw[if_neg (by rw[may];decide),if_neg (by rw[got];decide)])
  rw[<- strsFrom_eq]at q;exact call_meets F.slot_str_split (typeIs_str _ _ _) F.entry_str_split arg m q
theorem pW{y:Str}(hx:x.length+2<=sizeLine):(Builtin.Str.partsBetween x (Builtin.Str.occurrences x y 0 x.length (x.length+1)) y.length).length<=sizeLine:=by
 rw[len_partsBetween];have:=StrLaws.occ_length_le x y 0 x.length (x.length+1);omega
def ml:V->List V->Hp->VK->Prop:=λx xs H Q=>∃(c:Nat)(ws:List (List Nat)),x=.str (T (jn [c] ws))/\xs=[.str (T [c])]/\ws≠[]/\(∀t∈ws,c∉t)/\(jn [c] ws).length<=16777000/\ws.length<=16777000/\∀l,H l=none->Q (.ref l) (upd H l (.lst (tsV ws)))
theorem lU:∀{l:List (Str×Tok)}{ws:List (List Nat)},l.map (·.1)=ws.map T->qP (tsV ws) (strValues l)
 |[],[],_=>.nil
 |[],_::_,h=>by simp at h
 |_::_,[],h=>by simp at h
 |(z,t)::l,w::ws,h=>by
  rw[List.map_cons,List.map_cons,List.cons.injEq]at h;have h1:z=T w:=h.1;subst h1;exact .cons ⟨t,rfl⟩ (lU h.2)
theorem nv:MtR X "str.split" ml:=by
 intro pins s σ H x xs v us Q I rx rv h;obtain⟨c,ws,rfl,rfl,n,fr,z1,z2,q⟩:=h;obtain⟨t,rfl⟩:=rx;obtain⟨u,rfl,ru⟩:=rv.one;obtain⟨t',rfl⟩:=ru;have hx:(T (jn [c] ws)).length+2<=sizeLine:=le_trans (show(jn [c] ws).length+2<=16777216 by omega) (by decide);refine sy rfl (λl k hl=>?_) (by omega) (pW hx);rw[rm n fr]at hl;refine⟨.ref s.heap.objs.size,_,I.laid (a:=s.heap.objs.size) (o:=.lst (tsV ws)) (λb u e=>Heap.get?_push_of_some _ e) (Nat.le_refl _) ?_,rfl,q _ (I.hok.fresh (Nat.le_refl _))⟩;refine⟨le_trans (show(tsV ws).length<=16777216 by rw[show(tsV ws).length=ws.length from length_map _];omega) (by decide),strValues l,0,lU hl,?_⟩;exact Heap.get?_push_size _ rfl
theorem sv{ws:List (List Nat)}(n:ws≠[])(fr:∀t∈ws,c∉t)(z1:(jn [c] ws).length<=16777000)(z2:ws.length<=16777000)(q:∀l H',zR H H'->H l=none->H' l=some (.lst (tsV ws))->Q (.ref l) H'):ml (.str (T (jn [c] ws))) [.str (T [c])] H Q:=⟨c,ws,rfl,rfl,n,fr,z1,z2,λl hl=>q l _ (zw (zR.refl _) hl) hl zO⟩
def sJ(w:World)(e:Str×Tok×Value):DictEntry:=⟨hashStr w e.1,.str e.1 e.2.1,e.2.2⟩
def KDs(w:World)(K:W.Frag)(d:Addr)(ks:List Str):Prop:=(d==sysModules)=false/\∃(kvs:List (Str×Tok×Value))(n:Nat),K.lookup d=some { cls:=.type "dict",data:=.dict (kvs.map (sJ w)).toArray n }/\ks=kvs.map (·.1)/\ks.Nodup/\ks.length<=1000
def mh(w:World)(K:W.Frag):List V->Hp->VK->Prop:=λxs H Q=>∃d ks,xs=[.ref d]/\KDs w K d ks/\∀l,H l=none->Q (.ref l) (upd H l (.lst (ks.map V.str)))
theorem isStrOf_shape{k:Str}{v:Value}(h:Value.isStrOf k v=true):∃t,v=.str k t:=by
 rcases ql (k:=Sum.inr k) h with⟨i,t,z,_⟩|⟨x,t,z,e⟩
 .cases z
 .cases z;exact⟨t,e⟩
theorem dE:∀{ks:List Str}{vs:List Value},vs.length=ks.length->(∀(j:Nat)(v:Value),vs[j]?=some v->∃k,ks[j]?=some k/\Value.isStrOf k v=true)->qP (ks.map V.str) vs
 |[],[],_,_=>.nil
 |[],_::_,h,_=>by simp at h
 |_::_,[],h,_=>by simp at h
 |k::ks,v::vs,h,hv=>by
  obtain⟨k',e,hk⟩:=hv 0 v rfl;cases e;exact .cons (isStrOf_shape hk) (dE (by simpa using h) λj u hu=>hv (j+1) u hu)
theorem Yf{P:Program}{w:World}:∀(kvs:List (Str×Tok×Value)),Pairs (PySem.strKind P w) (kvs.map (sJ w)) (kvs.map λe=>(e.1,e.2.2))
 |[]=>.nil
 |e::kvs=>.cons (by simp[PySem.strKind,Value.isStrOf,sJ]) rfl (Yf kvs)
theorem eo(hc:X.calm=true):xa X (.type "list") (mh X.w X.K):=by
 intro pins s σ H xs us Q I r h;obtain⟨d,ks,rfl,⟨lo,kvs,n,lk,ek,nd,hz⟩,q⟩:=h;obtain⟨u,rfl,rx⟩:=YK r;cases rx;have ho:=I.kIn d _ lk;have hl:ks.length=kvs.length:=by rw[ek,length_map]
 have hl2:(kvs.map λe=>(e.1,e.2.2)).length=ks.length:=by rw[length_map,hl]
 refine W.kdl_call (W.kdl_dict (knd:=PySem.strKind X.prog X.w) (kvs:=kvs.map λe=>(e.1,e.2.2)) (ep:=n) lo) (I.ok.hd hc) ⟨_,_,ho,⟨rfl,rfl,rfl⟩,rfl,?_,?_,?_⟩ (by rw[hl2];exact qU hz) λh' tk acc' c' kp e hacc=>?_
 .intro e he;obtain⟨z,_,rfl⟩:=List.mem_map.mp (show e∈kvs.map (sJ X.w)from(List.mem_toArray).mp he);exact⟨z.1,by simp[PySem.strKind,Value.isStrOf,sJ],rfl⟩
 .exact Yf kvs
 .rw[map_map];rw[ek]at nd;exact nd
 .refine⟨.ref s.heap.objs.size,_,I.laid (t':=tk) kp (Nat.le_refl _) (show x0 X.prog X.w _ h' _ (.lst (ks.map V.str))from⟨by rw[length_map];exact qU hz,acc'.toList,c',?_,by rw[Array.toArray_toList];exact e⟩),rfl,q _ (I.hok.fresh (Nat.le_refl _))⟩;refine dE (by rw[Array.length_toList,hacc.1,hl2]) λj v hv=>?_;obtain⟨k,x,e1,e2⟩:=hacc.2 j v (by rw[<- Array.getElem?_toList];exact hv);refine⟨k,?_,e2⟩;rw[getElem?_map]at e1;rw[ek,getElem?_map];cases hj:kvs[j]? with
  |none=>rw[hj]at e1;cases e1
  |some z=>rw[hj]at e1;cases e1;rfl
theorem su{d:Addr}{ks:List Str}(h:KDs w K d ks)(q:∀l H',zR H H'->H l=none->H' l=some (.lst (ks.map V.str))->Q (.ref l) H'):mh w K [.ref d] H Q:=⟨d,ks,rfl,h,λl hl=>q l _ (zw (zR.refl _) hl) hl zO⟩
end
theorem kds_sty{d:Addr}{n0:Nat}{t0 t1 t2 t3 t4:Tok}{v0 v1 v2 v3 v4:Value}(lo:(d==sysModules)=false)
  (hd:K.lookup d=some { cls:=.type "dict",data:=.dict #[⟨PyData.keyHash w.params "minus",.str "minus" t0,v0⟩,⟨PyData.keyHash w.params "plus",.str "plus" t1,v1⟩,⟨PyData.keyHash w.params "blank",.str "blank" t2,v2⟩,⟨PyData.keyHash w.params "brackets",.str "brackets" t3,v3⟩,⟨PyData.keyHash w.params "behind",.str "behind" t4,v4⟩] n0 }):KDs w K d ["minus","plus","blank","brackets","behind"]:=
 ⟨lo,[("minus",t0,v0),("plus",t1,v1),("blank",t2,v2),("brackets",t3,v3),("behind",t4,v4)],n0,hd,rfl,by right,by decide⟩
def KDt(w:World)(K:W.Frag)(d:Addr)(z v:Str):Prop:=∃(es:Array DictEntry)(n:Nat)(t:Tok),K.lookup d=some { cls:=.type "dict",data:=.dict es n }/\(∀e,e∈es->∃k,Value.isStrOf k e.key=true/\e.hash=hashStr w k)/\findBy Value.isStrOf es z=some (.str v t)
def Cb(w:World)(K:W.Frag):R2:=λx y H Q=>∃d z v,x=.ref d/\y=.str z/\KDt w K d z v/\Q (.str v) H
section
variable{X:Cx}{H:Hp}{Q:VK}{K:W.Frag}{w:World}
theorem lM:IxR X (Cb X.w X.K):=by
 intro value slice pins s σ H x y v u Q I rx ry h hs;obtain⟨d,z,p,rfl,rfl,⟨es,n,tk,lk,ks,f⟩,q⟩:=h;cases rx;obtain⟨t,rfl⟩:=ry;have ho:=I.kIn d _ lk;have fin:∀k,EP X pins σ Q (.str p tk) { s with toks:=k }:=λk=>⟨.str p,H,I.tok _,⟨tk,rfl⟩,q⟩
 exact subscriptTail_builtinR (x:=.str p tk) ⟨_,ho,rfl⟩ slot_dict_getitem.lookup
  (wpAny_getItem_of (knd:=PySem.strKind X.prog X.w) (k:=z) (f:=λk=>findBy Value.isStrOf es k) (Q:=λr s'=>r=.str p tk/\EP X pins σ Q r s') (by simp[PySem.strKind,Value.isStrOf]) ⟨_,es,n,ho,⟨rfl,rfl,rfl⟩,rfl,ks,λk=>rfl⟩ f ⟨rfl,fin _⟩) hs
theorem Af(e1:X.w=w)(e2:X.K=K):IxR X (Cb w K):=e1▸e2▸lM
theorem oz{d:Addr}{z v:Str}(h:KDt w K d z v)(q:Q (.str v) H):Cb w K (.ref d) (.str z) H Q:=⟨d,z,v,rfl,rfl,h,q⟩
end
theorem qV{s R:TS}(I:St->Hp->Prop)(h2:∀σ' H',I σ' H'->R D σ' H')(h1:∀R':TS,(∀σ' H',I σ' H'->R' D σ' H')->xM s R' D σ H):xM s R D σ H:=h1 R h2
variable{v:V}
theorem Bd{f:Str}{x:V}{r:List (Str×V)}:JZ f v ((f,x)::r)=(f,v)::r:=by
 rw[show JZ f v ((f,x)::r)=(if f=f then(f,v)::r else(f,x)::JZ f v r)from rfl,if_pos rfl]
def wfs(L:Addr)(n:Nat):List (Str×V):=[("words",.ref L),("at",.int n)]
def Wr(K:W.Frag)(C:Addr)(H:Hp)(a:Addr)(Z3:List (List Nat)):Prop:=∃(dx L:Addr)(ws:List (List Nat))(n:Nat),H a=some (.ins C dx (wfs L n))/\SqL K H L (tsV ws)/\n<=ws.length/\ws.drop n=Z3/\ws.length<=100
section
variable{K:W.Frag}{C:Addr}{H H':Hp}{a L dx:Addr}{n:Nat}{Z3:List (List Nat)}
theorem Wr.same(g:zR H H')(h:Wr K C H a Z3):Wr K C H' a Z3:=let⟨d,L,ws,n,e1,e2,e3,e4,e5⟩:=h;⟨d,L,ws,n,g.at e1,g.seq e2,e3,e4,e5⟩
theorem Kf:(wfs L n).lookup ("words":Str)=some (.ref L):=ZW
theorem sj:(wfs L n).lookup ("at":Str)=some (.int n):=(qH (by right)).trans ZW
theorem CQ{m:Str}(h1:m≠"words")(h2:m≠"at"):(wfs L n).lookup m=none:=(qH h1).trans ((qH h2).trans rfl)
theorem AB:JZ "at" (.int k) (wfs L n)=wfs L k:=by
 unfold wfs;rw[zf (by right),Bd]
theorem SB.tup{xs:List V}{p:Addr}(s:SB a H H')(w:Wr K C H a Z3)(h:H p=some (.tup xs)):H' p=some (.tup xs):=by
 obtain⟨d,L,ws,n,e1,_⟩:=w;exact s p _ (λz=>by subst z;rw[e1]at h;cases h) h
theorem SB.lst{xs:List V}{p:Addr}(s:SB a H H')(w:Wr K C H a Z3)(h:H p=some (.lst xs)):H' p=some (.lst xs):=by
 obtain⟨d,L,ws,n,e1,_⟩:=w;exact s p _ (λz=>by subst z;rw[e1]at h;cases h) h
theorem SB.trans{F:Hp}(s:SB a H H')(t:SB a H' F):SB a H F:=λb o n e=>t b o n (s b o n e)
theorem SB.of(g:zR H H'):SB a H H':=λb o _ e=>g _ _ e
end
def Cn:R2:=λx y H Q=>y=.non/\Q (.bl (!decide (x=.non))) H
theorem Kp:OpR X (compareOp .IsNot) Cn:=C7
variable{Q:VK}
theorem oT{i:Int}(q:Q (.bl true) H):Cn (.int i) .non H Q:=⟨rfl,by rw[decide_eq_false (λz=>nomatch z)];exact q⟩
section
variable{X:Cx}{tg:Expr}
end
section
variable{σ:St}{H:Hp}{Q:VK}{D:Z0}{K:W.Frag}
def Hv:R2:=λx y H Q=>∃i j,x=.str i/\y=.str j/\Q (.bl (decide (i.cps.toList<j.cps.toList))) H
def ltT(a b:List Nat):Bool:=decide ((T a).cps.toList<(T b).cps.toList)
theorem Gc{b:List Nat}(q:Q (.bl (ltT a b)) H):Hv (.str (T a)) (.str (T b)) H Q:=⟨_,_,rfl,rfl,q⟩
theorem FW:OpR X (compareOp .Lt) Hv:=nV
end
def KS(z:Nat->Str)(i j:Nat):Bool:=decide (((z i).length:Int)<((z j).length:Int))
def sh(z:Nat->Str)(j:Nat):Nat:=argBest (KS z) j
theorem mx(z:Nat->Str)(j:Nat):sh z (j+1)=if KS z (j+1) (sh z j)=true then j+1 else sh z j:=rfl
section
variable{prog:Program}{w:World}{A:Around}{R:Result ->Shared ->Prop}{I:Addr}{fp wr:List Addr}{n:Nat}{z:Nat ->Str}{St:Nat ->Heap ->Prop}
theorem eR(hz:∀i,(z i).length<=sizeLine)(W:Walks prog w A.in1 I fp wr n (λi v=>∃t,v=.str (z i) t) St)(S:Addr)(out:S∉fp):
  ∀(lft j:Nat)(s:Shared)(x y:Value)(c:Nat),n=j+1+lft->St (j+1) s.heap->(∃t,x=.str (z (sh z j)) t)->(∃u,y=.int (z (sh z j)).length u) ->
   s.heap.get? S=some { cls:=.type "list",dict:=none,data:=.seq #[x,y] c,slots:=#[] } ->
   (∀v h tk,(∃t,v=.str (z (sh z (n-1))) t)->(∀b o,b∉wr->b≠S->s.heap.get? b=some o->h.get? b=some o)->R (.ok (.ret v)) { s with heap:=h,toks:=tk }) ->
   codeAny (model prog w) A (.builtin "min.loop" ⟨[.ref I,.builtin "len",.ref S],[]⟩) R s:=by
 have apart:S∉wr:=λq=>out (W.sub _ q);have nm:(toString "min"++toString ".loop":String)= "min.loop":=by decide
 intro lft;induction lft with
 |zero=>
  intro j s x y c en st bx hy at_ fin;have en':n=j+1:=en;subst en';refine codeAny_builtin F.entry_min_loop ?_;rw[Around.under_plainId F.plain_min_loop _];refine(show wpAny (model prog w) A.in1 (seqItems? (.ref S)>>= _) _ _ s from wpAny_bind (wpAny_seqItems at_ rfl ?_));refine(show wpAny (model prog w) A.in1 (tryCatch (pyNext (.ref I)) _ >>= _) _ _ s from wpAny_bind (wpAny_tryCatch (W.done s _ _ st λh1 tk keep=>?_)));have at1:=keep S _ apart at_;refine(show wpAny (model prog w) A.in1 (updateSeq S (λ_=>#[])>>= _) _ _ _ from wpAny_bind (wpAny_updateSeq at1 rfl (wpAny_bind (wpAny_letGo (wpAny_pure ?_)))));exact fin x _ tk bx λb o nb ns e=>(Heap.get?_update_other _ _ (λq=>ns q.symm)).trans (keep b o nb e)
 |succ lft ih=>
  intro j s x y c en st bx hy at_ fin;refine codeAny_builtin F.entry_min_loop ?_;rw[Around.under_plainId F.plain_min_loop _];refine(show wpAny (model prog w) A.in1 (seqItems? (.ref S)>>= _) _ _ s from wpAny_bind (wpAny_seqItems at_ rfl ?_));refine(show wpAny (model prog w) A.in1 (tryCatch (pyNext (.ref I)) _ >>= _) _ _ s from wpAny_bind (wpAny_tryCatch (W.item (j+1) s _ _ (by omega) st λv h1 tk hv st1 keep=>?_)));obtain⟨t,rfl⟩:=hv;have at1:=keep S _ apart at_;have l63:=Y4;have lz:=hz (j+1);refine(show wpAny (model prog w) A.in1 (tryCatch (holding [Value.str (z (j+1)) t] (call (.builtin "len") [Value.str (z (j+1)) t])) _ >>= _) _ _ _ from wpAny_bind (wpAny_tryCatch (wpAny_holding (len_str (by omega) ?_))));refine(show wpAny (model prog w) A.in1 (tryCatch (holding _ (richCompare .Lt _ y >>= _)) _ >>= _) _ _ _ from wpAny_bind (wpAny_tryCatch (wpAny_holding (wpAny_bind
   (CmpOf.ints_lt (P:=λi v=>∃u,v=.int ((z i).length:Int) u) (λi=>((z i).length:Int)) (λ_ _ q=>q) (j+1) (sh z j) _ y _ _ _ ⟨_,rfl⟩ hy ?_)))))
  refine wpAny_bind (wpAny_holding (wpAny_truthy_bool ?_));refine wpAny_bind (wpAny_letGo (wpAny_pure ?_));have stp:=mx z j;cases hb:decide (((z (j+1)).length:Int)<((z (sh z j)).length:Int))with
  |true=>
   rw[if_pos (show KS z (j+1) (sh z j)=true from hb)]at stp;rw[if_pos hb];refine wpAny_bind ?_;refine wpAny_updateSeq at1 rfl (wpAny_bind (wpAny_letGo ?_));rw[nm];refine wpAny_pure ⟨plainId_quiet F.plain_min_loop _,ih (j+1) _ _ _ _ (by omega) (W.frame _ _ _ st1 λb hb' o e=>?_) ⟨t,by rw[stp]⟩ ⟨_,by rw[stp]⟩ (Heap.get?_update_self _ at1 rfl) λv' h2 tk' pv keep'=>?_⟩
   .exact(Heap.get?_update_other _ _ (λq:S=b=>out (q▸hb'))).trans e
   .exact fin v' h2 tk' pv λb o nb ns e=>keep' b o nb ns ((Heap.get?_update_other _ _ (λq=>ns q.symm)).trans (keep b o nb e))
  |false=>
   rw[if_neg (show ¬KS z (j+1) (sh z j)=true from λq=>by rw[show KS z (j+1) (sh z j)=false from hb]at q;cases q)]at stp;rw[if_neg (λq=>Bool.noConfusion (hb.symm.trans q))];refine wpAny_bind (wpAny_letGo ?_);rw[nm];refine wpAny_pure ⟨plainId_quiet F.plain_min_loop _,ih (j+1) _ x y c (by omega) st1 (by rw[stp];exact bx) (by rw[stp];exact hy) at1 λv' h2 tk' pv keep'=>?_⟩;exact fin v' h2 tk' pv λb o nb ns e=>keep' b o nb ns (keep b o nb e)
theorem aQ(hz:∀i,(z i).length<=sizeLine)(W:Walks prog w A.in1 I fp wr n (λi v=>∃t,v=.str (z i) t) St)(S:Addr)(out:S∉fp)(hn:0<n)(st:St 0 s.heap)
  (at_:s.heap.get? S=some { cls:=.type "list",dict:=none,data:=.seq #[] c,slots:=#[] })
  (fin:∀v h tk,(∃t,v=.str (z (sh z (n-1))) t)->(∀b o,b∉wr->b≠S->s.heap.get? b=some o->h.get? b=some o)->R (.ok (.ret v)) { s with heap:=h,toks:=tk }):
  codeAny (model prog w) A (.builtin "min.loop" ⟨[.ref I,.builtin "len",.ref S],[]⟩) R s:=by
 have apart:S∉wr:=λq=>out (W.sub _ q);have nm:(toString "min"++toString ".loop":String)= "min.loop":=by decide
 refine codeAny_builtin F.entry_min_loop ?_;rw[Around.under_plainId F.plain_min_loop _];refine(show wpAny (model prog w) A.in1 (seqItems? (.ref S)>>= _) _ _ s from wpAny_bind (wpAny_seqItems at_ rfl ?_));refine(show wpAny (model prog w) A.in1 (tryCatch (pyNext (.ref I)) _ >>= _) _ _ s from wpAny_bind (wpAny_tryCatch (W.item 0 s _ _ hn st λv h1 tk hv st1 keep=>?_)));obtain⟨t,rfl⟩:=hv;have at1:=keep S _ apart at_;have l63:=Y4;have lz:=hz 0;refine(show wpAny (model prog w) A.in1 (tryCatch (holding [Value.str (z 0) t] (call (.builtin "len") [Value.str (z 0) t])) _ >>= _) _ _ _ from wpAny_bind (wpAny_tryCatch (wpAny_holding (len_str (by omega) ?_))));refine wpAny_bind ?_;refine wpAny_updateSeq at1 rfl ?_;rw[nm];refine wpAny_pure ⟨plainId_quiet F.plain_min_loop _,eR hz W S out (n-1) 0 _ _ _ _ (by omega) (W.frame _ _ _ st1 λb hb' o e=>?_) ⟨t,rfl⟩ ⟨_,rfl⟩ (Heap.get?_update_self _ at1 rfl) λv' h2 tk' pv keep'=>?_⟩
 .exact(Heap.get?_update_other _ _ (λq:S=b=>out (q▸hb'))).trans e
 .exact fin v' h2 tk' pv λb o nb ns e=>keep' b o nb ns ((Heap.get?_update_other _ _ (λq=>ns q.symm)).trans (keep b o nb e))
end
section
variable{prog:Program}{w:World}{A:Around}{E:Value ->Shared ->Prop}{s:Shared}
theorem ez {x:Value} {Q:Value->Shared->Prop}
  (h:wpAny (model prog w) A.in1 (pyIter x) (fun it s2=>∃ (I:Addr) (fp wr:List Addr) (n:Nat) (z:Nat->Str) (St:Nat->Heap->Prop),it = .ref I/\(∀ i,(z i).length<=sizeLine)/\Walks prog w A.in1 I fp wr n (fun i v=>∃ t,v = .str (z i) t) St/\St 0 s2.heap/\(∀ b ∈ fp,b < s2.heap.objs.size)/\0 < n /\
   ∀ v h' tk,(∃ t,v = .str (z (sh z (n - 1))) t)->(∀ b o,b ∉ wr->s2.heap.get? b=some o->h'.get? b=some o)->Q v { s2 with heap:=h',toks:=tk }) E s) :
  wpAny (model prog w) A (call (.builtin "min") [x] [("key", .builtin "len")]) Q E s:=by
 have nm:(toString "min" ++ toString ".loop" : String) = "min.loop" := by decide
 have fits:argsOk "min" ⟨[x],[("key", .builtin "len")]⟩:=by unfold argsOk;kernel_rfl
 have bound:Builtin.Builtins.bindParams "min" ["key", "default"] 0 ⟨[],[("key", Value.builtin "len")]⟩=pure [some (.builtin "len"),none]:=rfl
 have body:wpAny (model prog w) A.in1 (Builtin.«min» ⟨[x],[("key", .builtin "len")]⟩) (fun fin s'=>match fin with
   | .done f=>(match (Except.ok f:Result) with | .ok (.ret v)=>Q v s' | .ok _=>False | .error e=>E e s')
   | .again c'=>c'.quiet=true/\codeAny (model prog w) A c' (fun r s'=>match r with | .ok (.ret v)=>Q v s' | .ok _=>False | .error e=>E e s') s') E s:=by
  refine (show wpAny (model prog w) A.in1 (Builtin.Builtins.bindParams "min" ["key", "default"] 0 ⟨[],[("key", Value.builtin "len")]⟩ >>= _) _ _ s from wpAny_bind (wpAny_of_eq bound ?_))
  refine wpAny_bind (wpAny_pure (wpAny_bind (wpAny_mono h (fun it s2 g=>?_) fun _ _ e=>e)))
  obtain ⟨I,fp,wr,n,z,St,rfl,hz,W,st,low,hn,fin⟩:=g
  refine wpAny_bind (wpAny_newObj_type ?_)
  have out:s2.heap.objs.size ∉ fp:=fun q=>lt_irrefl _ (low _ q)
  rw [nm]
  refine wpAny_pure ⟨plainId_quiet F.plain_min_loop _,aQ hz W _ out hn (W.frame _ _ _ st fun b _ o e=>Heap.get?_push_of_some _ e) (Heap.get?_push_size _ rfl) fun v h' tk pv keep=>?_⟩
  exact fin v h' tk pv fun b o nb e=>keep b o nb (ne_of_lt (Heap.lt_size e)) (Heap.get?_push_of_some _ e)
 refine wpAny_call (codeAny_call_builtin F.plain_min F.entry_min ?_)
 simp only [checkBuiltinCall,F.kind_min]
 cases hs:Manifest.signature? "min" with
 | none=>exact wpAny_pure body
 | some sig =>
  have f2:Bind.checkArgs "min" sig ⟨[x],[("key", .builtin "len")]⟩=pure ():=by simpa only [argsOk,hs] using fits
  simp only [f2]
  exact wpAny_pure body
end
theorem lA(z:Nat->Str):∀k,sh z k<=k/\∀i,i<=k->(z (sh z k)).length<=(z i).length
 |0=>⟨Nat.le_refl _,λi hi=>by rw[show i=0 by omega];exact Nat.le_refl _⟩
 |k+1=>by
  obtain⟨h1,h2⟩:=lA z k;rw[mx];unfold KS;split
  .rename_i hc;have hc':=of_decide_eq_true hc;refine⟨Nat.le_refl _,λi hi=>?_⟩;rcases lt_or_ge i (k+1)with q|q
   .have:=h2 i (by omega);omega
   .rw[show i=k+1 by omega];exact Nat.le_refl _
  .rename_i hc;have hc':¬(((z (k+1)).length:Int)<((z (sh z k)).length:Int)):=λq=>hc (decide_eq_true q);refine⟨by omega,λi hi=>?_⟩;rcases lt_or_ge i (k+1)with q|q
   .exact h2 i (by omega)
   .rw[show i=k+1 by omega];omega
theorem fh{prog:Program}{I:Addr}{fp wr:List Addr}{P P':Nat->Value->Prop}{St:Nat->Heap->Prop}(W:Walks prog w A I fp wr n P St)(imp:∀i v,P i v->P' i v):Walks prog w A I fp wr n P' St where
 sub:=W.sub
 frame:=W.frame
 item:=λi s Q E hi st hQ=>W.item i s Q E hi st λv h tk hv=>hQ v h tk (imp i v hv)
 done:=W.done
 self:=W.self
theorem V7:∀{ts:List (List Nat)}{its:List Value},qP (tsV ts) its->∀i v,its[i]?=some v->∃t,v=Value.str (T (ts.getD i [])) t
 |[],_,.nil,i,v,e=>by simp at e
 |_::_,_,.cons r rr,0,v,e=>by
  obtain⟨t,rfl⟩:=r;simp at e;exact⟨t,e.symm⟩
 |_::ts,_,.cons r rr,i+1,v,e=>by
  have e':_=some v:=e;rw[List.getElem?_cons_succ]at e';obtain⟨t,h⟩:=V7 rr i v e';exact⟨t,by rw[List.getD_cons_succ];exact h⟩
def At(K:W.Frag):V->Hp->VK->Prop:=λx H Q=>∃p ts,x=.ref p/\SqL K H p (tsV ts)/\ts≠[]/\(∀t∈ts,t.length<=1000)/\∀t,t∈ts->(∀u∈ts,t.length<=u.length)->Q (.str (T t)) H
section
variable{X:Cx}
theorem lW{a:Expr}{ta:TA}{kp:Pos}(hc:X.calm=true)(hg:Gl X "min")(hm:X.mg "min"=none)(hg2:Gl X "len")(hm2:X.mg "len"=none)(ha:PA X [a] ta)
  (he:backTo pos (starEach [a] X.env)=(false,eval a X.env)::backTo pos (starEach [] X.env):=by rfl) (hpl:(backTo pos (starEach [a] X.env)).any (·.1)=false:=by rfl):PE X (.Call (.Name "min" p) [a] [⟨some "key",.Name "len" p2,kp⟩] pos) (λσ H Q=>ta σ H λvs H1=>∃x,vs=[x]/\At X.K x H1 Q):=by
 intro pins s σ H Q I h;refine wpAny_Call_Name_kw (Yh I hg hm (u:=.builtin "min") rfl ?_);refine PyProof.Rows.callWith_kw (thn (ha pos pins s σ H _ I h) λus s1 zq=>?_) he hpl;obtain⟨vs,H1,I1,r1,x,ev,q1⟩:=zq;refine PyProof.Rows.kws_cons (Yh I1 hg2 hm2 (u:=.builtin "len") rfl (PyProof.Rows.kws_nil ?_));subst ev;obtain⟨u,rfl,rx⟩:=YK r1;obtain⟨pp,ts,rfl,hq,hne,hl,q⟩:=q1;cases rx;obtain⟨its,rv,pl,hz⟩:=I1.list hq;have ln:its.length=ts.length:=by have:=rv.length;rw[show(tsV ts).length=ts.length from length_map _]at this;omega
 have pos0:0<ts.length:=List.length_pos_iff.mpr hne;refine ez (wpAny_pyIter_list pl.isList ?_);have nI:pp≠s1.heap.objs.size:=λe=>by
  obtain⟨o,n,g,_⟩:=pl;have:=Heap.lt_size g;rw[e]at this;exact lt_irrefl _ this
 have val:∀i v,its.toArray[i]?=some v->∃t,v=Value.str (T (ts.getD i [])) t:=λi v e=>V7 rv i v (by rw[<- List.getElem?_toArray];exact e);have W:=fh (P':=λi v=>∃t,v=Value.str (T (ts.getD i [])) t) (Walks.list (prog:=X.prog) (w:=X.w) (A:=X.A.in1) (I1.ok.hd hc) s1.heap.objs.size pp nI its.toArray) val;have szs:its.toArray.size=ts.length:=by simp[ln]
 have long:∀i,(T (ts.getD i [])).length<=sizeLine:=λi=>by
  refine le_trans (show(ts.getD i []).length<=1000 from ?_) (by decide);rcases lt_or_ge i ts.length with k|k
  .rw[List.getD_eq_getElem?_getD,getElem?_eq_getElem k];exact hl _ (List.getElem_mem k)
  .rw[List.getD_eq_getElem?_getD,List.getElem?_eq_none k];exact Nat.zero_le _
 refine⟨_,_,_,_,λi=>T (ts.getD i []),_,rfl,long,W,⟨⟨_,Heap.get?_push_size _ rfl,rfl,rfl⟩,?_⟩,λb hb=>?_,by rw[szs];exact pos0,λv h' tk pv keep=>?_⟩
 .obtain⟨o,n,g,r⟩:=pl.isList;exact⟨o,Heap.get?_push_of_some _ n,g,r⟩
 .have lt:b<s1.heap.objs.size+1:=by
   rcases List.mem_cons.mp hb with e|e
   .rw[e];exact Nat.lt_succ_self _
   .rw[List.mem_singleton.mp e];obtain⟨o,g,_⟩:=pl.isList;exact Nat.lt_succ_of_lt (Heap.lt_size g)
  exact Nat.lt_of_lt_of_le lt (Nat.le_of_eq (Array.size_push _).symm)
 .obtain⟨t,rfl⟩:=pv;obtain⟨c1,c2⟩:=lA (λi=>T (ts.getD i [])) (its.toArray.size-1);generalize hi:sh (λi=>T (ts.getD i [])) (its.toArray.size-1)=i at c1 c2 ⊢;have il:i<ts.length:=by omega
  have mem:ts.getD i []∈ts:=by rw[List.getD_eq_getElem?_getD,getElem?_eq_getElem il];exact List.getElem_mem il
  refine⟨.str (T (ts.getD i [])),H1,I1.kept (t':=tk) (λb o e=>keep b o (λm=>?_) (Heap.get?_push_of_some _ e)),⟨t,rfl⟩,q _ mem λu hu=>?_⟩
  .rw[List.mem_singleton.mp m]at e;exact lt_irrefl _ (Heap.lt_size e)
  .obtain⟨k,hk,rfl⟩:=List.mem_iff_getElem.mp hu;have:=c2 k (by omega);rw[show ts.getD k []=ts[k]by rw[List.getD_eq_getElem?_getD,getElem?_eq_getElem hk];rfl]at this;exact this
end
def sE(t1 t2:TE):TE:=λσ H Q=>t1 σ H Q\/t2 σ H Q
section
variable{X:Cx}{σ:St}{H:Hp}{Q:VK}{K:W.Frag}{w:World}
variable{t2:TE}
theorem xQ{e:Expr}{t1:TE}(h1:PE X e t1)(h2:PE X e t2):PE X e (sE t1 t2):=λpins s σ H Q I h=>h.elim (h1 pins s σ H Q I) (h2 pins s σ H Q I)
theorem JX{t1:TE}(h:t1 σ H Q):sE t1 t2 σ H Q:=.inl h
theorem kB{t1:TE}(h:t2 σ H Q):sE t1 t2 σ H Q:=.inr h
def KDi(w:World)(K:W.Frag)(d:Addr)(z:Str)(b:Bool):Prop:=(d==sysModules)=false/\∃(es:Array DictEntry)(n:Nat),K.lookup d=some { cls:=.type "dict",data:=.dict es n }/\(∀e,e∈es->∃k,Value.isStrOf k e.key=true/\e.hash=hashStr w k)/\(findBy Value.isStrOf es z).isSome=b
def HN(w:World)(K:W.Frag):R2:=λx y H Q=>∃d z b,x=.str z/\y=.ref d/\KDi w K d z b/\Q (.bl b) H
theorem DW:OpR X (compareOp .In) (HN X.w X.K):=by
 intro pins s σ H x y v u Q I rx ry h;obtain⟨d,z,b,rfl,rfl,⟨lo,es,n,lk,ks,f⟩,q⟩:=h;cases ry;obtain⟨t,rfl⟩:=rx;have ho:=I.kIn d _ lk;exact wpAny_in_of (knd:=PySem.strKind X.prog X.w) (k:=z) (f:=λk=>findBy Value.isStrOf es k) (by simp[PySem.strKind,Value.isStrOf]) lo ⟨_,es,n,ho,⟨rfl,rfl,rfl⟩,rfl,ks,λk=>rfl⟩ ⟨.bl _,H,I.tok _,rfl,by rw[f];exact q⟩
theorem EI{d:Addr}{z:Str}{b:Bool}(h:KDi w K d z b)(q:Q (.bl b) H):HN w K (.str z) (.ref d) H Q:=⟨d,z,b,rfl,rfl,h,q⟩
end
variable{M:Model}
theorem VF{Γ:PySem.Ctx}{t:Sem Fin}{fs:List Frame}{s':Shared}{e:End}(h:Runs M Γ p t fs s e s'):s.toks<=s'.toks:=by
 induction h with
 |done=>exact Nat.le_refl _
 |raise=>exact Nat.le_refl _
 |yield=>exact Nat.le_refl _
 |fresh _ ih=>exact le_trans (Nat.le_succ _) ih
 |call _ _ i1 i2=>exact le_trans i1 i2
 |resumeFresh _ _ _ _ i1 i2=>exact le_trans i1 i2
 |resumeSuspended _ _ _ _ i1 i2=>exact le_trans i1 i2
 |segRet _ _ i1 i2=>exact le_trans i1 i2
 |segGen _ _ i1 i2=>exact le_trans i1 i2
 |segSuspGen _ _ _ _ i1 i2=>exact le_trans i1 i2
 |_=>assumption
theorem BJ{α:Type}{Γ:PySem.Ctx}(n:Nat):∀(t:Sem α)(Q:α->Pos->Shared->Prop)(E:Value->Pos->Shared->Prop)(p:Pos)(s:Shared),n<=s.toks->Sem.wp M Γ t Q E p s->Sem.wp M Γ t (λa p' s'=>Q a p' s'/\n<=s'.toks) (λe p' s'=>E e p' s'/\n<=s'.toks) p s:=by
 intro t;induction t with
 |pure a=>intro Q E p s l h;rw[Sem.wp]at h ⊢;exact⟨h,l⟩
 |raise e=>intro Q E p s l h;rw[Sem.wp]at h ⊢;exact⟨h,l⟩
 |unsupported w=>intro Q E p s l h;rw[Sem.wp]at h;exact h.elim
 |finish e=>intro Q E p s l h;rw[Sem.wp]at h;exact h.elim
 |rule tag k ih=>intro Q E p s l h;rw[Sem.wp]at h ⊢;exact ih _ _ _ _ _ l h
 |«at» pos k ih=>intro Q E p s l h;rw[Sem.wp]at h ⊢;exact ih _ _ _ _ _ l h
 |load a part k ih=>intro Q E p s l h;rw[Sem.wp]at h ⊢;obtain⟨o,e,h⟩:=h;exact⟨o,e,ih _ _ _ _ _ l h⟩
 |update a part f k ih=>intro Q E p s l h;rw[Sem.wp]at h ⊢;exact⟨h.1,ih _ _ _ _ _ l h.2⟩
 |alloc o k ih=>intro Q E p s l h;rw[Sem.wp]at h ⊢;exact ih _ _ _ _ _ l h
 |loadIfAlive a k ih=>intro Q E p s l h;rw[Sem.wp]at h ⊢;exact ih _ _ _ _ _ l h
 |point live k ih=>intro Q E p s l h;rw[Sem.wp]at h ⊢;exact ih _ _ _ _ _ l h
 |register a k ih=>intro Q E p s l h;rw[Sem.wp]at h;exact h.elim
 |fresh k ih=>intro Q E p s l h;rw[Sem.wp]at h ⊢;exact ih _ _ _ _ _ (Nat.le_succ_of_le l) h
 |ask k ih=>intro Q E p s l h;rw[Sem.wp]at h ⊢;exact ih _ _ _ _ _ l h
 |choose src m k ih=>intro Q E p s l h;rw[Sem.wp]at h ⊢;exact⟨h.1,ih _ _ _ _ _ l h.2⟩
 |os req live k ih=>intro Q E p s l h;rw[Sem.wp]at h ⊢;exact ih _ _ _ _ _ l h
 |call c hd g live k ih=>intro Q E p s l h;rw[Sem.wp]at h ⊢;obtain⟨r,s1,hr,h⟩:=h;exact⟨r,s1,hr,ih _ _ _ _ _ (le_trans l (VF hr)) h⟩
 |handled own k ih=>intro Q E p s l h;rw[Sem.wp]at h ⊢;exact ih _ _ _ _ _ l h
 |newGen c k ih=>intro Q E p s l h;rw[Sem.wp]at h ⊢;exact ih _ _ _ _ _ l h
 |genState g k ih=>intro Q E p s l h;rw[Sem.wp]at h ⊢;obtain⟨st,e,h⟩:=h;exact⟨st,e,ih _ _ _ _ _ l h⟩
 |resume g r live k ih=>
  intro Q E p s l h;rw[Sem.wp]at h ⊢;obtain⟨res,s1,hw,h⟩:=h;refine⟨res,s1,hw,ih _ _ _ _ _ (le_trans l ?_) h⟩;unfold Wakes at hw;split at hw
  .exact hw.elim
  .split at hw
   .obtain⟨e1,s2,hr,_,_,rfl⟩:=hw;exact(show s.toks<=s2.toks from VF (s:=s.setGen g .running) hr)
   .rw[hw.2];exact Nat.le_refl _
   .rw[hw.2];exact Nat.le_refl _
  .obtain⟨e1,s2,hr,_,_,rfl⟩:=hw;exact(show s.toks<=s2.toks from VF (s:=s.setGen g .running) hr)
  .rw[hw.2];exact Nat.le_refl _
  .rw[hw.2];exact Nat.le_refl _
 |yield v g live k ih=>intro Q E p s l h;rw[Sem.wp]at h;exact h.elim
 |stack k ih=>intro Q E p s l h;rw[Sem.wp]at h ⊢;exact ih _ _ _ _ _ l h
 |fork c k ih=>intro Q E p s l h;rw[Sem.wp]at h;exact h.elim
 |thread k ih=>intro Q E p s l h;rw[Sem.wp]at h ⊢;exact ih _ _ _ _ _ l h
 |await a take timed live k ih=>intro Q E p s l h;rw[Sem.wp]at h;exact h.elim
theorem fZ{α:Type}{t:Sem α}{Q:α->Shared->Prop}{E:Value->Shared->Prop}(h:wpAny M A t Q E s):wpAny M A t (λa s'=>Q a s'/\s.toks<=s'.toks) (λe s'=>E e s'/\s.toks<=s'.toks) s:=
 λΓ p hΓ=>BJ s.toks t _ _ p s (Nat.le_refl _) (h Γ p hΓ)
section
variable{X:Cx}{CX:CXT}{k:Nat}{f:Addr}{fd:FuncData}{ps:List Str}{sp:Sp}{dvs:List V}{ds:List Value}{E:XK}{x:Str}{p pos:Pos}{e a:Expr}{es:List Expr}{te ta:TE}{t:TA}
def PEp(X:Cx)(e:Expr)(t:TE):Prop:=
 ∀(pins:List (Addr×Obj))(s:Shared)(σ:St)(H:Hp)(Q:VK),Inv X pins σ H s->t σ H Q->wpAny (model X.prog X.w) X.A (eval e X.env) (λv s'=>EP X pins σ Q v s'/\0<s'.toks) X.xe s
def PAp(X:Cx)(es:List Expr)(t:TA):Prop:=
 ∀(pos:Pos)(pins:List (Addr×Obj))(s:Shared)(σ:St)(H:Hp)(Q:List V->Hp->Prop),Inv X pins σ H s->t σ H Q->wpAny (model X.prog X.w) X.A (spliced (backTo pos (starEach es X.env))) (λus s'=>AP X pins σ Q us s'/\0<s'.toks) X.xe s
theorem Dj{op:Operator}{r:R2}{n:Int}(ho:OpR X (binaryOp op) r)(ha:PE X a ta):PEp X (.BinOp a op (.Constant (.int n) j p2) pos) (tOp r ta (tC (.int n))):=by
 intro pins s σ H Q I h;refine wpAny_BinOp (thn (ha pins s σ H _ I h) λv s1 zq=>?_);obtain⟨y,H1,I1,r1,q1⟩:=zq;refine wpAny_Constant_int ?_;have w:=fZ (ho pins { s1 with toks:=s1.toks+1 } σ H1 y (.int n) v (.int n s1.toks) Q (I1.tok _) r1 ⟨_,rfl⟩ q1);exact wpAny_mono w (λu s2⟨g,l⟩=>⟨g,Nat.lt_of_lt_of_le (Nat.succ_pos _) (show s1.toks+1<=s2.toks from l)⟩) λ_ s2 g=>g.1
theorem BZ(ha:PEp X e te)(hs:starEach [e] X.env=[(false,eval e X.env)]:=by rfl):PAp X [e] (jJ te WK):=by
 intro pos pins s σ H Q I h;rw[hs];show wpAny _ _ (spliced ((false,eval e X.env)::backTo pos [])) _ _ s;refine Calls.spliced_cons (thn (ha pins s σ H _ I h) λu s1⟨⟨y,H1,I1,r1,q1⟩,l⟩=>?_);exact Calls.spliced_nil ⟨⟨[y],H1,I1,.cons r1 .nil,q1⟩,l⟩
theorem sS(ha:PE X e te)(hr:PAp X es t)(hs:starEach (e::es) X.env=(false,eval e X.env)::starEach es X.env:=by rfl):PAp X (e::es) (jJ te t):=by
 intro pos pins s σ H Q I h;rw[hs];show wpAny _ _ (spliced ((false,eval e X.env)::backTo pos (starEach es X.env))) _ _ s;refine Calls.spliced_cons (thn (ha pins s σ H _ I h) λu s1 zq=>?_);obtain⟨y,H1,I1,r1,q1⟩:=zq;exact thn (hr pos pins s1 σ H1 _ I1 q1) λus s2⟨⟨ys,H2,I2,r2,q2⟩,l⟩=>⟨⟨y::ys,H2,I2,.cons r1 r2,q2⟩,l⟩
structure WB(P:Program)(w:World)(K:W.Frag)(mg:Str->Option Value)(base:Heap)(CX:CXT)(k:Nat)(f:Addr)(fd:FuncData)(ps:List Str)(sp:Sp):Prop where
 len:∀vs H Q E,sp vs H Q E->vs.length=ps.length
 run:∀(A:Around)(outer:List Env)(s:Shared)(H:Hp)(args:Args)(us:List Value)(vs:List V)(Q:VK)(E:XK),0<s.toks->xP k A->ie P w K mg base A outer s H->BindsTo s fd args (ps.zip us)->qP vs us->sp vs H Q E ->
  codeAny (model P w) A (.call (.ref f) args) (CR CX outer P w H s Q E) s
theorem Cp{pins:List (Addr×Obj)}{us:List Value}{vs:List V}(F:WB X.prog X.w X.K X.mg X.base CX k f fd ps sp)(hr:xP k X.A)(hb:xz X.K fd ps ds)(hd:qP dvs ds)(hx:xU CX X E)
  (I:Inv X pins σ H s) (ht:0<s.toks) (r:qP vs us) (h:sp (vs++dvs) H Q E):wpAny (model X.prog X.w) X.A (call (.ref f) us) (EP X pins σ Q) X.xe s:=by
 have r2:qP (vs++dvs) (us++ds):=r.append hd;have hl:(us++ds).length=ps.length:=by rw[<- r2.length];exact F.len _ _ _ _ h
 refine wpAny_call (codeAny_mono (F.run X.A X.stack s H ⟨us,[]⟩ (us++ds) (vs++dvs) Q E ht hr I.env0 (hb s us I.kIn hl) r2 h) λr s' hq=>?_);cases r with
 |error e=>exact hx pins σ H s e s' I hq
 |ok fl=>
  cases fl with
  |ret u=>exact I.after hq
  |next=>exact False.elim hq
  |brk=>exact False.elim hq
  |cont=>exact False.elim hq
theorem rb(F:WB X.prog X.w X.K X.mg X.base CX k f fd ps sp)(hr:xP k X.A)(hg:Gl X x)(hm:X.mg x=some (.ref f))(hk:W.keepIn X.K (.ref f)=true)(hb:xz X.K fd ps ds)(hd:qP dvs ds)(hx:xU CX X E)
  (ha:PAp X (e::es) t) (hdb:Nd x:=by decide) (he:starEach (e::es) X.env=(false,eval e X.env)::starEach es X.env:=by rfl) (hpl:(backTo pos (starEach es X.env)).any (·.1)=false:=by rfl):
  PE X (.Call (.Name x p) (e::es) [] pos) (JU sp dvs E t):=by
 intro pins s σ H Q I h;refine wpAny_Call_Name_kw (jG I hg hm ?_ hdb);refine W.callWith_K (h₀:=X.base) I.ok.mod.kin hk (thn (ha pos pins s σ H _ I h) λus s1⟨⟨vs,H1,I1,r,q⟩,l⟩=>⟨I1.kIn,?_⟩) he hpl;exact Cp F hr hb hd hx I1 l r q
end
theorem fX{α:Type}{t:Sem α}{Q:α->Shared->Prop}{E:Value->Shared->Prop}(h:wpAny M A t (λa s'=>s.toks<=s'.toks->Q a s') E s):wpAny M A t Q E s:=wpAny_mono (fZ h) (λ_ _ z=>z.1 z.2) λ_ _ z=>z.1
def DE(X:Cx)(st:List Stmt)(t:TS):Prop:=
 ∀(pins:List (Addr×Obj))(s:Shared)(σ:St)(H:Hp)(D:Z0),0<s.toks->Inv X pins σ H s->t D σ H->wpAny (model X.prog X.w) X.A (execs st X.env) (SP X pins D) X.xe s
theorem Er {CX:CXT} {name:Str} {params:Arguments} {scope:Scope} {dV kV doc pm cdv ct oc:Value} {an od:Option Addr}
  (lk:K.lookup f=some ⟨oc,od,.func (W.fnOf name qual params body scope dV kV doc pm an cdv ct),osl⟩) (hcd:W.codeIn K cdv qual=true) (S:zI N ps scope)
  (len : ∀ vs H Q E,sp vs H Q E->vs.length=ps.length)
  (hbody : ∀ (A:Around) (outer:List Env) (s:Shared) (H:Hp) (vs:List V) (Q:VK) (E:XK),xP k (A.deeper (envOfC qual scope s.heap.objs.size f cdv))->sp vs H Q E ->
   ∃ t,DE (Ze CX P w K mg base N qual scope f cdv A outer s H E) body t/\t { nx:=fun _ H'=>Q .non H',rt:=Q } (start N vs) H) :
  WB P w K mg base CX (k+1) f (W.fnOf name qual params body scope dV kV doc pm an cdv ct) ps sp:=by
 refine ⟨len,fun A outer s H args us vs Q E tk0 hr e0 hb r hsp=>?_⟩
 have hl:=len _ _ _ _ hsp
 have KX:K.In s.heap:=e0.mod.kin.keeps fun b o e=>(e0.bs b o e).1
 have lim:s.heap.NoLimit:=e0.mod.nolimit.keeps fun b o e=>(e0.bs b o e).1
 have hkind : ∀ y ∈ ps.zip us,scope.names.lookup y.1=some .local\/(scope.names.lookup y.1=some .cell/\((cellsFrom (s.heap.objs.size+1) scope.names []).lookup y.1).isSome=true):=fun ⟨n,v⟩ hy=>by
  rcases S.par n (List.of_mem_zip hy).1 with q | q
  ·exact .inl q
  ·exact .inr ⟨q,W.cellsFrom_some _ _ _ (.inl q)⟩
 refine codeAny_call_function hr.depth (KX _ _ lk) rfl S.co S.gen rfl (W.codeRec_of KX hcd) (hb _ _ _ _ ?_)
 refine fX (wpAny_newFunctionEnv_cells S.kind hkind fun env he s1 x le=>?_)
 subst he
 refine ⟨lim.keeps x.toInCall.keep,codeAny_func ?_⟩
 obtain ⟨t,ht,hq⟩:=hbody A outer s H vs Q E (hr.deeper _) hsp
 have I:Inv (Ze CX P w K mg base N qual scope f cdv A outer s H E) [] (start N vs) H s1:=aa S hr.hd e0 hl r x
 refine wpAny_mono (ht [] s1 (start N vs) H _ (Nat.lt_of_lt_of_le tk0 le) I hq) (fun fl s' hs=>?_) fun e s' hs=>hs
 have fin : ∀ {σ':St} {H':Hp} {v:V} {u:Value},Inv (Ze CX P w K mg base N qual scope f cdv A outer s H E) [] σ' H' s'->xX v u->Q v H'->CE outer P w H s Q u s':=
  fun {σ' H' v u} J rv q=>⟨v,H',J.os,J.bare,J.base,J.hok,rv,q⟩
 cases fl with
 | ret u =>
  obtain ⟨v,σ',H',J,rv,q⟩:=hs
  exact fin J rv q
 | next =>
  obtain ⟨σ',H',J,q⟩:=hs
  exact fin (v:=V.non) (u:=Value.none) J rfl q
 | brk =>
  obtain ⟨_,_,_,q⟩:=hs
  exact False.elim q
 | cont =>
  obtain ⟨_,_,_,q⟩:=hs
  exact False.elim q
section
variable{X:Cx}{e o:Expr}{te to:TE}{pos p1 p2 apos cpos:Pos}{st:Stmt}{Z3:List Stmt}{t u:TS}
def PEq(X:Cx)(e:Expr)(t:TE):Prop:=
 ∀(pins:List (Addr×Obj))(s:Shared)(σ:St)(H:Hp)(Q:VK),0<s.toks->Inv X pins σ H s->t σ H Q->wpAny (model X.prog X.w) X.A (eval e X.env) (EP X pins σ Q) X.xe s
def PSq(X:Cx)(st:Stmt)(t:TS):Prop:=
 ∀(pins:List (Addr×Obj))(s:Shared)(σ:St)(H:Hp)(D:Z0),0<s.toks->Inv X pins σ H s->t D σ H->wpAny (model X.prog X.w) X.A (exec st X.env) (SP X pins D) X.xe s
theorem mJ(h1:PSq X st t)(h2:PSs X Z3 u):DE X (st::Z3) (xM t u):=by
 intro pins s σ H D l I h;refine wpAny_execs_cons (thn (h1 pins s σ H { D with nx:=u D } l I h) λf s1 q=>?_);cases f with
 |next=>
  obtain⟨σ',H',I',q⟩:=q;exact h2 pins s1 σ' H' D I' q
 |ret v=>exact q
 |brk=>exact q
 |cont=>exact q
theorem CL{i:Nat}{pos':Pos}(hN:X.N.Nodup)(hi:X.N[i]?=some x)(hx:Loc X.env.scope x)(he:PEq X e te)(hs:swapsWith e (some (.Name x pos')) pos.line X.env=pure false:=by rfl)(hf:X.fn x=true\/X.env.scope.names.lookup x=some .local:=by first|exact Or.inl rfl|exact Or.inr rfl):
  PSq X (.Assign [.Name x pos'] e pos) (Bh te (WR i)):=by
 intro pins s σ H D l I h;refine wpAny_Assign_Name (thn (he pins s σ H _ l I h) λv s1 zq=>?_) hs;obtain⟨y,H1,I1,r1,q1⟩:=zq;exact y4 I1 hN hi hx r1 (λs2 I2=>⟨_,H1,I2,q1⟩) hf
def wo(c:Nat)(a:List Nat):List Nat:=a.filter (· != c)
def Ik(c:Nat)(to:TE):TE:=λσ H Q=>to σ H λx H1=>∃a,x=.str (T a)/\a.length<=1000/\Q (.str (T (wo c a))) H1
theorem Go{y z:Str}(hy:y=⟨#[c]⟩)(hz:z=⟨#[]⟩):Txt.replace (T a) y z=T (wo c a):=by
 subst hy hz;have h:=replace_strikes (T a) c;generalize Txt.replace (T a) ⟨#[c]⟩ ⟨#[]⟩=r at h;obtain⟨⟨l⟩⟩:=r;exact congrArg (λl=>(⟨⟨l⟩⟩:Str)) h
theorem mR {y z:Str} {j1 j2:Nat} (hy:y=⟨#[c]⟩) (hz:z=⟨#[]⟩) (ho:PE X o to)
  (hbase:attributeBase o "replace" X.env (eval o X.env)=eval o X.env:=by rfl)
  (hfew:((backTo cpos (starEach [.Constant (.str y) j1 p1,.Constant (.str z) j2 p2] X.env)).all (fun x=>!x.1) && (backToKw cpos (keywordEach [] X.env)).all (fun x=>x.1.isSome)
   && decide ([Expr.Constant (.str y) j1 p1,.Constant (.str z) j2 p2].length+([]:List Keyword).length+(if ([]:List Keyword).isEmpty then 0 else 1) < 30))=true:=by rfl)
  (hline:(apos.endLine == cpos.line)=true:=by rfl) :
  PEq X (.Call (.Attribute o "replace" apos) [.Constant (.str y) j1 p1,.Constant (.str z) j2 p2] [] cpos) (Ik c to):=by
 intro pins s σ H Q l I h
 refine wpAny_Call_method_late hbase hfew hline rfl (fX (thn (ho pins s σ H _ I h) fun v s1 ⟨x,H1,I1,r1,a,ex,la,q1⟩ le=>?_))
 subst ex
 obtain ⟨tk,rfl⟩:=r1
 refine ⟨"str", "str.replace", PySem.F.plainAttrs_str,PySem.F.slot_str_replace,PySem.F.type_str_replace,typeIs_str _ _ _,(fun _ z=>nomatch z),?_⟩
 refine Calls.callWith_builtin rfl (Calls.evalArgs_plain ?_)
 refine (show wpAny _ _ (spliced ((false,eval (.Constant (.str y) j1 p1) X.env)::(false,eval (.Constant (.str z) j2 p2) X.env)::[])) _ _ s1 from Calls.spliced_cons (Calls.Constant_str (Calls.spliced_cons (Calls.Constant_str (Calls.spliced_nil ?_)))))
 have lt:0 < s1.toks:=Nat.lt_of_lt_of_le l le
 refine SC.replace (Nat.ne_of_gt lt) (Nat.succ_ne_zero _) (ne_of_lt (Nat.lt_succ_self _)) (by subst hy hz;exact beq_eq_false_iff_ne.mpr fun e=>absurd (congrArg (fun s:Str=>s.cps.size) e) (fun z=>Nat.noConfusion (show (1:Nat)=0 from z))) (by subst hz;show a.length+(a.length+1)*0<=16777216;omega) fun t' k=>?_
 rw [Go hy hz]
 exact ⟨.str (T (wo c a)),H1,I1.tok _,⟨_,rfl⟩,q1⟩
end
theorem DE.nox{st:List Stmt}{t:TS}(h:DE X.nox st t):DE X st t:=λpins s σ H D l I hw=>
 wpAny_mono (h pins s σ H D l (I.wish _) hw) (λ_ _ q=>q.unwish) λ_ _ z=>False.elim z
theorem Fun.okp (F:Fun K x qual st f fd) (S:zI N ps (zC st)) (len : ∀ vs H Q E,sp vs H Q E->vs.length=ps.length)
  (hbody : ∀ (cdv:Value) (A:Around) (outer:List Env) (s:Shared) (H:Hp) (vs:List V) (Q:VK) (E:XK),xP k (A.deeper (envOfC qual (zC st) s.heap.objs.size f cdv))->sp vs H Q E ->
   ∃ t,DE (Ze CX0 P w K mg base N qual (zC st) f cdv A outer s H E).nox (zp st) t/\t { nx:=fun _ H'=>Q .non H',rt:=Q } (start N vs) H):WB P w K mg base CX0 (k+1) f fd ps sp:=by
 obtain ⟨oc,od,kV,doc,pm,an,cdv,ct,osl,rfl,lk,hcd⟩:=F.ex
 refine Er lk hcd S len fun A outer s H vs Q E hr hsp=>?_
 obtain ⟨t,h,q⟩:=hbody cdv A outer s H vs Q E hr hsp
 exact ⟨t,h.nox,q⟩
def GU(P:Program)(w:World)(K:W.Frag)(mg:Str->Option Value)(base:Heap)(x:Str)(k:Nat)(ps:List Str)(sp:Sp):Prop:=
 ∃(f:Addr)(fd:FuncData),WB P w K mg base CX0 k f fd ps sp/\mg x=some (.ref f)/\W.keepIn K (.ref f)=true/\xz K fd ps []
theorem WB.mono{CX:CXT}(F:WB P w K mg base CX j f fd ps sp)(h:j<=k):
  WB P w K mg base CX k f fd ps sp:=⟨F.len,λA outer s H args us vs Q E l hr=>F.run A outer s H args us vs Q E l (hr.mono h)⟩
variable{es:List Expr}
theorem nJ{e:Expr}{t:TA}(F:GU X.prog X.w X.K X.mg X.base x k ps sp)(hr:xP n X.A)(hg:Gl X x)(ha:PAp X (e::es) t)(hk:k<=n:=by decide)
  (hdb:Nd x:=by decide) (he:starEach (e::es) X.env=(false,eval e X.env)::starEach es X.env:=by rfl) (hpl:(backTo pos (starEach es X.env)).any (·.1)=false:=by rfl):
  PE X (.Call (.Name x p) (e::es) [] pos) (JU sp [] E0 t):=by
 obtain⟨f,fd,G,hm,kp,hb⟩:=F;exact rb G (hr.mono hk) hg hm kp hb .nil zd ha hdb he hpl
def Itk(ks:List Str):It:=⟨λi _=>i<ks.length,λi H v H'=>H'=H/\∃z,ks[i]?=some z/\v=.str z,λi _=>i=ks.length⟩
theorem Jv{d:Addr}{kvs:List (Str×Tok×Value)}(ho:h.get? d=some { cls:=.type "dict",data:=.dict (kvs.map (sJ w)).toArray n })(nd:(kvs.map (·.1)).Nodup):h.DictAt (PySem.strKind P w) d (kvs.map λe=>(e.1,e.2.2)) n:=by
 refine⟨_,_,ho,⟨rfl,rfl,rfl⟩,rfl,?_,Yf kvs,?_⟩
 .intro e he;obtain⟨z,_,rfl⟩:=List.mem_map.mp (show e∈kvs.map (sJ w)from(List.mem_toArray).mp he);exact⟨z.1,by simp[PySem.strKind,Value.isStrOf,sJ],rfl⟩
 .rw[map_map];exact nd
theorem lR{K:PySem.W.Frag}{tg:Expr}{d it:Addr}{kvs:List (Str×Tok×Value)}(lk:K.lookup d=some { cls:=.type "dict",data:=.dict (kvs.map (sJ w)).toArray n })(nd:(kvs.map (·.1)).Nodup)(hne:d≠it):
  CZ P w K tg (Itk (kvs.map (·.1))) [it] it (λi h=>h.IsKeyIter it d i kvs.length n) where
 mem:=by simp
 obj:=λi h st b hb=>by
  have e:b=it:=by simpa using hb
  subst e;obtain⟨o,e,c,dd⟩:=st;exact⟨o,e,λv z=>by rw[dd]at z;cases z⟩
 keep:=λi h h' st k=>st.at λo e=>k it (by simp) o e
 item:=by
  intro X hP hw hK hc i pins s σ H E I hf st hg;subst hP hw hK;obtain⟨f0,f1,f2,f3,f4,f5⟩:=hf it (by simp);have W:=Walks.dictKeys (knd:=PySem.strKind X.prog X.w) (I.ok.hd hc) it d hne (kvs.map λe=>(e.1,e.2.2)) n;rw[length_map]at W;have hi:i<kvs.length:=by have:i<(kvs.map (·.1)).length:=hg;rwa [length_map]at this
  refine W.item i s _ _ hi ⟨st,Jv (I.kIn d _ lk) nd⟩ λv h' tk hv st' kk=>?_;obtain⟨k,x,hx,hkey⟩:=hv;obtain⟨u,rfl⟩:=isStrOf_shape (show Value.isStrOf k v=true from hkey);have I1:Inv X pins σ H { s with heap:=h',toks:=tk }:=I.turned (λb o hb e=>kk b o (by simpa using hb) e) f0 f1 f3 f4 f5;obtain⟨o,e,c1,dd⟩:=id st'.1;refine⟨_,rfl,oX (s:={ s with heap:=h',toks:=tk }) e c1 dd (by decide) ⟨.str k,H,I1,⟨u,rfl⟩,⟨rfl,k,?_,rfl⟩,st'.1,λb hb=>(hf b hb).1⟩⟩;rw[getElem?_map]at hx ⊢;cases hj:kvs[i]? with
  |none=>rw[hj]at hx;cases hx
  |some z=>rw[hj]at hx;cases hx;rfl
 done:=by
  intro X hP hw hK hc i pins s σ H E I hf st hg;subst hP hw hK;obtain⟨f0,f1,f2,f3,f4,f5⟩:=hf it (by simp);have W:=Walks.dictKeys (knd:=PySem.strKind X.prog X.w) (I.ok.hd hc) it d hne (kvs.map λe=>(e.1,e.2.2)) n;rw[length_map]at W;have hi:i=kvs.length:=by have:i=(kvs.map (·.1)).length:=hg;rwa [length_map]at this
  subst hi;exact W.done s _ _ ⟨st,Jv (I.kIn d _ lk) nd⟩ λh' tk kk=>⟨rfl,I.turned (λb o hb e=>kk b o (by simpa using hb) e) f0 f1 f3 f4 f5⟩
 self:=λ_ _ _ _ _ st h=>wpAny_pyIter_keyiter st h
section
variable{X:Cx}{tg:Expr}
def Dx(w:World)(K:W.Frag)(tl:TE):TI:=λσ H R=>tl σ H λx H1=>∃d ks,x=.ref d/\KDs w K d ks/\R (Itk ks) H1
theorem BI{l:Expr}{tl:TE}(hl:PE X l tl):PI X tg l (Dx X.w X.K tl):=by
 intro pins s σ H R I h;refine thn (hl pins s σ H _ I h) λv s1 zq=>?_;obtain⟨x,H1,I1,r1,q1⟩:=zq;obtain⟨d,ks,e,⟨lo,kvs,n,lk,ek,nd,hz⟩,q⟩:=q1;subst e ek;cases r1;have ho:=I1.kIn d _ lk;have hne:d≠s1.heap.objs.size:=λz=>lt_irrefl _ (z▸Heap.lt_size ho);refine wpAny_pyIter_dict (knd:=PySem.strKind X.prog X.w) lo (Jv ho nd) ?_;rw[length_map];refine⟨s1.heap.objs.size,[s1.heap.objs.size],_,_,H1,rfl,I1.kept (t':=s1.toks) λb o e=>Heap.get?_push_of_some _ e,lR lk nd hne,⟨_,Heap.get?_push_size _ rfl,rfl,rfl⟩,λb hb=>?_,q⟩;have e:b=s1.heap.objs.size:=by simpa using hb
 subst e;exact I1.fpOk (Nat.le_refl _) (I1.hok.fresh (Nat.le_refl _))
end
section
variable{σ:St}{H:Hp}{Q:VK}{D:Z0}{K:W.Frag}{w:World}
def E7(w:World)(K:PySem.W.Frag)(g:TG)(tb:TS)(D:Z0)(σ:St)(x:V)(H:Hp):Prop:=∃d ks,x=.ref d/\KDs w K d ks/\∃W:Nat->Nat->St->Hp->Prop,(∃m,W 0 m σ H)/\∀i m σ H,W i m σ H ->
 ((Itk ks).stop i H/\D.nx σ H)\/((Itk ks).go i H/\∃N:St->Hp->Prop,(∀σ' H',N σ' H'->∃m',m'<m/\W (i+1) m' σ' H')/\∀x H',(Itk ks).yld i H x H'->g x σ H' λσ2 H2=>tb { D with nx:=N,ct:=N,bk:=D.nx } σ2 H2)
theorem Da{tl:TE}{g:TG}{tb:TS}(h:tl σ H (E7 w K g tb D σ)):C5 (Dx w K tl) g tb D σ H:=h
theorem Cw{g:TG}{tb:TS}{d:Addr}{ks:List Str}(hk:KDs w K d ks)(Pv:Nat->St->Hp->Prop)(h0:Pv 0 σ H)
  (hs:∀i z σ H,ks[i]?=some z->Pv i σ H->g (.str z) σ H λσ2 H2=>tb { D with nx:=Pv (i+1),ct:=Pv (i+1),bk:=D.nx } σ2 H2) (hd:∀σ H,Pv ks.length σ H->D.nx σ H):E7 w K g tb D σ (.ref d) H:=by
 refine⟨d,ks,rfl,hk,λi m σ H=>i+m=ks.length/\Pv i σ H,⟨ks.length,by omega,h0⟩,?_⟩;rintro i m σ H ⟨hm,hp⟩;rcases lt_or_ge i ks.length with h|h
 .refine .inr ⟨h,Pv (i+1),λσ' H' hp'=>⟨m-1,by omega,by omega,hp'⟩,?_⟩;rintro x H' ⟨rfl,z,hz,rfl⟩;exact hs i z σ _ hz hp
 .have e:i=ks.length:=by omega
  subst e;exact .inl ⟨rfl,hd σ H hp⟩
end
section
variable{X:Cx}{e:Expr}{es:List Expr}{te:TE}{t:TA}{p pos p1:Pos}
def PAq(X:Cx)(es:List Expr)(t:TA):Prop:=
 ∀(pos:Pos)(pins:List (Addr×Obj))(s:Shared)(σ:St)(H:Hp)(Q:List V->Hp->Prop),0<s.toks->Inv X pins σ H s->t σ H Q->wpAny (model X.prog X.w) X.A (spliced (backTo pos (starEach es X.env))) (AP X pins σ Q) X.xe s
theorem fY(ha:PEq X e te)(hr:PA X es t)(hs:starEach (e::es) X.env=(false,eval e X.env)::starEach es X.env:=by rfl):PAq X (e::es) (jJ te t):=by
 intro pos pins s σ H Q l I h;rw[hs];show wpAny _ _ (spliced ((false,eval e X.env)::backTo pos (starEach es X.env))) _ _ s;refine Calls.spliced_cons (thn (ha pins s σ H _ l I h) λu s1 zq=>?_);obtain⟨y,H1,I1,r1,q1⟩:=zq;exact thn (hr pos pins s1 σ H1 _ I1 q1) λus s2⟨ys,H2,I2,r2,q2⟩=>⟨y::ys,H2,I2,.cons r1 r2,q2⟩
theorem rW{y:Str}(hy:y=T l)(hr:PAq X es t)(hs:starEach (.Constant (.str y) j p1::es) X.env=(false,eval (.Constant (.str y) j p1) X.env)::starEach es X.env:=by rfl):PA X (.Constant (.str y) j p1::es) (jJ (tC (.str (T l))) t):=by
 intro pos pins s σ H Q I h;rw[hs];show wpAny _ _ (spliced ((false,eval (.Constant (.str y) j p1) X.env)::backTo pos (starEach es X.env))) _ _ s;refine Calls.spliced_cons (Calls.Constant_str ?_);exact thn (hr pos pins _ σ H _ (Nat.succ_pos _) (I.tok _) h) λus s2⟨ys,H2,I2,r2,q2⟩=>⟨.str (T l)::ys,H2,I2,.cons ⟨s.toks,by rw[hy]⟩ r2,q2⟩
theorem lC(F:Has X.prog X.w X.K X.mg X.base x k ps sp)(hr:xP n X.A)(hg:Gl X x)(ha:PAq X (e::es) t)(hk:k<=n:=by decide)
  (hdb:Nd x:=by decide) (he:starEach (e::es) X.env=(false,eval e X.env)::starEach es X.env:=by rfl) (hpl:(backTo pos (starEach es X.env)).any (·.1)=false:=by rfl):
  PEq X (.Call (.Name x p) (e::es) [] pos) (JU sp [] E0 t):=by
 obtain⟨f,fd,G,hm,kp,hb⟩:=F;intro pins s σ H Q l I h;refine wpAny_Call_Name_kw (jG I hg hm ?_ hdb);refine W.callWith_K (h₀:=X.base) I.ok.mod.kin kp (thn (ha pos pins s σ H _ l I h) λus s1⟨vs,H1,I1,r,q⟩=>⟨I1.kIn,?_⟩) he hpl;exact KM G (hr.mono hk) hb .nil zd I1 r q
end
def Df(K:W.Frag)(x:Str)(st:Stmt)(f:Addr):Prop:=∃(oc:Value)(od:Option Addr)(kV dc pm:Value)(an:Option Addr)(cd ct:Value)(sl:Array (Option Value)),W.nsIn K mainGlobals x=some (some (.ref f)) /\
 K.lookup f=some ⟨oc,od,.func (W.fnOf x x (qM st) (zp st) (zC st) .none kV dc pm an cd ct),sl⟩/\W.codeIn K cd x=true/\W.keepIn K (.ref f)=true
def Dm(K:W.Frag)(q m:Str)(st:Stmt)(dV:Value)(C f:Addr):Prop:=∃(oc:Value)(od:Option Addr)(kV dc pm:Value)(an:Option Addr)(cd ct:Value)(sl:Array (Option Value)),W.findIn K (.ref C) m=some (some (.ref f)) /\
 K.lookup f=some ⟨oc,od,.func (W.fnOf m q (qM st) (zp st) (zC st) dV kV dc pm an cd ct),sl⟩/\W.codeIn K cd q=true/\W.keepIn K (.ref f)=true/\W.isFn K (.ref f)=true
section
variable{K:W.Frag}{x q m:Str}{st:Stmt}{f C t:Addr}{oc dV:Value}{od:Option Addr}{kV dc pm:Value}{an:Option Addr}{cd ct:Value}{sl:Array (Option Value)}
theorem HJ(a:W.nsIn K mainGlobals x=some (some (.ref f)))(l:K.lookup f=some ⟨oc,od,.func (W.fnOf x x (qM st) (zp st) (zC st) .none kV dc pm an cd ct),sl⟩)(c:W.codeIn K cd x=true)(k:W.keepIn K (.ref f)=true):Df K x st f:=⟨oc,od,kV,dc,pm,an,cd,ct,sl,a,l,c,k⟩
theorem C4(a:W.findIn K (.ref C) m=some (some (.ref f)))(l:K.lookup f=some ⟨oc,od,.func (W.fnOf m q (qM st) (zp st) (zC st) dV kV dc pm an cd ct),sl⟩)(c:W.codeIn K cd q=true)(k:W.keepIn K (.ref f)=true)(n:W.isFn K (.ref f)=true):Dm K q m st dV C f:=⟨oc,od,kV,dc,pm,an,cd,ct,sl,a,l,c,k,n⟩
variable{h:Heap}{mg:Str ->Option Value}{P:Program}{w:World}{base:Heap}{k:Nat}{ps:List Str}{sp:Sp}{CX:CXT}
def Gd(P:Program)(w:World)(K:W.Frag)(mg:Str->Option Value)(base:Heap)(CX:CXT)(f:Addr)(k:Nat)(ps:List Str)(sp:Sp):Prop:=∃fd,yX P w K mg base CX k f fd ps sp/\W.keepIn K (.ref f)=true/\W.isFn K (.ref f)=true/\xz K fd ps []
theorem Eh(d:Dm K q m st .none C f)(ok:∀fd,eJ K m q st f fd->yX P w K mg base CX k f fd ps sp)
  (hb:∀(kV dc pm:Value)(an:Option Addr)(cd ct:Value)(us:List Value),us.length=ps.length->bindArgs (W.fnOf m q (qM st) (zp st) (zC st) .none kV dc pm an cd ct) ⟨us,[]⟩=pure (ps.zip us)):Gd P w K mg base CX f k ps sp:=by
 obtain⟨_,_,_,_,_,_,_,_,_,a,l,c,k',n⟩:=d;exact⟨_,ok _ (lZ l c k'),k',n,.all (hb _ _ _ _ _ _)⟩
theorem FO{oc':Value}{od':Option Addr}{n':Nat}(d:Dm K q m st (.ref t) C f)(hl:K.lookup t=some ⟨oc',od',.seq it n',osl⟩)(ok:∀fd,eJ K m q st f fd->yX P w K mg base CX k f fd ps sp)
  (hb:∀(kV dc pm:Value)(an:Option Addr)(cd ct:Value)(us:List Value),us.length=ps.length->∃k,bindArgs (W.fnOf m q (qM st) (zp st) (zC st) (.ref t) kV dc pm an cd ct) ⟨us,[]⟩=seqItems? (.ref t)>>= k/\k (some it)=pure (ps.zip us)):Gd P w K mg base CX f k ps sp:=by
 obtain⟨_,_,_,_,_,_,_,_,_,a,l,c,k',n⟩:=d;exact⟨_,ok _ (lZ l c k'),k',n,hE hl rfl (hb _ _ _ _ _ _)⟩
theorem IS(g:Gd P w K mg base CX f k ps sp)(a:W.findIn K (.ref C) m=some (some (.ref f))):Dp P w K mg base CX C m k ps sp:=let⟨fd,o,kp,fn,b⟩:=g;⟨f,fd,o,⟨a,fn,kp⟩,b⟩
theorem Ia(g:Gd P w K mg base CX f k ps sp)(i1:W.makesIn K C=true)(i2:W.findIn K (.ref C) "__init__"=some (some (.ref f)))(i4:W.keepIn K (.ref C)=true):GH P w K mg base CX C k ps sp:=let⟨fd,o,kp,fn,b⟩:=g;⟨f,fd,o,⟨i1,i2,fn,i4⟩,b⟩
theorem IP(g:Gd P w K mg base CX f k ps sp)(c1:W.specialIn K (.ref C) "__getattribute__"=some (some (.builtin "type.__getattribute__")))(c2:W.readsIn K C (.type "type")=true)(c3:W.findCls K (.ref C) (.type "type") m=some (.val (.ref f))):Fz P w K mg base CX C m k ps sp:=let⟨fd,o,kp,fn,b⟩:=g;⟨f,fd,o,⟨c1,c2,c3,kp⟩,b⟩
end
section
variable{K:W.Frag}{σ:St}{H:Hp}{Q:VK}{is:List Nat}{tt:TT}{te:TE}
theorem jX{a:Addr}{xs:List V}(hx:SqL K H a xs)(hz:xs.length<=sizeLine)(Pv:Nat->List V->Hp->Prop)(h0:Pv 0 [] H)(hl:∀i ys H,i<=xs.length->Pv i ys H->SqL K H a xs/\ys.length<=i)
  (hs:∀i x ys H,xs[i]?=some x->i<xs.length->Pv i ys H->tt (some x::is.map λj=>(σ[j]?).getD none) H λok H2=>if ok=true then te (some x::is.map λj=>(σ[j]?).getD none) H2 λy H3=>NxC xs.length Pv i (ys++[y]) H3 else NxC xs.length Pv i ys H2)
  (hd:∀ys H,Pv xs.length ys H->∀p H',zR H H'->H p=none->H' p=some (.lst ys)->Q (.ref p) H'):lS K is tt te σ Q (.ref a) H:=by
 refine⟨a,rfl,⟨xs,hx⟩,λi m ys H=>m=xs.length-i/\i<=xs.length/\Pv i ys H,⟨xs.length,by simp,Nat.zero_le _,h0⟩,?_⟩;rintro i m ys H ⟨rfl,hi,p⟩;obtain⟨q,ly⟩:=hl i ys H hi p;refine⟨by omega,?_⟩;by_cases hlt:i<xs.length
 .refine .inr ⟨⟨xs,xs[i],q,by simp[hlt]⟩,by omega,λx H' y=>?_⟩;obtain⟨e,y⟩:=y;subst e;exact hs i x ys _ (y xs q) hlt p
 .have e:i=xs.length:=by omega
  subst e;exact .inl ⟨⟨xs,q,Nat.le_refl _⟩,λp' hp=>hd ys H p p' _ (qz hp _) hp zO⟩
end
set_option maxHeartbeats 400000
def tHd(K:W.Frag)(C1 C2:Addr)(ts:TS):Addr->TS:=λC D σ H=>W.exmAny K (.ref C) [.ref C1,.ref C2]=some true/\ts D σ H
section
variable{X:Cx}{c1 c2:Str}{C1 C2':Addr}{ts:TS}{th:Addr ->TS}{p1 p2 tpos hpos:Pos}{kk:Nat}{b₀:Stmt}{suite:List Stmt}{Z3:List ExceptHandler}
theorem rV(g1:Gl X c1)(m1:X.mg c1=some (.ref C1))(g2:Gl X c2)(m2:X.mg c2=some (.ref C2'))(hs:∀y,PSs (X.inExc y) (b₀::suite) ts)
  (d1:Nd c1:=by decide) (d2:Nd c2:=by decide):
  PHs X (.ExceptHandler (some (.Tuple [.Name c1 p1,.Name c2 p2] kk tpos)) none (b₀::suite) hpos::Z3) (tHd X.K C1 C2' ts):=by
 intro pins s σ H D y C B a0 fly I clo h;obtain⟨exm,q⟩:=h;refine wpAny_handleBy_cons (codeAny_handlers_test ?_) (by intro q;cases q);refine wpAny_Tuple (wpAny_items_cons (jG (I.inExc y) g1 m1 (wpAny_items_cons (jG (I.inExc y) g2 m2 (wpAny_items_nil ⟨by size_fits,?_⟩) d2)) d1));have kp:∀b o,s.heap.get? b=some o->(s.heap.push { cls:=.type "tuple",data:=.seq [Value.ref C1,Value.ref C2'].toArray }).get? b=some o:=λ_ _ z=>Heap.get?_push_of_some _ z;have ty2:W.Looks (model X.prog X.w) s.heap (typeOf (.ref y)) (.ref C):=(isx fly).ty;refine(W.exm_tup2 (M:=model X.prog X.w) (I.kIn.keeps kp) (ty2.keeps kp) (Heap.get?_push_size s.heap rfl) exm).here ?_;have up:s.heap.UpToSlots (s.heap.push { cls:=.type "tuple",data:=.seq [Value.ref C1,Value.ref C2'].toArray }):=Heap.UpToSlots.of_keeps kp;have fly3:Heap.FlyingW B (X.env::X.outer) y (.ref C) a0 (s.heap.push { cls:=.type "tuple",data:=.seq [Value.ref C1,Value.ref C2'].toArray }):=by
  obtain⟨f1,f2,f3,oe,vs,t,ot,ts,q1,q2,q3,q4,q5,q6,q7,q8,q9⟩:=fly;exact⟨λb o z=>kp b o (f1 b o z),f2,f3.of_keeps λb o z _=>⟨o,kp b o z,rfl⟩,oe,vs,t,ot,ts,kp _ _ q1,q2,q3,q4,q5,q6,kp _ _ q7,q8,q9⟩
 refine codeAny_handlers_suite (lands_againW fly3 λh3 fly3' sm3=>?_);have I3:=clo h3 fly3'.1 (up.trans sm3);exact wpAny_mono (hs y pins _ σ H D (I3.inExc y) q) (λf s6 sp6=>sp6.outExc I.ok) λ_ _ z=>z.elim
theorem HW{C C2:Addr}(e:W.exmAny K (.ref C) [.ref C1,.ref C2]=some true)(h:ts D σ H):tHd K C1 C2 ts C D σ H:=⟨e,h⟩
end
set_option maxHeartbeats 4000000
section
variable{X:Cx}
theorem XW:∀{us:List Value}{ss:List Str},StrsAre us ss->qP (ss.map V.str) us
 |_,_,.nil=>.nil
 |_,_,.cons n t h=>.cons ⟨t,rfl⟩ (XW h)
theorem KI:∀{us:List Value}{ss:List Str},qP (ss.map V.str) us->StrsAre us ss
 |_,[],.nil=>.nil
 |_,s::ss,.cons ⟨t,e⟩ h=>by subst e;exact .cons s t (KI h)
def gS(K:W.Frag):List V->Hp->VK->Prop:=λxs H Q=>∃(p:Addr)(ss:List Str),xs=[.ref p]/\SqL K H p (ss.map V.str)/\ss.length<64 /\
 ∀(ms:List Str)(q:Addr)(H':Hp),ms.Perm ss->sortedS ms=true->zR H H'->H' q=some (.lst (ms.map V.str))->Q (.ref q) H'
theorem Wo:xa X (.builtin "sorted") (gS X.K):=by
 intro pins s σ H xs us Q I r h;obtain⟨p,ss,rfl,hq,h64,q⟩:=h;obtain⟨u,rfl,rx⟩:=YK r;cases rx;obtain⟨its,r',pl,hz⟩:=I.list hq;have hl:=r'.length;rw[length_map]at hl hz;refine sorted_strs pl.isList (KI r') (by omega) λout ms hi hp hs=>?_;obtain⟨e,he⟩:=sortedAll_at s.heap its out;have hms:ms.length=ss.length:=hp.length_eq;have hf:H (s.heap.objs.size+1)=none:=I.hok.fresh (Nat.le_succ _);refine⟨.ref (s.heap.objs.size+1),upd H (s.heap.objs.size+1) (.lst (ms.map V.str)),I.laid (t':=s.toks) (λ_ _=>sortedAll_old) (Nat.le_succ _) ⟨by rw[length_map,hms];exact hz,out.toList,e,XW hi,?_⟩,rfl,q _ _ _ hp hs (qz hf _) zO⟩;rw[he,Array.toArray_toList]
theorem Fb{ms:List Str}{cs:List (List Nat)}(h:ms.Perm (cs.map T)):∃ds:List (List Nat),ds.Perm cs/\ms=ds.map T:=by
 refine⟨ms.map Lt,?_,?_⟩
 .have:=h.map Lt
  rwa [map_map,show(Lt∘T)=id from funext λl=>YN l,map_id]at this
 .rw[map_map];have hm:∀s∈ms,(T∘Lt) s=s:=λs hs=>by
   obtain⟨c,_,rfl⟩:=List.mem_map.mp (h.mem_iff.mp hs);show T (Lt (T c))=T c;rw[YN]
  conv=>lhs;rw[<- map_id ms]
  exact(List.map_congr_left hm).symm
theorem nL{p:Addr}{cs:List (List Nat)}(h:H p=some (.lst (tsV cs)))(h64:cs.length<64)(q:∀(ds:List (List Nat))(q:Addr)(H':Hp),ds.Perm cs->zR H H'->H' q=some (.lst (tsV ds))->Q (.ref q) H'):gS K [.ref p] H Q:=by
 have e:tsV cs=(cs.map T).map V.str:=by unfold tsV;rw[map_map];rfl
 refine⟨p,cs.map T,rfl,SqL.of (e▸h),by rw[length_map];exact h64,λms q' H' hp _ g e'=>?_⟩;obtain⟨ds,hd,rfl⟩:=Fb hp;exact q ds q' H' hd g (by rw[e'];unfold tsV;rw[map_map];rfl)
end
set_option maxHeartbeats 1000000
section
variable{M:Model}{A:Around}{E:Value ->Shared ->Prop}{s:Shared}{base:Heap}{env:Env}{outer:List Env}{L e:Addr}{Q:Unit ->Shared ->Prop}
theorem iK{cls:Value}(fr:A.frames=some (env::outer))(ef:env.frame=some L)(fly:Heap.FlyingW base (env::outer) e cls a0 s.heap)(c2:C2 s.heap e)
  (k:∀h',Heap.FlyingW base outer e cls a0 h'->C2 h' e->s.heap.UpToSlots h'->Q () { s with heap:=h' }):wpAny M A (leaving env (.ref e)) Q E s:=by
 unfold leaving;refine wpAny_bind (pH fr ef fly c2 λh1 held c1 sm1=>?_);exact mI (s:={ s with heap:=h1 }) held c1 λh2 fl c3 sm2=>k h2 ⟨fl.1,fl.2.1,fl.2.2.1.2.2,fl.2.2.2⟩ c3 (sm1.trans sm2)
end
section
variable{P:Program}{w:World}{K:W.Frag}{mg:Str ->Option Value}{base:Heap}{N:List Str}{qual:Str}{scope:Scope}{f:Addr}{cd:Value}{A:Around}{outer:List Env}{s:Shared}{H:Hp}{E:XK}
theorem gw:xU (WO P w) (Ze (WO P w) P w K mg base N qual scope f cd A outer s H E) E:=by
 intro pins σ H1 s1 e s' I1 fl;obtain⟨x,C,a0,H',B,rfl,hos,hbare,fly,c2,clo,hx1,hx2,q⟩:=fl;refine iK I1.ok.frames rfl fly c2 λh2 fly2 c3 sm=>?_;refine⟨x,C,a0,H',B,rfl,hos.trans I1.os,hbare,fly2,c3,λh3 st sm3=>?_,?_,hx2,q⟩
 .have cl:=clo h3 st (sm.trans sm3);have I3:=I1.call' (s':={ s' with heap:=h3 }) hos cl.1 cl.2 hbare (λb z=>nomatch z);exact⟨I3.base,I3.hok⟩
 .cases z:s.heap.get? x with
  |none=>rfl
  |some o=>
   obtain⟨o',e1⟩:=I1.base.there x o z (λh=>nomatch h);rw[hx1]at e1;cases e1
end
section
variable{X:Cx}{pins0:List (Addr×Obj)}{σc:St}{k n:Nat}{C:Addr}{ps:List Str}{sp:Sp}{E:XK}{x m:Str}{p np pos apos:Pos}{e o:Expr}{es:List Expr}{ta:TE}{t:TA}
theorem Vg {pl:Sem Bool} (F:Dp X.prog X.w X.K X.mg X.base (WO X.prog X.w) C m k ps sp) (c:Cls X.K C) (hr:xP n X.A) (he:PE (X.tr2 pins0 σc E) o ta) (ha:PA (X.tr2 pins0 σc E) (e::es) t) (hk:k<=n:=by decide)
  (hst:starEach (e::es) X.env=(false,eval e X.env)::starEach es X.env:=by rfl) (hpl:(backTo pos (starEach es X.env)).any (·.1)=false:=by rfl)
  (ht:eval (.Call (.Attribute o m apos) (e::es) [] pos) X.env=(do
   let ov <- eval o X.env
   standAt apos.atName
   let (f,first) <- holding [ov] (getMethod ov m pl)
   callWith pos f first (backTo pos (starEach (e::es) X.env)) (backToKw pos (keywordEach [] X.env))):=by rfl) :
  PE (X.tr2 pins0 σc E) (.Call (.Attribute o m apos) (e::es) [] pos) (gj C m sp E σc ta t):=by
 intro pins s σ H Q I h
 obtain ⟨f,fd,G,M,b⟩:=F
 refine W.methodCall_KW (pl:=pl) (thn (he pins s σ H _ I h) fun u s1 zq=>?_) ht
 obtain ⟨x,H1,I1,rx,a,dx,fs,ex,ea,l,q⟩:=zq
 subst ex
 obtain rfl:u=Value.ref a:=rx
 refine J7 I1 ea c M l ?_
 refine W.callWith_K (first:=[.ref a]) (h₀:=X.base) I.ok.mod.kin M.kp (thn (ha pos pins s1 σ H1 _ I1 q) fun us s2 ⟨vs,H2,I2,r,q2⟩=>⟨I2.kIn,?_⟩) hst hpl
 exact gO (us:=.ref a::us) (vs:=.ref a::vs) (G.mono hk) hr b I2 (.cons rfl r) q2.1 q2.2
end
def ExC(x C:Addr)(h:Heap):Prop:=i7 x C h/\C2 h x
theorem C2.keep{h':Heap}{x:Addr}(c:C2 h x)(k:∀o,h.get? x=some o->h'.get? x=some o):C2 h' x:=let⟨o,vs,a,r⟩:=c;⟨o,vs,k o a,r⟩
def Ad(K:W.Frag)(C':Addr)(i:Nat)(tb:St->XK->TS)(ts:Addr->TS):TS:=λD σ H=>∃σc,tb σc (λcls _ H2=>∃C,cls=.ref C/\Exc K C/\W.exmOne K (.ref C) (.ref C')=some true /\
 ∀x,H2 x=none->ts x { nx:=λ_ _=>False,rt:=D.rt } (σc.set i (some (.ref x))) (upd H2 x (.ext (ExC x C)))) D σ H
variable{i:Nat}
theorem tE{cx nx:Str}{np hpos:Pos}{ts:Addr->TS}{C':Addr}{b₀:Stmt}{suite:List Stmt}
  (hex:X.ex=[]) (hst:X.stack=X.env::X.outer) (hfr:X.env.frame=some X.env.locals) (hb:∀pins σc E,PSs (X.tr2 pins σc E) body (tb σc E))
  (hgc:Gl X cx) (hmc:X.mg cx=some (.ref C')) (hN:X.N.Nodup) (hi:X.N[i]?=some nx) (hnx:X.env.scope.names.lookup nx=some .local) (hs:∀y,PSs (X.inExc y) (b₀::suite) (ts y))
  (hdc:Nd cx:=by decide):
  PS X (.Try body [.ExceptHandler (some (.Name cx np)) (some nx) (b₀::suite) hpos] [] [] pos) (Ad X.K C' i tb ts):=by
 intro pins s σ H D I h;obtain⟨σc,h⟩:=h;have hkn:X.env.kindOf nx=some .local:=hnx;refine wpAny_Try_except (wpAny_mono (hb pins σc _ [] s σ H D I.tr2 h) (λf s1 q=>?_) λer s' z=>?_)
 .cases f with
  |next=>exact wpAny_execs_nil q.untr2
  |ret u=>exact q.untr2
  |brk=>exact q.untr2
  |cont=>exact q.untr2
 .obtain⟨H1,s1,I1,fl⟩:=z;obtain⟨y,C,a0,H2,B,rfl,hos,hbare,fly,cc0,clo,hy0,hy2,C0,z0,ex,exm,q⟩:=fl;cases z0;rw[hst]at fly;refine pH (I.ok.frames.trans (congrArg some hst)) hfr fly cc0 λh1 held cc1 sm1=>?_;refine mI (s:={ s' with heap:=h1 }) held cc1 λh2 fly2 cc2 sm2=>?_;have cl2:=clo h2 fly2.1 (sm1.trans sm2);have I2:Inv X pins σc H2 { s' with heap:=h2 }:=I1.call' (s':={ s' with heap:=h2 }) hos cl2.1 cl2.2 hbare (λb z=>nomatch z);have ney:∀{b:Addr}{o:Obj},s1.heap.get? b=some o->b≠y:=λ{b o}e z=>by rw[z,hy0]at e;cases e
  refine wpAny_handleBy_cons (codeAny_handlers_test (jG (I2.inExc y) hgc hmc ?_ hdc)) (by intro q;cases q);refine(W.exm_one (M:=model X.prog X.w) I2.kIn (isx fly2).ty exm).here ?_;refine codeAny_handlers_suite_as (li (s:={ s' with heap:=h2 }) fly2 cc2 λh3 fly3 cc3 sm3=>?_);have cl3:=clo h3 fly3.1 ((sm1.trans sm2).trans sm3);have I3:Inv X pins σc H2 { s' with heap:=h3 }:=I1.call' (s':={ s' with heap:=h3 }) hos cl3.1 cl3.2 hbare (λb z=>nomatch z);have I4:Inv X pins σc (upd H2 y (.ext (ExC y C))) { s' with heap:=h3 }:=by
   refine I3.track2 hy2 (λz=>?_) (λob e=>?_) (λv c e z=>?_) (λp hp z=>?_) ⟨⟨isx fly3,cc3⟩,(isx fly3).imp λ_ z=>z.1,λ_ _ z k=>⟨z.1.keep k,z.2.keep k⟩⟩
   .obtain⟨m,⟨o,_,_,ho,_⟩,_⟩:=I1.loc;exact ney ho z.symm
   .obtain⟨o',e1⟩:=I1.base.there y ob e (by rw[hex];exact λz=>nomatch z);exact ney e1 rfl
   .obtain⟨_,o,ho,_⟩:=I1.cell v c e;exact ney ho z
   .exact ney (I1.pin p hp).1 z
  refine VD I4 hN hi (.inl hnx) (v:=.ref y) rfl (λs5 I5 _=>?_) (.inr hnx);refine wpAny_mono (hs y pins s5 _ _ _ (I5.inExc y) (q y hy2)) (λf s6 sp6=>?_) λ_ _ z=>z.elim;have hp:(X.env.scope.kind == .class||(X.env.scope.kind == .module&&X.env.locals != X.env.globals))=false:=by rw[I.ok.kind];rfl
  cases f with
  |ret u=>
   obtain⟨v,σ6,H6,I6,rv,qv⟩:=sp6;obtain⟨m,hn6,_⟩:=id I6.loc;exact wpAny_nameGoes hkn hn6 hp λh7 m7 hn7 hs7=>⟨v,_,H6,(Inv.outExc I.ok I6).renamed hs7 hn7,rv,qv⟩
  |next=>obtain⟨_,_,_,z⟩:=sp6;exact z.elim
  |brk=>obtain⟨_,_,_,z⟩:=sp6;exact z.elim
  |cont=>obtain⟨_,_,_,z⟩:=sp6;exact z.elim
theorem BV{C':Addr}{ts:Addr->TS}(σc:St)(h:tb σc (λcls _ H2=>∃C,cls=.ref C/\Exc K C/\W.exmOne K (.ref C) (.ref C')=some true /\
 ∀x,H2 x=none->ts x { nx:=λ_ _=>False,rt:=D.rt } (σc.set i (some (.ref x))) (upd H2 x (.ext (ExC x C)))) D σ H):Ad K C' i tb ts D σ H:=⟨σc,h⟩
structure cY(k:Nat)(y:Addr)(A:Around):Prop where
 hd:A.handled=some (.ref y)
 dp:A.depth+3*k+5<recursionLimit
 un:A.units+16*k+200<cLine
variable{y:Addr}
theorem cY.mono(r:cY k y A)(h:j<=k):cY j y A:=⟨r.hd,by have:=r.dp;omega,by have:=r.un;omega⟩
theorem cY.deeper(r:cY (k+1) y A)(env:Env):cY k y (A.deeper env):=
 ⟨r.hd,by have:=r.dp;show A.depth+1+3*k+5<_;omega,by have:=r.un;show A.units+3+16*k+200<_;omega⟩
theorem cY.depth(r:cY k y A):A.depth<recursionLimit:=by have:=r.dp;omega
set_option maxHeartbeats 4000000
set_option maxHeartbeats 1000000
section
variable{X:Cx}{K:W.Frag}{H:Hp}{Q:VK}
def FX(K:W.Frag):List V->Hp->VK->Prop:=λxs H Q=>∃x C c b,xs=[.ref x,c]/\H x=some (.ext (ExC x C))/\Exc K C/\((∃T,c=.ty T)\/∃D,c=.ref D)/\W.kitOne K (.ref C) (DD c)=some b/\Q (.bl b) H
theorem mM(eK:X.K=K):xa X (.builtin "isinstance") (FX K):=by
 subst eK;intro pins s σ H xs us Q I r h;obtain⟨x,C,c,b,rfl,hx,ex,hc,e,q⟩:=h;obtain⟨v,w,rfl,rx,rw'⟩:=nz r;cases rx;have:w=DD c:=by
  rcases hc with⟨T,rfl⟩|⟨D,rfl⟩
  .exact rw'
  .exact rw'
 subst this;exact W.kia_one (E8 ex) I.kIn (I.hok x _ hx).1.1 e (λz=>nomatch z) λtk=>⟨.bl b,H,I.tok _,rfl,q⟩
theorem En{x C:Addr}{c:V}{b:Bool}(hx:H x=some (.ext (ExC x C)))(ex:Exc K C)(hc:(∃T,c=.ty T)\/∃D,c=.ref D)(e:W.kitOne K (.ref C) (DD c)=some b)(q:Q (.bl b) H):FX K [.ref x,c] H Q:=⟨x,C,c,b,rfl,hx,ex,hc,e,q⟩
end
theorem eJ.okX2 (F:eJ K x qual st f fd) (S:zI N ps (zC st)) (len : ∀ vs H Q E,sp vs H Q E->vs.length=ps.length)
  (hbody : ∀ (cdv:Value) (A:Around) (outer:List Env) (s:Shared) (H:Hp) (vs:List V) (Q:VK) (E:XK),xP k (A.deeper (envOfC qual (zC st) s.heap.objs.size f cdv))->sp vs H Q E ->
   nk (Ze (WO P w) P w K mg base N qual (zC st) f cdv A outer s H E) E->xU (WO P w) (Ze (WO P w) P w K mg base N qual (zC st) f cdv A outer s H E) E -> ∃ t,PSs (Ze (WO P w) P w K mg base N qual (zC st) f cdv A outer s H E) (zp st) t/\t { nx:=fun _ H'=>Q .non H',rt:=Q } (start N vs) H):yX P w K mg base (WO P w) (k+1) f fd ps sp:=by
 obtain ⟨oc,od,dV,kV,doc,pm,an,cdv,ct,osl,rfl,lk,hcd⟩:=F.ex
 exact iV lk hcd S len fun A outer s H vs Q E hr hsp=>hbody cdv A outer s H vs Q E hr hsp (fun pins σ H s h' x C args I hm q=>XJ I hm q) gw
theorem n0N{α:Type}{P:List α->Prop}(h:P []):∀us:List α,us.length=0->P us
 |[],_=>h
theorem nSN{α:Type}{P:List α->Prop}(h:∀(a:α)(us:List α),us.length=n->P (a::us)):∀us:List α,us.length=n+1->P us
 |a::us,e=>h a us (Nat.succ.inj e)
section
variable{α:Type}{P:List α ->Prop}
theorem l0N(h:P []):∀us:List α,us.length=0->P us:=n0N h
theorem l1N(h:∀a,P [a]):∀us:List α,us.length=1->P us:=nSN λa=>n0N (h a)
theorem l2N(h:∀a b,P [a,b]):∀us:List α,us.length=2->P us:=nSN λa=>nSN λb=>n0N (h a b)
theorem l3N(h:∀a b c,P [a,b,c]):∀us:List α,us.length=3->P us:=nSN λa=>nSN λb=>nSN λc=>n0N (h a b c)
theorem l4N(h:∀a b c d,P [a,b,c,d]):∀us:List α,us.length=4->P us:=nSN λa=>nSN λb=>nSN λc=>nSN λd=>n0N (h a b c d)
theorem l5N(h:∀a b c d e,P [a,b,c,d,e]):∀us:List α,us.length=5->P us:=nSN λa=>l4N λb c d e=>h a b c d e
theorem l6N(h:∀a b c d e f,P [a,b,c,d,e,f]):∀us:List α,us.length=6->P us:=nSN λa=>l5N λb c d e f=>h a b c d e f
theorem l8N(h:∀a b c d e f g i,P [a,b,c,d,e,f,g,i]):∀us:List α,us.length=8->P us:=nSN λa=>nSN λb=>l6N λc d e f g i=>h a b c d e f g i
theorem Gk(h:∀a b c d e f g i j k,P [a,b,c,d,e,f,g,i,j,k]):∀us:List α,us.length=10->P us:=nSN λa=>nSN λb=>l8N λc d e f g i j k=>h a b c d e f g i j k
theorem HQ(h:∀a b c d e f g i j k l m n,P [a,b,c,d,e,f,g,i,j,k,l,m,n]):∀us:List α,us.length=13->P us:=nSN λa=>nSN λb=>nSN λc=>Gk λd e f g i j k l m n=>h a b c d e f g i j k l m n
end
def Kn(K:W.Frag)(mg:Str->Option Value):Prop:=∃h:Heap,K.In h/\h.Ns mainGlobals mg
def Dfx(K:W.Frag)(x:Str)(st:Stmt):Prop:=∃f,Df K x st f
def si(K:W.Frag)(m:Str)(f:Addr):List Addr->Prop
 |[]=>True
 |C::r=>W.findIn K (.ref C) m=some (some (.ref f))/\si K m f r
theorem si.at{K:W.Frag}{m:Str}{f C:Addr}:∀{l:List Addr},si K m f l->C∈l->W.findIn K (.ref C) m=some (some (.ref f))
 |_::_,h,.head _=>h.1
 |_::_,h,.tail _ k=>si.at h.2 k
theorem in0{α:Type}{a:α}{l:List α}:a∈a::l:=.head _
theorem in1{α:Type}{a b:α}{l:List α}:b∈a::b::l:=.tail _ (.head _)
theorem in2{α:Type}{a b c:α}{l:List α}:c∈a::b::c::l:=.tail _ (.tail _ (.head _))
def Dmx(K:W.Frag)(q m:Str)(st:Stmt)(C:Addr)(Cs:List Addr):Prop:=∃f,Dm K q m st .none C f/\si K m f Cs
def Ddx(K:W.Frag)(q m:Str)(st:Stmt)(C:Addr)(Cs:List Addr)(n:Nat):Prop:=∃(f t:Addr)(oc:Value)(od:Option Addr)(vs:List Value)(nn:Nat)(sl:Array (Option Value)),vs.length=n/\Dm K q m st (.ref t) C f/\K.lookup t=some ⟨oc,od,.seq vs.toArray nn,sl⟩/\si K m f Cs
def Dcx(K:W.Frag)(q m:Str)(st:Stmt)(C:Addr):Prop:=∃f,Dm K q m st .none C f/\W.specialIn K (.ref C) "__getattribute__"=some (some (.builtin "type.__getattribute__"))/\W.readsIn K C (.type "type")=true/\W.findCls K (.ref C) (.type "type") m=some (.val (.ref f))
def MkI(K:W.Frag)(C:Addr):Prop:=W.makesIn K C=true/\W.keepIn K (.ref C)=true
section
variable{K:W.Frag}{x q m:Str}{st:Stmt}{f C t:Addr}{oc dV:Value}{od:Option Addr}{kV dc pm:Value}{an:Option Addr}{cd ct:Value}{sl:Array (Option Value)}{Cs:List Addr}
theorem dfx_mk(a:W.nsIn K mainGlobals x=some (some (.ref f)))(l:K.lookup f=some ⟨oc,od,.func (W.fnOf x x (qM st) (zp st) (zC st) .none kV dc pm an cd ct),sl⟩)(c:W.codeIn K cd x=true)(k:W.keepIn K (.ref f)=true):Dfx K x st:=⟨f,HJ a l c k⟩
theorem dmx_mk(a:W.findIn K (.ref C) m=some (some (.ref f)))(l:K.lookup f=some ⟨oc,od,.func (W.fnOf m q (qM st) (zp st) (zC st) .none kV dc pm an cd ct),sl⟩)(c:W.codeIn K cd q=true)(k:W.keepIn K (.ref f)=true)(n:W.isFn K (.ref f)=true)(i:si K m f Cs):Dmx K q m st C Cs:=⟨f,C4 a l c k n,i⟩
theorem ddx_mk{oc':Value}{od':Option Addr}{nn n':Nat}{sl':Array (Option Value)}(a:W.findIn K (.ref C) m=some (some (.ref f)))(l:K.lookup f=some ⟨oc,od,.func (W.fnOf m q (qM st) (zp st) (zC st) (.ref t) kV dc pm an cd ct),sl⟩)(c:W.codeIn K cd q=true)(k:W.keepIn K (.ref f)=true)(n:W.isFn K (.ref f)=true)
  (d:K.lookup t=some ⟨oc',od',.seq it nn,sl'⟩) (s:it.size=n') (i:si K m f Cs):Ddx K q m st C Cs n':=⟨f,t,oc',od',it.toList,nn,sl',by simpa using s,C4 a l c k n,by simpa using d,i⟩
theorem dcx_mk(a:W.findIn K (.ref C) m=some (some (.ref f)))(l:K.lookup f=some ⟨oc,od,.func (W.fnOf m q (qM st) (zp st) (zC st) .none kV dc pm an cd ct),sl⟩)(c:W.codeIn K cd q=true)(k:W.keepIn K (.ref f)=true)(n:W.isFn K (.ref f)=true)(c1:W.specialIn K (.ref C) "__getattribute__"=some (some (.builtin "type.__getattribute__")))(c2:W.readsIn K C (.type "type")=true)(c3:W.findCls K (.ref C) (.type "type") m=some (.val (.ref f))):Dcx K q m st C:=⟨f,C4 a l c k n,c1,c2,c3⟩
variable{mg:Str ->Option Value}{P:Program}{w:World}{base:Heap}{k:Nat}{ps:List Str}{sp:Sp}{CX:CXT}
theorem u4(z:Kn K mg)(d:Dfx K x st)(hb:∀us:List Value,us.length=ps.length->∀(kV doc pm:Value)(an:Option Addr)(cdv ct:Value),bindArgs (W.fnOf x x (qM st) (zp st) (zC st) .none kV doc pm an cdv ct) ⟨us,[]⟩=pure (ps.zip us))
  (ok:∀fq fd,Fun K x x st fq fd->yX P w K mg base CX k fq fd ps sp):∃(f:Addr)(fd:FuncData),yX P w K mg base CX k f fd ps sp/\mg x=some (.ref f)/\W.keepIn K (.ref f)=true/\xz K fd ps []:=by
 obtain⟨h,X,G⟩:=z;obtain⟨f,_,_,_,_,_,_,_,_,_,a,l,c,k'⟩:=d;have F:=mB l c k';exact⟨f,_,ok _ _ F,W.mg_of X G a,k',F.binds λ_ _ _ _ _ _ us hl=>hb us hl _ _ _ _ _ _⟩
theorem CH(h:Bj P w K mg base x k ps sp):Has P w K mg base x k ps (spc sp):=let⟨f,fd,o,r⟩:=h;⟨f,fd,o.calm,r⟩
def Gx(P:Program)(w:World)(K:W.Frag)(mg:Str->Option Value)(base:Heap)(CX:CXT)(m:Str)(Cs:List Addr)(k:Nat)(ps:List Str)(sp:Sp):Prop:=∃f,Gd P w K mg base CX f k ps sp/\si K m f Cs
theorem Gv(d:Dmx K q m st C Cs)(hb:∀us:List Value,us.length=ps.length->∀(kV dc pm:Value)(an:Option Addr)(cd ct:Value),bindArgs (W.fnOf m q (qM st) (zp st) (zC st) .none kV dc pm an cd ct) ⟨us,[]⟩=pure (ps.zip us))
  (ok:∀fq fd,eJ K m q st fq fd->yX P w K mg base CX k fq fd ps sp):Gx P w K mg base CX m Cs k ps sp:=by
 obtain⟨f,d,i⟩:=d;exact⟨f,Eh d (ok f) λ_ _ _ _ _ _ us hl=>hb us hl _ _ _ _ _ _,i⟩
theorem Ak(d:Ddx K q m st C Cs n)(hb:∀vs:List Value,vs.length=n->∀us:List Value,us.length=ps.length->∀(t:Addr)(kV dc pm:Value)(an:Option Addr)(cd ct:Value),∃k,bindArgs (W.fnOf m q (qM st) (zp st) (zC st) (.ref t) kV dc pm an cd ct) ⟨us,[]⟩=seqItems? (.ref t)>>= k/\k (some vs.toArray)=pure (ps.zip us))
  (ok:∀fq fd,eJ K m q st fq fd->yX P w K mg base CX k fq fd ps sp):Gx P w K mg base CX m Cs k ps sp:=by
 obtain⟨f,t,oc,od,vs,nn,sl,hn,d,hl,i⟩:=d;exact⟨f,FO d hl (ok f) λ_ _ _ _ _ _ us hu=>hb vs hn us hu _ _ _ _ _ _ _,i⟩
theorem ID(d:Dcx K q m st C)(hb:∀us:List Value,us.length=ps.length->∀(kV dc pm:Value)(an:Option Addr)(cd ct:Value),bindArgs (W.fnOf m q (qM st) (zp st) (zC st) .none kV dc pm an cd ct) ⟨us,[]⟩=pure (ps.zip us))
  (ok:∀fq fd,eJ K m q st fq fd->yX P w K mg base CX k fq fd ps sp):Fz P w K mg base CX C m k ps sp:=by
 obtain⟨f,d,c1,c2,c3⟩:=d;exact IP (Eh d (ok f) λ_ _ _ _ _ _ us hl=>hb us hl _ _ _ _ _ _) c1 c2 c3
theorem qw(g:Gx P w K mg base CX m Cs k ps sp)(h:C∈Cs):Dp P w K mg base CX C m k ps sp:=let⟨_,g,i⟩:=g;IS g (i.at h)
theorem Fw(g:Gx P w K mg base CX "__init__" [C] k ps sp)(h:MkI K C):GH P w K mg base CX C k ps sp:=let⟨_,g,i⟩:=g;Ia g h.1 i.1 h.2
end
section
variable{X:Cx}{e e2 e3 e4:Expr}{te te2 te3 te4:TE}
theorem pa1(ha:PE X e te)(h1:starEach [e] X.env=(false,eval e X.env)::starEach [] X.env:=by rfl):PA X [e] (jJ te WK):=zV ha ZS h1
theorem pa2(ha:PE X e te)(hb:PE X e2 te2)(h1:starEach [e,e2] X.env=(false,eval e X.env)::starEach [e2] X.env:=by rfl)(h2:starEach [e2] X.env=(false,eval e2 X.env)::starEach [] X.env:=by rfl):PA X [e,e2] (jJ te (jJ te2 WK)):=zV ha (pa1 hb h2) h1
theorem pa3(ha:PE X e te)(hb:PE X e2 te2)(hc:PE X e3 te3)(h1:starEach [e,e2,e3] X.env=(false,eval e X.env)::starEach [e2,e3] X.env:=by rfl)(h2:starEach [e2,e3] X.env=(false,eval e2 X.env)::starEach [e3] X.env:=by rfl)(h3:starEach [e3] X.env=(false,eval e3 X.env)::starEach [] X.env:=by rfl):PA X [e,e2,e3] (jJ te (jJ te2 (jJ te3 WK))):=zV ha (pa2 hb hc h2 h3) h1
theorem pa4(ha:PE X e te)(hb:PE X e2 te2)(hc:PE X e3 te3)(hd:PE X e4 te4)(h1:starEach [e,e2,e3,e4] X.env=(false,eval e X.env)::starEach [e2,e3,e4] X.env:=by rfl)(h2:starEach [e2,e3,e4] X.env=(false,eval e2 X.env)::starEach [e3,e4] X.env:=by rfl)(h3:starEach [e3,e4] X.env=(false,eval e3 X.env)::starEach [e4] X.env:=by rfl)(h4:starEach [e4] X.env=(false,eval e4 X.env)::starEach [] X.env:=by rfl):PA X [e,e2,e3,e4] (jJ te (jJ te2 (jJ te3 (jJ te4 WK)))):=zV ha (pa3 hb hc hd h2 h3 h4) h1
variable{a b:Expr}{ta tb:TE}{pos p:Pos}{r:R2}
theorem Xb{i j}(hr:IxR X r)(ha:PE X a ta):PE X (.Subscript a (.Constant (.int i) j p) pos) (tOp r ta (tC (.int i))):=rZ hr ha zK λ_ _=>rfl
theorem zc(hr:IxR X r)(ha:PE X a ta)(hb:PE X b tb)(hs:eU b:=by exact λ_ _=>rfl):PE X (.Subscript a b pos) (tOp r ta tb):=rZ hr ha hb hs
theorem zF(i:Nat)(hN:X.N.Nodup)(he:PE X e te)(hi:X.N[i]?=some x:=by rfl)(hx:Loc X.env.scope x:=by exact Or.inl rfl)(hs:swapsWith e (some (.Name x p)) pos.line X.env=pure false:=by rfl)(hf:X.fn x=true\/X.env.scope.names.lookup x=some .local:=by first|exact .inl rfl|exact .inr rfl|assumption):PS X (.Assign [.Name x p] e pos) (Bh te (WR i)):=gZ hN hi hx he hs hf
theorem zh(i:Nat)(hN:X.N.Nodup)(hi:X.N[i]?=some x:=by rfl)(hx:Loc X.env.scope x:=by exact Or.inl rfl)(hf:X.fn x=true\/X.env.scope.names.lookup x=some .local:=by first|exact .inl rfl|exact .inr rfl|assumption):PG X (.Name x pos) (WR i):=lv hN hi hx hf
theorem zX{op:CmpOp}(ho:OpR X (compareOp op) r)(ha:PE X a ta)(hb:PE X b tb)(h:op≠.In:=by decide)(h2:op≠.NotIn:=by decide):PT X (.Compare a [op] [b] pos) (dy (tOp r ta tb)):=Jr ho ha hb (Ae _ h h2)
theorem jT{op:CmpOp}(ho:OpR X (compareOp op) r)(ha:PE X a ta)(hb:PE X b tb)(h:op≠.In:=by decide)(h2:op≠.NotIn:=by decide):PE X (.Compare a [op] [b] pos) (tOp r ta tb):=ki ho ha hb (Ae _ h h2)
theorem zW(l:List Nat){j}(e:x=T l:=by right):PE X (.Constant (.str x) j pos) (tC (.str (T l))):=oI e
theorem zE{t:TA}(F:Has X.prog X.w X.K X.mg X.base x k ps sp)(hr:xP n X.A)(ha:PA X (e::es) t)(hg:Gl X x:=by exact rfl)(hk:k<=n:=by decide)
  (hdb:Nd x:=by decide) (he:starEach (e::es) X.env=(false,eval e X.env)::starEach es X.env:=by rfl) (hpl:(backTo pos (starEach es X.env)).any (·.1)=false:=by rfl):
  PE X (.Call (.Name x p) (e::es) [] pos) (JU sp [] E0 t):=tT F hr hg ha hk hdb he hpl
end
section
inductive Sx where
 |v (i:Nat)
 |c (x:V)
def evx:Sx->St->Option V
 |.v i,σ=>σ[i]?.getD none
 |.c x,_=>some x
theorem Gw(h:evx (.v i) σ=some v):σ[i]?=some (some v):=by
 have h:σ[i]?.getD none=some v:=h;cases e:σ[i]? with
 |none=>rw[e]at h;cases h
 |some o=>rw[e]at h;exact congrArg some h
def tX(x:Sx):TE:=λσ H Q=>∃v,evx x σ=some v/\Q v H
def tS1(x:Sx):TA:=jJ (tX x) WK
def tS2(x y:Sx):TA:=jJ (tX x) (jJ (tX y) WK)
def tS3(x y z:Sx):TA:=jJ (tX x) (jJ (tX y) (jJ (tX z) WK))
def tS4(x y z w:Sx):TA:=jJ (tX x) (jJ (tX y) (jJ (tX z) (jJ (tX w) WK)))
def tO2(r:R2)(x y:Sx):TE:=tOp r (tX x) (tX y)
variable{X:Cx}{e e2 e3 e4 a b:Expr}{x y z w:Sx}{pos p:Pos}{r:R2}
theorem pw(i:Nat){n:Str}(hN:X.N[i]?=some n:=by rfl)(hv:Vis X.env.scope n:=by first|exact Or.inl rfl|exact Or.inr (Or.inl rfl)|exact Or.inr (Or.inr rfl))(hd:Nd n:=by decide)
  (hcd:(n==("__classdict__":Str))=false:=by decide):PE X (.Name n pos) (tX (.v i)):=λpins s σ H Q I h=>by
 obtain⟨v,e,h⟩:=h;exact pv i hN hv hd hcd pins s σ H Q I ⟨v,Gw e,h⟩
theorem pwc(he:PE X e (tC v)):PE X e (tX (.c v)):=λpins s σ H Q I h=>by
 obtain⟨v,e,h⟩:=h;cases e;exact he pins s σ H Q I h
theorem pwi{i j}:PE X (.Constant (.int i) j pos) (tX (.c (.int i))):=pwc zK
theorem pws{n j}:PE X (.Constant (.str n) j pos) (tX (.c (.str n))):=pwc qi
theorem pwb{n j}:PE X (.Constant (.bool n) j pos) (tX (.c (.bl n))):=pwc QK
theorem pwn{j}:PE X (.Constant .none j pos) (tX (.c .non)):=pwc Xo
theorem pwl{n:Str}(l:List Nat){j}(e:n=T l:=by right):PE X (.Constant (.str n) j pos) (tX (.c (.str (T l)))):=pwc (oI e)
theorem sa1(ha:PE X e (tX x))(h1:starEach [e] X.env=(false,eval e X.env)::starEach [] X.env:=by rfl):PA X [e] (tS1 x):=pa1 ha h1
theorem sa2(ha:PE X e (tX x))(hb:PE X e2 (tX y))(h1:starEach [e,e2] X.env=(false,eval e X.env)::starEach [e2] X.env:=by rfl)(h2:starEach [e2] X.env=(false,eval e2 X.env)::starEach [] X.env:=by rfl):PA X [e,e2] (tS2 x y):=pa2 ha hb h1 h2
theorem sa3(ha:PE X e (tX x))(hb:PE X e2 (tX y))(hc:PE X e3 (tX z))(h1:starEach [e,e2,e3] X.env=(false,eval e X.env)::starEach [e2,e3] X.env:=by rfl)(h2:starEach [e2,e3] X.env=(false,eval e2 X.env)::starEach [e3] X.env:=by rfl)(h3:starEach [e3] X.env=(false,eval e3 X.env)::starEach [] X.env:=by rfl):PA X [e,e2,e3] (tS3 x y z):=pa3 ha hb hc h1 h2 h3
theorem sa4(ha:PE X e (tX x))(hb:PE X e2 (tX y))(hc:PE X e3 (tX z))(hd:PE X e4 (tX w))(h1:starEach [e,e2,e3,e4] X.env=(false,eval e X.env)::starEach [e2,e3,e4] X.env:=by rfl)(h2:starEach [e2,e3,e4] X.env=(false,eval e2 X.env)::starEach [e3,e4] X.env:=by rfl)(h3:starEach [e3,e4] X.env=(false,eval e3 X.env)::starEach [e4] X.env:=by rfl)(h4:starEach [e4] X.env=(false,eval e4 X.env)::starEach [] X.env:=by rfl):PA X [e,e2,e3,e4] (tS4 x y z w):=pa4 ha hb hc hd h1 h2 h3 h4
theorem po2{op:Operator}(ho:OpR X (binaryOp op) r)(ha:PE X a (tX x))(hb:PE X b (tX y)):PE X (.BinOp a op b pos) (tO2 r x y):=zU ho ha hb
theorem pt2{op:CmpOp}(ho:OpR X (compareOp op) r)(ha:PE X a (tX x))(hb:PE X b (tX y))(h:op≠.In:=by decide)(h2:op≠.NotIn:=by decide):PT X (.Compare a [op] [b] pos) (dy (tO2 r x y)):=zX ho ha hb h h2
theorem pc2{op:CmpOp}(ho:OpR X (compareOp op) r)(ha:PE X a (tX x))(hb:PE X b (tX y))(h:op≠.In:=by decide)(h2:op≠.NotIn:=by decide):PE X (.Compare a [op] [b] pos) (tO2 r x y):=jT ho ha hb h h2
theorem pi2(hr:IxR X r)(ha:PE X a (tX x))(hb:PE X b (tX y))(hs:eU b:=by exact λ_ _=>rfl):PE X (.Subscript a b pos) (tO2 r x y):=rZ hr ha hb hs
theorem pii{i j}(hr:IxR X r)(ha:PE X a (tX x)):PE X (.Subscript a (.Constant (.int i) j p) pos) (tO2 r x (.c (.int i))):=rZ hr ha pwi λ_ _=>rfl
theorem ixt(K:W.Frag)(h:X.K=K:=by rfl):IxR X (AJ K):=h▸FI
theorem ixl(K:W.Frag)(h:X.K=K:=by rfl):IxR X (Aa K):=h▸A9
theorem slt(K:W.Frag)(h:X.K=K:=by rfl):SlR X (Gj K):=h▸Do
theorem sll(K:W.Frag)(h:X.K=K:=by rfl):SlR X (Gq K):=h▸Bl
theorem oct(K:W.Frag)(h:X.K=K:=by rfl):OpR X (binaryOp .Add) (ix K):=h▸BC
theorem lnN(K:W.Frag)(h:X.K=K:=by rfl):xa X (.builtin "len") (ro K):=h▸oE
theorem jnT(K:W.Frag)(h:X.K=K:=by rfl):MtR X "str.join" (oB K):=h▸tI
theorem pil(K:W.Frag){tg l:Expr}{tl:TE}(hl:PE X l tl)(h:X.K=K:=by rfl):PI X tg l (sI K tl):=h▸Au hl
theorem pgt(K:W.Frag){t:TGs}(hc:X.calm=true)(h:PGs X es t)(hn:(assignEach es X.env).length=n:=by rfl)(hst:(assignEach es X.env).findIdx? (·.1)=none:=by rfl)(hK:X.K=K:=by rfl):PG X (.Tuple es k pos) (Gr K n t):=hK▸Dg hc h hn hst
theorem pbk (K:W.Frag) {T:String} {name:Str} {id:String} {r:V->List V->Hp->VK->Prop} {o:Expr} {to:TE} {t:TA} {apos cpos:Pos} (pa:PlainAttrs T) (slot:Slot T name id) (hty:typeOf (.builtin id)=pure (.type "method_descriptor")) (hm:MtR X id r) (ho:PE X o to) (ha:PA X (e::es) t)
  (hbase:attributeBase o name X.env (eval o X.env)=eval o X.env:=by rfl)
  (hfew:((backTo cpos (starEach (e::es) X.env)).all (fun x=>!x.1) && (backToKw cpos (keywordEach [] X.env)).all (fun x=>x.1.isSome)
   && decide ((e::es).length+([]:List Keyword).length+(if ([]:List Keyword).isEmpty then 0 else 1) < 30))=true:=by rfl)
  (hline:(apos.endLine == cpos.line)=true:=by rfl) (hs:starEach (e::es) X.env=(false,eval e X.env)::starEach es X.env:=by rfl) (hplain:(backTo cpos (starEach es X.env)).any (·.1)=false:=by rfl) (h:X.K=K:=by rfl) :
  PE X (.Call (.Attribute o name apos) (e::es) [] cpos) (tBM K T r to t):=h ▸ HG pa slot hty hm ho ha hbase hfew hline hs hplain
theorem pfv(K:W.Frag){f:Str}{ta:TE}(he:PE X e ta)(hb:attributeBase e f X.env (eval e X.env)=eval e X.env:=by rfl)(h:X.K=K:=by rfl):PE X (.Attribute e f pos) (DG K ta f):=kC h he hb
variable{σ:St}{H:Hp}{Q:VK}{R:List V ->Hp ->Prop}{k l m n:V}{sp:Sp}{dvs:List V}{E:XK}
theorem Ic(e:evx x σ=some k)(f:evx y σ=some l)(h:r k l H Q):tO2 r x y σ H Q:=⟨k,e,l,f,h⟩
theorem IL(e:evx x σ=some k)(h:R [k] H):tS1 x σ H R:=⟨k,e,h⟩
theorem Il(e:evx x σ=some k)(f:evx y σ=some l)(h:R [k,l] H):tS2 x y σ H R:=⟨k,e,l,f,h⟩
theorem IQ(e:evx x σ=some k)(f:evx y σ=some l)(g:evx z σ=some m)(h:R [k,l,m] H):tS3 x y z σ H R:=⟨k,e,l,f,m,g,h⟩
theorem Ip(e:evx x σ=some k)(f:evx y σ=some l)(g:evx z σ=some m)(i:evx w σ=some n)(h:R [k,l,m,n] H):tS4 x y z w σ H R:=⟨k,e,l,f,m,g,n,i,h⟩
theorem Ij(e:evx x σ=some k)(h:sp ([k]++dvs) H Q E):JU sp dvs E (tS1 x) σ H Q:=⟨k,e,h⟩
theorem IF(e:evx x σ=some k)(f:evx y σ=some l)(h:sp ([k,l]++dvs) H Q E):JU sp dvs E (tS2 x y) σ H Q:=⟨k,e,l,f,h⟩
theorem IY(e:evx x σ=some k)(f:evx y σ=some l)(g:evx z σ=some m)(h:sp ([k,l,m]++dvs) H Q E):JU sp dvs E (tS3 x y z) σ H Q:=⟨k,e,l,f,m,g,h⟩
theorem Io{r:List V->Hp->VK->Prop}(e:evx x σ=some k)(h:r [k] H Q):tCB r (tS1 x) σ H Q:=⟨k,e,h⟩
variable{ta tb tc td:TE}
theorem Ib(h:ta σ H λx H1=>R [x] H1):jJ ta WK σ H R:=h
theorem Im(h:ta σ H λx H1=>tb σ H1 λy H2=>R [x,y] H2):jJ ta (jJ tb WK) σ H R:=h
theorem IM(h:ta σ H λx H1=>tb σ H1 λy H2=>tc σ H2 λz H3=>R [x,y,z] H3):jJ ta (jJ tb (jJ tc WK)) σ H R:=h
theorem IB(h:ta σ H λx H1=>tb σ H1 λy H2=>tc σ H2 λz H3=>td σ H3 λw H4=>R [x,y,z,w] H4):jJ ta (jJ tb (jJ tc (jJ td WK))) σ H R:=h
variable{D:Z0}{te:TE}{t t' u:TS}
abbrev Hb(sp:Sp)(N:List Str)(H:Hp)(E:XK)(t:TS):Prop:=∀vs Q,sp vs H Q E->t { nx:=λ_ H'=>Q .non H',rt:=Q } (start N vs) H
abbrev Hd(D:Z0)(σ:St)(H:Hp)(t:TS):Prop:=t D σ H
theorem hD(h:let d:=D;t d σ H):t D σ H:=h
variable{a1:TS}
theorem hg1{P:TS->Prop}(h:let r1:=a1;P r1):P a1:=h
variable{a2:TS}
theorem hg2{P:TS->Prop}(h:let r2:=a2;let r1:=xM a1 r2;P r1):P (xM a1 a2):=h
variable{a3:TS}
theorem hg3{P:TS->Prop}(h:let r3:=a3;let r2:=xM a2 r3;let r1:=xM a1 r2;P r1):P (xM a1 (xM a2 a3)):=h
variable{a4:TS}
theorem hg4{P:TS->Prop}(h:let r4:=a4;let r3:=xM a3 r4;let r2:=xM a2 r3;let r1:=xM a1 r2;P r1):P (xM a1 (xM a2 (xM a3 a4))):=h
variable{a5:TS}
theorem hg5{P:TS->Prop}(h:let r5:=a5;let r4:=xM a4 r5;let r3:=xM a3 r4;let r2:=xM a2 r3;let r1:=xM a1 r2;P r1):P (xM a1 (xM a2 (xM a3 (xM a4 a5)))):=h
theorem hg7{P:TS->Prop}{a6 a7:TS}(h:let r7:=a7;let r6:=xM a6 r7;let r5:=xM a5 r6;let r4:=xM a4 r5;let r3:=xM a3 r4;let r2:=xM a2 r3;let r1:=xM a1 r2;P r1):P (xM a1 (xM a2 (xM a3 (xM a4 (xM a5 (xM a6 a7)))))):=h
theorem Hl{P:TS->Prop}{a6 a7 a8 a9 a10:TS}(h:let r10:=a10;let r9:=xM a9 r10;let r8:=xM a8 r9;let r7:=xM a7 r8;let r6:=xM a6 r7;let r5:=xM a5 r6;let r4:=xM a4 r5;let r3:=xM a3 r4;let r2:=xM a2 r3;let r1:=xM a1 r2;P r1):P (xM a1 (xM a2 (xM a3 (xM a4 (xM a5 (xM a6 (xM a7 (xM a8 (xM a9 a10))))))))):=h
theorem Fp(h:te σ H λx H1=>u D (σ.set i (some x)) H1):xM (Bh te (WR i)) u D σ H:=h
theorem DF(h:te σ H λx H1=>∃k,x=.bl k/\if k=true then t { D with nx:=u D } σ H1 else t' { D with nx:=u D } σ H1):xM (Fv (dy te) t t') u D σ H:=h
theorem G3(h:te σ H λx H1=>∃k,x=.bl k/\if k=true then t D σ H1 else t' D σ H1):Fv (dy te) t t' D σ H:=h
end
section
variable{P:Program}{w:World}{K:W.Frag}{mg:Str ->Option Value}{base:Heap}{x q:Str}{st:Stmt}{N ps:List Str}{k:Nat}{sp:Sp}{C:Addr}{Cs:List Addr}
theorem jZ(z:Kn K mg)(d:Dfx K x st)(S:zI N ps (zC st))(hbody:∀{fq:Addr}{cdv:Value}{A:Around}{outer:List Env}(s:Shared)(H:Hp)(E:XK),xP k (A.deeper (envOfC x (zC st) s.heap.objs.size fq cdv)) ->
   ∃t,PSs (Ze CX0 P w K mg base N x (zC st) fq cdv A outer s H E).nox (zp st) t/\Hb sp N H E t) (len:∀vs H Q E,sp vs H Q E->vs.length=ps.length:=by intro _ _ _ _;k_extra "ln")
  (hb:∀us:List Value,us.length=ps.length->∀(kV doc pm:Value)(an:Option Addr)(cdv ct:Value),bindArgs (W.fnOf x x (qM st) (zp st) (zC st) .none kV doc pm an cdv ct) ⟨us,[]⟩=pure (ps.zip us):=by k_extra "bn"):Has P w K mg base x (k+1) ps sp:=
 u4 z d hb λfq _ F=>F.ok S len λcdv A outer s H vs Q E hr h=>let⟨t,p,k⟩:=hbody s H E hr;⟨t,p,k vs Q h⟩
theorem XD(d:Dmx K q x st C Cs)(S:zI N ps (zC st))(hbody:∀{fq:Addr}{cdv:Value}{A:Around}{outer:List Env}(s:Shared)(H:Hp)(E:XK),xP k (A.deeper (envOfC q (zC st) s.heap.objs.size fq cdv)) ->
   ∃t,PSs (Ze CX0 P w K mg base N q (zC st) fq cdv A outer s H E).nox (zp st) t/\Hb sp N H E t) (len:∀vs H Q E,sp vs H Q E->vs.length=ps.length:=by intro _ _ _ _;k_extra "ln")
  (hb:∀us:List Value,us.length=ps.length->∀(kV dc pm:Value)(an:Option Addr)(cd ct:Value),bindArgs (W.fnOf x q (qM st) (zp st) (zC st) .none kV dc pm an cd ct) ⟨us,[]⟩=pure (ps.zip us):=by k_extra "bn"):Gx P w K mg base CX0 x Cs (k+1) ps sp:=
 Gv d hb λfq _ F=>F.ok S len λcdv A outer s H vs Q E hr h=>let⟨t,p,k⟩:=hbody s H E hr;⟨t,p,k vs Q h⟩
end
end L2
namespace L2
open PySem PySem.W PyProof PyProof.Rows
end L2
set_option maxHeartbeats 4000000
theorem L2.isSp{sp:L2.Sp}{vs:List L2.V}{H:L2.Hp}{Q:L2.VK}{E:L2.XK}(h:sp vs H Q E):sp vs H Q E:=h
abbrev L2.LN:=List Nat
abbrev L2.LL:=List (List Nat)
namespace Pw
open PySem L2
open List (append_assoc append_nil cons_append drop_left filterMap_cons filter_cons filter_cons_of_neg filter_cons_of_pos filter_nil flatten_cons getD_eq_getElem?_getD getElem?_eq_getElem getElem?_map getElem_mem head?_cons length_append length_cons length_drop length_filter_le length_map length_nil length_range length_take map_append map_cons map_nil mem_cons mem_cons_of_mem mem_cons_self mem_filter mem_map mem_of_getElem? mem_of_mem_take nil_append not_mem_nil range_succ take_left take_length take_of_length_le take_succ)
open Nat (add_le_add eq_zero_or_pos le_trans lt_or_ge sub_le zero_le)
open Int (emod_lt_of_pos emod_nonneg eq_ofNat_of_zero_le mul_le_mul natCast_pow pow_succ toNat_natCast)
set_option maxHeartbeats 4000000
def qQQ(_:Prop):=Unit
def qQX(T:Prop):Prop:=T
def qQZ{T:Prop}(_:qQQ T)(_:T):Prop:=T
theorem qQK{T:Prop}{x:qQQ T}{h:T}:qQZ x h:=h
theorem qQV{T:Prop}(h:qQQ T->qQX T):T:=h ()
theorem qQW{T:Prop}{x:qQQ T}{h:T}(_:qQZ x h):qQX T:=h
local macro_rules|`(tactic|classical $t)=>`(tactic|(refine qQV ?_;intro x;simp only[↓qQW (by exact qQK:qQZ x (by $t))]))
example:True:=by
 k_with "ln"=>first|(rintro ⟨h,_⟩;rw [h];rfl)|(rintro ⟨_,h⟩;revert h;k_extra "ln")
 k_with "sc"=>exact ⟨rfl,rfl,rfl,by decide +kernel,rfl,by decide +kernel,by decide +kernel⟩
 k_with "sd"=>first|omega|(unfold Hy;omega)|(unfold CNn;omega)|(unfold CNz;omega)|(unfold Fh GL;omega)|(unfold HH GL;omega)|(unfold Em Fo;first|exact .inl (.inl ⟨by omega,by omega⟩)|exact .inl (.inr ⟨by omega,by omega⟩)|(unfold nG GL;omega))
 k_with "hp"=>first|assumption|(refine zR.at (by assumption) ?_;k_extra "hp")|exact zO
 k_with "sq"=>first|assumption|(refine zR.seq (by assumption) ?_;k_extra "sq")|exact SqL.of (by k_extra "hp")
 k_with "sm"=>first|assumption|exact zR.refl _|(refine zR.trans ?_ (by assumption);k_extra "sm")
 k_with "odd"=>first|assumption|exact .non|exact .bl _|exact .str _|exact .lst (by k_extra "hp")|exact .tup (by k_extra "hp")|exact .dct (by k_extra "hp")|(refine Odd.same ?_ (by assumption);k_extra "odd")
 k_with "tl"=>first|omega|(simp only [YN,length_append,List.length_replicate,length_cons,length_nil,length_take,length_drop];first|(with_reducible refine le_trans (add_le_add (add_le_add (Nat.min_le_right _ _) (Nat.le_refl _)) (sub_le _ _)) ?_;omega)|(with_reducible refine le_trans (sub_le _ _) (le_trans (Nat.min_le_right _ _) ?_);omega)|(with_reducible refine le_trans (sub_le _ _) ?_;omega)|(with_reducible refine le_trans (Nat.min_le_right _ _) ?_;omega)|omega)|(with_unfolding_all decide)
 k_with "asc"=>first|assumption|exact Asc.nil|exact Asc.one (by omega)|exact Asc.app (by k_extra "asc") (by k_extra "asc")|exact Asc.take (by k_extra "asc") _|exact Asc.drop (by k_extra "asc") _|exact Asc.rep (by k_extra "asc") _
 k_with "sqt"=>first|assumption|exact SqT.same (by assumption) (by assumption)|exact SqT.same (SqT.same (by assumption) (by assumption)) (by assumption)|exact SqT.of (by k_extra "hp")
 k_with "fm"=>first|assumption|(refine' zS.same (by assumption) ?_;k_extra "fm")
 k_with "fld"=>first|(exact zS.width (by k_extra "fm"))|(exact zS.fill (by k_extra "fm"))|(exact zS.side (by k_extra "fm"))|(exact zS.strict (by k_extra "fm"))|walk_at "fld2"
 k_with "wk"=>repeat (first|exact Wk.nil|refine Wk.one ?_|refine Wk.any ?_)
 k_with "st"=>(dsimp only [_root_.L2.start,List.map,List.length,List.replicate,List.append,HAppend.hAppend,Append.append,Nat.reduceAdd,Nat.reduceSub];refine hD ?_;intro _)
 k_with "hd"=>first|(refine Hl (P:=Hb _ _ _ _) ?_;intro _ _ _ _ _ _ _ _ _ _)|(refine hg7 (P:=Hb _ _ _ _) ?_;intro _ _ _ _ _ _ _)|(refine hg5 (P:=Hb _ _ _ _) ?_;intro _ _ _ _ _)|(refine hg4 (P:=Hb _ _ _ _) ?_;intro _ _ _ _)|(refine hg3 (P:=Hb _ _ _ _) ?_;intro _ _ _)|(refine hg2 (P:=Hb _ _ _ _) ?_;intro _ _)|(refine hg1 (P:=Hb _ _ _ _) ?_;intro _)
 k_with "hz"=>first|(refine Hl (P:=Hd _ _ _) ?_;intro _ _ _ _ _ _ _ _ _ _)|(refine hg7 (P:=Hd _ _ _) ?_;intro _ _ _ _ _ _ _)|(refine hg5 (P:=Hd _ _ _) ?_;intro _ _ _ _ _)|(refine hg4 (P:=Hd _ _ _) ?_;intro _ _ _ _)|(refine hg3 (P:=Hd _ _ _) ?_;intro _ _ _)|(refine hg2 (P:=Hd _ _ _) ?_;intro _ _)|(refine hg1 (P:=Hd _ _ _) ?_;intro _)
 k_with "bn"=>first|exact l2N (by intros;rfl)|exact l1N (by intros;rfl)|exact l3N (by intros;rfl)|exact l4N (by intros;rfl)|exact l0N (by intros;rfl)|exact l5N (by intros;rfl)|exact l6N (by intros;rfl)|exact l8N (by intros;rfl)|exact Gk (by intros;rfl)|exact HQ (by intros;rfl)
 k_with "wr"=>first|assumption|(refine Wr.same (by assumption) ?_;k_extra "wr")
 trivial
variable{z:Int}
theorem tns{e:Int}(h:0<=z):(e-z).toNat=e.toNat-z.toNat:=by omega
seal PySem.Sem.wp
def top(i:Nat):Stmt:=PySem.Challenge.pw_padwright_k55_whole_told_forms_put.main.body.getD i (.Pass ⟨0,0,0,0⟩)
abbrev XS:Stmt:=top 15
theorem xC:zI ["number","base","text","left"] ["number","base"] (zC XS):=by k_extra "sc"
abbrev YZ:Stmt:=top 16
theorem xr:zI ["text","base","number","sign","worth"] ["text","base"] (zC YZ):=by k_extra "sc"
abbrev Wt:Stmt:=top 19
theorem im:zI ["style","below"] ["style","below"] (zC Wt):=by k_extra "sc"
abbrev fe:Stmt:=top 20
theorem aO:zI ["body","style","below","ends"] ["body","style","below"] (zC fe):=by k_extra "sc"
abbrev KW:Stmt:=top 21
theorem k7:zI ["core","style","below","ends","body"] ["core","style"] (zC KW):=by k_extra "sc"
abbrev jy:Stmt:=top 22
theorem kD:zI ["body"] ["body"] (zC jy):=by k_extra "sc"
abbrev Wq:Stmt:=top 25
theorem iB:zI ["text","size","mark"] ["text","size","mark"] (zC Wq):=by k_extra "sc"
abbrev YQ:Stmt:=top 26
theorem Xt:zI ["text","size","mark","plain"] ["text","size","mark"] (zC YQ):=by k_extra "sc"
abbrev KC:Stmt:=top 27
theorem ky:zI ["text","size","between","parts","end"] ["text","size","between"] (zC KC):=by k_extra "sc"
abbrev dP:Stmt:=top 29
theorem QD:zI ["number","base","places","point","size","mark","text","cut","whole"] ["number","base","places","point","size","mark"] (zC dP):=by k_extra "sc"
abbrev Ye:Stmt:=top 30
theorem yn:zI ["body","base","places","point","size","mark","cut","whole","number"] ["body","base","places","point","size","mark"] (zC Ye):=by k_extra "sc"
abbrev Y5:Stmt:=top 31
theorem Xf:zI ["body","places","point","cut"] ["body","places","point"] (zC Y5):=by k_extra "sc"
abbrev cS:Stmt:=top 33
theorem KR:zI ["length","width","side","lacks"] ["length","width","side"] (zC cS):=by k_extra "sc"
abbrev fo:Stmt:=top 34
theorem aK:zI ["text","width","fill","side","pads"] ["text","width","fill","side"] (zC fo):=by k_extra "sc"
abbrev Zf:Stmt:=top 35
theorem X8:zI ["lead","rest","width","fill"] ["lead","rest","width","fill"] (zC Zf):=by k_extra "sc"
abbrev KL:Stmt:=top 37
theorem yS:zI ["text","width","fill","side","plains","length","ahead","plain"] ["text","width","fill","side"] (zC KL):=by k_extra "sc"
abbrev ke:Stmt:=top 38
theorem Jh:zI ["text","lead","width","fill"] ["text","lead","width","fill"] (zC ke):=by k_extra "sc"
abbrev Zj:Stmt:=zy (top 40) 0
theorem Xw:zI ["self","width","fill","side","strict"] ["self","width","fill","side","strict"] (zC Zj):=by k_extra "sc"
abbrev Vz:Stmt:=zy (top 40) 1
theorem VO:zI ["self","value","core"] ["self","value"] (zC Vz):=by k_extra "sc"
abbrev yl:Stmt:=zy (top 40) 3
theorem Qo:zI ["self","core"] ["self","core"] (zC yl):=by k_extra "sc"
abbrev ZC:Stmt:=zy (top 40) 4
theorem J1:zI ["self"] ["self"] (zC ZC):=by k_extra "sc"
abbrev Qy:Stmt:=zy (top 40) 5
theorem QN:zI ["self","core","lead"] ["self","core"] (zC Qy):=by k_extra "sc"
abbrev Z1:Stmt:=zy (top 40) 6
theorem YD:zI ["self","text"] ["self","text"] (zC Z1):=by k_extra "sc"
abbrev KQ:Stmt:=top 42
theorem fQ:zI ["thing"] ["thing"] (zC KQ):=by k_extra "sc"
abbrev V8:Stmt:=top 43
theorem kq:zI ["base","times","power","turn"] ["base","times"] (zC V8):=by k_extra "sc"
abbrev ZR:Stmt:=top 44
theorem qW:zI ["one","other","greater","lesser","rest"] ["one","other"] (zC ZR):=by k_extra "sc"
abbrev KB:Stmt:=top 46
theorem Qm:zI ["top","bottom","divisor"] ["top","bottom"] (zC KB):=by k_extra "sc"
abbrev JI:Stmt:=top 47
theorem Vr:zI ["thing"] ["thing"] (zC JI):=by k_extra "sc"
abbrev dZ:Stmt:=top 49
theorem kW:zI ["value","base","places","way","top","bottom","below","rest"] ["value","base","places","way"] (zC dZ):=by k_extra "sc"
abbrev WX:Stmt:=top 50
theorem iR:zI ["below","rest","bottom","way"] ["below","rest","bottom","way"] (zC WX):=by k_extra "sc"
abbrev Xh:Stmt:=top 51
theorem Kt:zI ["k","base","places"] ["k","base","places"] (zC Xh):=by k_extra "sc"
abbrev xt:Stmt:=zy (top 53) 0
theorem Zb:zI ["self","figures","places","base","sign","size","mark","point","way","width","fill","side","strict"] ["self","figures","places","base","sign","size","mark","point","way","width","fill","side","strict"] (zC xt):=by k_extra "sc"
abbrev kN:Stmt:=zy (top 53) 1
theorem xA:zI ["self","value","k","body"] ["self","value"] (zC kN):=by k_extra "sc"
abbrev xK:Stmt:=zy (top 53) 2
theorem jt:zI ["self","text","ks"] ["self","text"] (zC xK):=by k_extra "sc"
abbrev jS:Stmt:=zy (top 53) 4
theorem yW:zI ["self"] ["self"] (zC jS):=by k_extra "sc"
abbrev yA:Stmt:=zy (top 53) 5
theorem Zt:zI ["self","core"] ["self","core"] (zC yA):=by k_extra "sc"
abbrev ja:Stmt:=zy (top 53) 6
theorem yf:zI ["self","number"] ["self","number"] (zC ja):=by k_extra "sc"
abbrev xD:Stmt:=zy (top 53) 7
theorem jx:zI ["self","text","below","ks"] ["self","text","below"] (zC xD):=by k_extra "sc"
abbrev xj:Stmt:=zy (top 53) 8
theorem jE:zI ["self","text","below","lead","cores"] ["self","text","below"] (zC xj):=by k_extra "sc"
abbrev jp:Stmt:=zy (top 53) 9
theorem qk:zI ["self","core","below","parts","number"] ["self","core","below"] (zC jp):=by k_extra "sc"
abbrev Wa:Stmt:=top 56
theorem iu:zI ["thing"] ["thing"] (zC Wa):=by k_extra "sc"
abbrev yY:Stmt:=zy (top 58) 0
theorem QM:zI ["self","signs","least","most","width","fill","side","strict"] ["self","signs","least","most","width","fill","side","strict"] (zC yY):=by k_extra "sc"
abbrev Zm:Stmt:=zy (top 58) 1
theorem X1:zI ["self","value"] ["self","value"] (zC Zm):=by k_extra "sc"
abbrev xq:Stmt:=zy (top 58) 2
theorem ZX:zI ["self","text"] ["self","text"] (zC xq):=by k_extra "sc"
abbrev jw:Stmt:=zy (top 58) 4
theorem kF:zI ["self"] ["self"] (zC jw):=by k_extra "sc"
abbrev yq:Stmt:=zy (top 58) 5
theorem Qw:zI ["self","thing"] ["self","thing"] (zC yq):=by k_extra "sc"
abbrev xu:Stmt:=zy (top 59) 0
theorem ZZ:zI ["self","names","width","fill","side","strict"] ["self","names","width","fill","side","strict"] (zC xu):=by k_extra "sc"
abbrev kO:Stmt:=zy (top 59) 1
theorem JC:zI ["self","value"] ["self","value"] (zC kO):=by k_extra "sc"
abbrev xG:Stmt:=zy (top 59) 2
theorem jv:zI ["self","text","cores"] ["self","text"] (zC xG):=by k_extra "sc"
abbrev jR:Stmt:=zy (top 59) 4
theorem yG:zI ["self"] ["self"] (zC jR):=by k_extra "sc"
abbrev ZP:Stmt:=zy (top 63) 0
theorem Jx:zI ["self","words"] ["self","words"] (zC ZP):=by k_extra "sc"
abbrev Xj:Stmt:=zy (top 63) 1
theorem Kg:zI ["self"] ["self"] (zC Xj):=by k_extra "sc"
abbrev Zv:Stmt:=zy (top 63) 2
theorem YJ:zI ["self","can_stand"] ["self","can_stand"] (zC Zv):=by k_extra "sc"
abbrev y1:Stmt:=zy (top 63) 3
theorem Qs:zI ["self","word"] ["self","word"] (zC y1):=by k_extra "sc"
abbrev ya:Stmt:=zy (top 63) 4
theorem x6:zI ["self","least","most","number"] ["self","least","most"] (zC ya):=by k_extra "sc"
abbrev kK:Stmt:=zy (top 63) 5
theorem yx:zI ["self","word"] ["self"] (zC kK):=by k_extra "sc"
abbrev yU:Stmt:=zy (top 63) 6
theorem x5:zI ["self","choices","word"] ["self","choices"] (zC yU):=by k_extra "sc"
abbrev yy:Stmt:=zy (top 63) 7
theorem yT:zI ["self","signs"] ["self"] (zC yy):=by k_extra "sc"
abbrev kU:Stmt:=zy (top 63) 8
theorem y6:zI ["self","names","word"] ["self","names"] (zC kU):=by k_extra "sc"
abbrev Yl:Stmt:=top 64
theorem Zn:zI ["text","words","form"] ["text"] (zC Yl):=by k_extra "sc"
abbrev XT:Stmt:=top 65
theorem JS:zI ["words","kind"] ["words"] (zC XT):=by k_extra "sc"
abbrev y0:Stmt:=top 66
theorem zl:zI ["words","figures","places","base","sign","groups","point","way","last"] ["words"] (zC y0):=by k_extra "sc"
abbrev Jg:Stmt:=top 67
theorem QV:zI ["words","size"] ["words"] (zC Jg):=by k_extra "sc"
abbrev ZG:Stmt:=top 68
theorem qX:zI ["words","signs","least","most","last"] ["words"] (zC ZG):=by k_extra "sc"
abbrev yw:Stmt:=top 69
theorem qZ:zI ["words","wanted","names","turn","last"] ["words"] (zC yw):=by k_extra "sc"
abbrev VH:Stmt:=top 70
theorem yp:zI ["words","sides","side","width","fill"] ["words","sides","side"] (zC VH):=by k_extra "sc"
abbrev JJ:Stmt:=top 71
theorem Qh:zI ["word","number"] ["word"] (zC JJ):=by k_extra "sc"
abbrev Xi:Stmt:=top 72
theorem JR:zI ["word","signs"] ["word"] (zC Xi):=by k_extra "sc"
abbrev Yq:Stmt:=top 73
theorem Wg:zI ["signs"] ["signs"] (zC Yq):=by k_extra "sc"
abbrev YR:Stmt:=top 75
theorem yt:zI ["form","words"] ["form"] (zC YR):=by k_extra "sc"
abbrev Qc:Stmt:=top 76
theorem Zz:zI ["form","words"] ["form"] (zC Qc):=by k_extra "sc"
abbrev Xd:Stmt:=top 77
theorem JH:zI ["form","words"] ["form"] (zC Xd):=by k_extra "sc"
abbrev Qb:Stmt:=top 78
theorem Ys:zI ["form"] ["form"] (zC Qb):=by k_extra "sc"
abbrev Xs:Stmt:=top 79
theorem JD:zI ["form","side","words"] ["form","side"] (zC Xs):=by k_extra "sc"
abbrev gY:Stmt:=top 80
theorem nT:zI ["name","word","untold"] ["name","word","untold"] (zC gY):=by k_extra "sc"
abbrev Ya:Stmt:=top 81
theorem WV:zI ["sign"] ["sign"] (zC Ya):=by k_extra "sc"
abbrev Xr:Stmt:=top 82
theorem JE:zI ["signs","name"] ["signs"] (zC Xr):=by k_extra "sc"
abbrev Q7:Stmt:=top 84
theorem Vp:zI ["_law_script","_law_k"] ["_law_script","_law_k"] (zC Q7):=by k_extra "sc"
abbrev KO:Stmt:=top 86
theorem kr:zI ["_law_cell","_law_salt","_law_many","_law_one","_law_two"] ["_law_cell","_law_salt","_law_many"] (zC KO):=by k_extra "sc"
abbrev Yx:Stmt:=top 87
theorem XQ:zI ["_law_cell","_law_at","_law_limit","_law_one"] ["_law_cell","_law_at","_law_limit"] (zC Yx):=by k_extra "sc"
abbrev Zr:Stmt:=top 88
theorem YE:zI [] [] (zC Zr):=by k_extra "sc"
abbrev ZJ:Stmt:=top 89
theorem kZ:zI ["_law_cell","_law_salt","_law_some"] ["_law_cell","_law_salt"] (zC ZJ):=by k_extra "sc"
abbrev kG:Stmt:=top 90
theorem zZ:zI ["_law_cell","_law_other","_law_small","_law_figures","_law_places","_law_base","_law_sign","_law_size","_law_way","_law_signs","_law_widths","_law_width","_law_side","_law_strict"] ["_law_cell","_law_other","_law_small"] (zC kG):=by k_extra "sc"
abbrev Z7:Stmt:=top 91
theorem z8:zI ["_law_cell","_law_other","_law_small","_law_start","_law_step","_law_signs","_law_least","_law_most","_law_fill","_law_width","_law_side"] ["_law_cell","_law_other","_law_small"] (zC Z7):=by k_extra "sc"
abbrev ZD:Stmt:=top 92
theorem zi:zI ["_law_cell","_law_many","_law_signs","_law_base","_law_way","_law_at","_law_size","_law_step","_law_found","_law_k","_law_sign","_law_turn"] ["_law_cell","_law_many"] (zC ZD):=by k_extra "sc"
abbrev kJ:Stmt:=top 93
theorem qh:zI ["_law_cell","_law_other","_law_small","_law_names","_law_fill","_law_width","_law_side"] ["_law_cell","_law_other","_law_small"] (zC kJ):=by k_extra "sc"
abbrev QT:Stmt:=top 94
theorem VC:zI ["_law_spec"] ["_law_spec"] (zC QT):=by k_extra "sc"
abbrev Ka:Stmt:=top 95
theorem YX:zI ["_law_lower"] [] (zC Ka):=by k_extra "sc"
abbrev QR:Stmt:=top 96
theorem qa:zI ["_law_cell","_law_other","_law_sort","_law_spec","_law_signs"] ["_law_cell","_law_other","_law_sort"] (zC QR):=by k_extra "sc"
abbrev Z8:Stmt:=top 97
theorem X9:zI ["_law_sign"] ["_law_sign"] (zC Z8):=by k_extra "sc"
abbrev ZQ:Stmt:=top 98
theorem jO:zI ["_law_signs","_law_bits","_law_rest","_law_name","_law_some"] ["_law_signs","_law_bits"] (zC ZQ):=by k_extra "sc"
abbrev ZT:Stmt:=top 99
theorem zT:zI ["_law_spec","_law_bits","_law_rows","_law_figures","_law_places","_law_base","_law_sign","_law_size","_law_mark","_law_point","_law_way"] ["_law_spec","_law_bits"] (zC ZT):=by k_extra "sc"
abbrev Zq:Stmt:=top 100
theorem zv:zI ["_law_spec","_law_bits","_law_rows","_law_width","_law_fill","_law_side","_law_strict","_law_kept"] ["_law_spec","_law_bits"] (zC Zq):=by k_extra "sc"
abbrev Z4:Stmt:=top 101
theorem YG:zI ["_law_spec","_law_bits"] ["_law_spec","_law_bits"] (zC Z4):=by k_extra "sc"
abbrev QQ:Stmt:=top 102
theorem xL:zI ["_law_base","_law_times","_law_found","_law_k"] ["_law_base","_law_times"] (zC QQ):=by k_extra "sc"
abbrev JK:Stmt:=top 103
theorem Qd:zI ["_law_one","_law_other"] ["_law_one","_law_other"] (zC JK):=by k_extra "sc"
abbrev Xq:Stmt:=top 104
theorem Q3:zI ["_law_top","_law_bottom","_law_many"] ["_law_top","_law_bottom"] (zC Xq):=by k_extra "sc"
abbrev ZA:Stmt:=top 105
theorem jM:zI ["_law_number","_law_base","_law_found"] ["_law_number","_law_base"] (zC ZA):=by k_extra "sc"
abbrev JG:Stmt:=top 106
theorem zn:zI ["_law_steps","_law_spec","_law_places","_law_base","_law_size","_law_mark","_law_point","_law_step","_law_figures","_law_whole_here","_law_k","_law_rest"] ["_law_steps","_law_spec"] (zC JG):=by k_extra "sc"
abbrev Zp:Stmt:=top 107
theorem ZM:zI ["_law_steps","_law_spec","_law_body"] ["_law_steps","_law_spec"] (zC Zp):=by k_extra "sc"
abbrev XZ:Stmt:=top 108
theorem yB:zI ["_law_lead","_law_rest","_law_spec","_law_width","_law_fill","_law_side","_law_lacks","_law_ahead"] ["_law_lead","_law_rest","_law_spec"] (zC XZ):=by k_extra "sc"
abbrev kR:Stmt:=top 109
theorem qj:zI ["_law_spec","_law_cell","_law_j","_law_way","_law_size","_law_limit","_law_steps"] ["_law_spec","_law_cell","_law_j"] (zC kR):=by k_extra "sc"
abbrev ZO:Stmt:=top 110
theorem Js:zI ["_law_spec","_law_value"] ["_law_spec","_law_value"] (zC ZO):=by k_extra "sc"
abbrev dQ:Stmt:=top 111
theorem Jw:zI ["_law_form","_law_value","_law_text","e"] ["_law_form","_law_value"] (zC dQ):=by k_extra "sc"
abbrev Vx:Stmt:=top 112
theorem yN:zI ["_law_form","_law_spec","_law_cell","_law_j","_law_value","_law_parts","_law_text","_law_found"] ["_law_form","_law_spec","_law_cell","_law_j"] (zC Vx):=by k_extra "sc"
abbrev YT:Stmt:=top 113
theorem xo:zI ["_law_cell","_law_other","_law_spec","_law_form","_law_again","_law_j"] ["_law_cell","_law_other"] (zC YT):=by k_extra "sc"
abbrev fL:Stmt:=top 114
theorem tu:zI ["_law_script","_law_k"] ["_law_script"] (zC fL):=by k_extra "sc"
def AU:Str:="abcdefghijklmnopqrstuvwxyz"
def tK:Str:="ABCDEFGHIJKLMNOPQRSTUVWXYZ"
def uW:Str:="0123456789"
def Ve:Str:="!\"#$&'()*+,-./0123456789:;<=>?@ABCDEFGHIJKLMNOPQRSTUVWXYZ[\\]^_`abcdefghijklmnopqrstuvwxyz{|}~"
def X7(n v:Str):Prop:=(n="lower"/\v=AU)\/(n="upper"/\v=tK)\/(n="figures"/\v=uW)\/(n="all"/\v=Ve)
structure Wu(w:World)(K:W.Frag)(d:Addr):Prop where
 get:∀n v,X7 n v->KDt w K d n v
 has:∀n v,X7 n v->KDi w K d n true
 no:∀l:LN,KDi w K d (T (61::l)) false
def SqM(K:W.Frag)(p:Addr)(xs:List V):Prop:=∀H:Hp,SqT K H p xs
variable{x:Str}
theorem Xk{t:Tok}(h:T (Lt x)=x):xX (V.str (T (Lt x))) (.str x t):=⟨t,by rw[h]⟩
variable{K:W.Frag}{p:Addr}{n:Nat}{t2 t3:Tok}
theorem sqm_ways{t0 t1 t4:Tok}(h:K.lookup p=some { cls:=.type "tuple",data:=.seq #[.str "down" t0,.str "up" t1,.str "cut" t2,.str "near" t3,.str "even" t4] n }):SqM K p (tsV [Lt "down",Lt "up",Lt "cut",Lt "near",Lt "even"]):=λH=>.mod (its:=[.str "down" t0,.str "up" t1,.str "cut" t2,.str "near" t3,.str "even" t4]) h (by simp) (.cons (Xk (by right)) (.cons (Xk (by right)) (.cons (Xk (by right)) (.cons (Xk (by right)) (.cons (Xk (by right)) .nil)))))
variable{w:World}
theorem kds_sets{d:Addr}{n0:Nat}{t0 t1:Tok}{v0 v1 v2 v3:Value}(lo:(d==sysModules)=false)
  (hd:K.lookup d=some { cls:=.type "dict",data:=.dict #[⟨PyData.keyHash w.params "lower",.str "lower" t0,v0⟩,⟨PyData.keyHash w.params "upper",.str "upper" t1,v1⟩,⟨PyData.keyHash w.params "figures",.str "figures" t2,v2⟩,⟨PyData.keyHash w.params "all",.str "all" t3,v3⟩] n0 }):KDs w K d ["lower","upper","figures","all"]:=
 ⟨lo,[("lower",t0,v0),("upper",t1,v1),("figures",t2,v2),("all",t3,v3)],n0,hd,rfl,by right,by decide⟩
theorem sqm_sides{t0 t1:Tok}(h:K.lookup p=some { cls:=.type "tuple",data:=.seq #[.str "left" t0,.str "right" t1,.str "middle" t2] n }):SqM K p (tsV [Lt "left",Lt "right",Lt "middle"]):=λH=>.mod (its:=[.str "left" t0,.str "right" t1,.str "middle" t2]) h (by simp) (.cons (Xk (by right)) (.cons (Xk (by right)) (.cons (Xk (by right)) .nil)))
theorem sgsets_mk{d:Addr}{n0:Nat}{t0 t1 u0 u1 u2 u3:Tok}(lo:(d==sysModules)=false)
  (hd:K.lookup d=some { cls:=.type "dict",data:=.dict #[⟨PyData.keyHash w.params "lower",.str "lower" t0,.str AU u0⟩,⟨PyData.keyHash w.params "upper",.str "upper" t1,.str tK u1⟩,⟨PyData.keyHash w.params "figures",.str "figures" t2,.str uW u2⟩,⟨PyData.keyHash w.params "all",.str "all" t3,.str Ve u3⟩] n0 }):Wu w K d:=by
 have ks:∀e,e∈#[(⟨PyData.keyHash w.params "lower",.str "lower" t0,.str AU u0⟩:DictEntry),⟨PyData.keyHash w.params "upper",.str "upper" t1,.str tK u1⟩,⟨PyData.keyHash w.params "figures",.str "figures" t2,.str uW u2⟩,⟨PyData.keyHash w.params "all",.str "all" t3,.str Ve u3⟩]->∃k,Value.isStrOf k e.key=true/\e.hash=hashStr w k:=by
  intro e he;simp only[List.mem_toArray,mem_cons,not_mem_nil,or_false]at he;rcases he with rfl|rfl|rfl|rfl
  .exact⟨"lower",by simp[Value.isStrOf],rfl⟩
  .exact⟨"upper",by simp[Value.isStrOf],rfl⟩
  .exact⟨"figures",by simp[Value.isStrOf],rfl⟩
  .exact⟨"all",by simp[Value.isStrOf],rfl⟩
 have fd:∀n v,X7 n v->∃u,findBy Value.isStrOf #[(⟨PyData.keyHash w.params "lower",.str "lower" t0,.str AU u0⟩:DictEntry),⟨PyData.keyHash w.params "upper",.str "upper" t1,.str tK u1⟩,⟨PyData.keyHash w.params "figures",.str "figures" t2,.str uW u2⟩,⟨PyData.keyHash w.params "all",.str "all" t3,.str Ve u3⟩] n=some (.str v u):=by
  intro n v hk;unfold findBy;simp only[List.find?_toArray,List.find?_cons];rcases hk with⟨rfl,rfl⟩|⟨rfl,rfl⟩|⟨rfl,rfl⟩|⟨rfl,rfl⟩
  .exact⟨u0,rfl⟩
  .exact⟨u1,rfl⟩
  .exact⟨u2,rfl⟩
  .exact⟨u3,rfl⟩
 refine⟨λn v hk=>?_,λn v hk=>?_,λl=>?_⟩
 .obtain⟨u,h⟩:=fd n v hk;exact⟨_,_,u,hd,ks,h⟩
 .obtain⟨u,h⟩:=fd n v hk;exact⟨lo,_,_,hd,ks,by rw[h];rfl⟩
 .refine⟨lo,_,_,hd,ks,?_⟩;have no:∀z:Str,(Lt z).head?≠some 61->∀t,Value.isStrOf (T (61::l)) (.str z t)=false:=λz hz t=>by
   have:T (61::l)≠z:=λe=>hz (by rw[<- e,YN];rfl);simp[Value.isStrOf];first|exact this|exact λe=>this e.symm
  unfold findBy;simp only[List.find?_toArray,List.find?_cons];rw[no "lower" (by right),no "upper" (by right),no "figures" (by right),no "all" (by right)];rfl
structure Zs(w:World)(K:W.Frag)(mg:Str->Option Value)(xY zg qF qc qp qC ZL zD zG zH zP jg z6 jU Xn:Addr)(Z5 xp jd:Tok):Prop where
 kn:Kn K mg
 ab:mg "PadError"=some (.ref xY)
 ac:mg "NoFigures"=some (.ref zg)
 ad:mg "NoGroups"=some (.ref qF)
 ae:mg "NoBody"=some (.ref qc)
 af:mg "NoCore"=some (.ref qp)
 ag:mg "TooWide"=some (.ref qC)
 ah:mg "Form"=some (.ref ZL)
 ai:mg "NumberForm"=some (.ref zD)
 aj:mg "WordForm"=some (.ref zG)
 ak:mg "ChoiceForm"=some (.ref zH)
 al:mg "Words"=some (.ref zP)
 am:mg "len"=none
 an:mg "range"=none
 ao:mg "isinstance"=none
 ap:mg "str"=none
 aq:mg "max"=none
 ar:mg "min"=none
 au:mg "int"=none
 av:mg "bool"=none
 aw:mg "abs"=none
 ax:mg "list"=none
 ay:mg "tuple"=none
 az:mg "all"=none
 aA:mg "sorted"=none
 aB:mg "FIGURES"=some (.str "0123456789abcdef" Z5)
 aC:mg "STYLES"=some (.ref jg)
 aD:mg "MOST_SIGNS"=some (.int 40 xp)
 aE:mg "MOST_FIGURES"=some (.int 240 jd)
 aF:mg "SIGN_SETS"=some (.ref z6)
 aG:mg "SIDES"=some (.ref jU)
 aH:mg "WAYS"=some (.ref Xn)
 aI:Sty w K jg
 f0:Dfx K "_law_cell_at" Q7
 f1:Dfx K "_law_pick" KO
 f2:Dfx K "pads_of" cS
 f3:Dfx K "padded" fo
 f4:Dfx K "power_of" V8
 f5:Dfx K "goes_up" WX
 f6:Dfx K "gridded" dZ
 f7:Dfx K "figures_of" XS
 f8:Dfx K "parts_of" KC
 f9:Dfx K "grouped" Wq
 aT:Dfx K "body_of" dP
 aU:Dfx K "ends_of" Wt
 aV:Dfx K "signed" fe
 aW:Dfx K "stands_between_figures" jy
 aX:Dfx K "unsigned" KW
 aY:Dfx K "is_whole" KQ
 aZ:Dfx K "common_divisor" ZR
 a0:Dfx K "is_fraction" JI
 a1:Dfx K "ungrouped" YQ
 a2:Dfx K "number_of" YZ
 a3:Dfx K "whole_end" Y5
 a4:Dfx K "number_in" Ye
 a5:Dcx K "Form.__init__" "__init__" Zj ZL
 a6:Ddx K "WordForm.__init__" "__init__" yY zG [zG] 4
 a7:Ddx K "ChoiceForm.__init__" "__init__" xu zH [zH] 4
 a8:Ddx K "NumberForm.__init__" "__init__" xt zD [zD] 10
 a9:Dmx K "NumberForm.is_too_great" "is_too_great" ja zD [zD]
 ba:Dmx K "NumberForm.core" "core" kN zD [zD]
 bb:Dmx K "Form.is_too_wide" "is_too_wide" yl ZL [zD,zG,zH]
 bc:Dfx K "padded_inside" Zf
 bd:Dmx K "NumberForm.lead_of" "lead_of" yA zD [zD]
 be:Dmx K "Form.filled" "filled" Qy ZL [zD,zG,zH]
 bf:Dmx K "WordForm.is_word" "is_word" yq zG [zG]
 bg:Dmx K "WordForm.core" "core" Zm zG [zG]
 bh:Dmx K "ChoiceForm.core" "core" kO zH [zH]
 bi:Dmx K "Form.put" "put" Vz ZL [zD,zG,zH]
 bj:Dfx K "stripped" KL
 bk:Dmx K "Form.unfilled" "unfilled" Z1 ZL [zD,zH,zG]
 bl:Dfx K "fraction" KB
 bm:Dfx K "grid_value" Xh
 bn:Dmx K "NumberForm.number_with" "number_with" jp zD [zD]
 bo:Dfx K "stripped_inside" ke
 bp:Dmx K "NumberForm.cores_in" "cores_in" xj zD [zD]
 bq:Dmx K "NumberForm.numbers_in" "numbers_in" xD zD [zD]
 br:Dmx K "NumberForm.values_for" "values_for" xK zD [zD]
 bs:Dmx K "ChoiceForm.values_for" "values_for" xG zH [zH]
 bt:Dmx K "WordForm.values_for" "values_for" xq zG [zG]
 bu:Dmx K "Words.__init__" "__init__" ZP zP [zP]
 bv:Dmx K "Words.peek" "peek" Xj zP [zP]
 bw:Dmx K "Words.go_past" "go_past" Zv zP [zP]
 bx:Dmx K "Words.has_clause" "has_clause" y1 zP [zP]
 bz:Dfx K "told_number" JJ
 bA:Dmx K "Words.take_number" "take_number" ya zP [zP]
 bB:Dmx K "Words.take_sign" "take_sign" kK zP [zP]
 bC:Dmx K "Words.take_one_of" "take_one_of" yU zP [zP]
 bD:Dfx K "is_rising" Yq
 bE:Dfx K "told_signs" Xi
 bF:Dmx K "Words.take_signs" "take_signs" yy zP [zP]
 bG:Dmx K "Words.take_name" "take_name" kU zP [zP]
 bH:Dfx K "read_last" VH
 bI:Dfx K "read_groups" Jg
 bJ:Dmx K "WordForm.shortest_core" "shortest_core" jw zG [zG]
 bK:Dmx K "ChoiceForm.shortest_core" "shortest_core" jR zH [zH]
 bL:Dmx K "NumberForm.shortest_core" "shortest_core" jS zD [zD]
 bM:Dmx K "Form.puts_some" "puts_some" ZC ZL [zD,zG,zH]
 bN:Dfx K "read_word_form" ZG
 bO:Dfx K "read_choice_form" yw
 bP:Dfx K "read_number_form" y0
 bQ:Dfx K "read_words" XT
 bR:Dfx K "is_text" Wa
 bS:Dfx K "read_form" Yl
 bT:Dfx K "_law_all_signs" Zr
 bU:Dfx K "_law_drawn_sign" ZJ
 bV:Dfx K "_law_number_spec" kG
 bW:Dfx K "_law_word_spec" Z7
 bX:Dfx K "_law_near_names" ZD
 bY:Dfx K "_law_choice_spec" kJ
 bZ:Dfx K "_law_shortest" QT
 b0:Dfx K "_law_sets" Ka
 b1:Dfx K "_law_signs_word" ZQ
 b2:Dfx K "_law_any_spec" QR
 b3:Dfx K "_law_sign_word" Z8
 b4:Dfx K "_law_first_rows" ZT
 b5:Dfx K "_law_word_rows" Zq
 b6:Dfx K "_law_form_text" Z4
 b7:Dfx K "clause" gY
 b8:Dfx K "sign_word" Ya
 b9:Dfx K "signs_word" Xr
 ca:Dfx K "last_words" Xs
 cb:Dfx K "number_words" Qc
 cc:Dfx K "word_words" Xd
 cd:Dfx K "choice_words" Qb
 ce:Dfx K "show_form" YR
 cf:Dfx K "_law_power_of" QQ
 cg:Dfx K "_law_divisor" JK
 ch:Dfx K "_law_lowest" Xq
 ci:Dfx K "_law_in_figures" ZA
 cj:Dfx K "_law_body_by" JG
 ck:Dfx K "_law_signed_by" Zp
 cl:Dfx K "_law_filled" XZ
 cm:Dfx K "_law_great" Yx
 cn:Dfx K "_law_drawn_value" kR
 co:Dfx K "_law_value_pair" ZO
 cp:Dfx K "_law_put" dQ
 cq:Dfx K "_law_puts" Vx
 cr:Dfx K "_law_right" YT
 cs:Dfx K "law" fL
 ct:Exc K zg
 cu:Exc K qF
 cv:Exc K qc
 cw:Exc K qp
 cx:Exc K qC
 cy:Nm K "NoFigures" zg
 cz:Nm K "NoGroups" qF
 cA:Nm K "NoBody" qc
 cB:Nm K "NoCore" qp
 cC:Cls K zD
 cD:qd K zD ["width","fill","side","strict","figures","places","base","sign","size","mark","point","way"]
 cE:MkI K zD
 cF:Cls K zG
 cG:qd K zG ["width","fill","side","strict","signs","least","most"]
 cH:MkI K zG
 cI:Cls K zH
 cJ:qd K zH ["width","fill","side","strict","names"]
 cK:MkI K zH
 cL:Cls K zP
 cM:qd K zP ["words","at"]
 cN:MkI K zP
 cO:KDs w K jg ["minus","plus","blank","brackets","behind"]
 hW:SqM K Xn (tsV [Lt "down",Lt "up",Lt "cut",Lt "near",Lt "even"])
 ss:Wu w K z6
 ks:KDs w K z6 ["lower","upper","figures","all"]
 hS:SqM K jU (tsV [Lt "left",Lt "right",Lt "middle"])
 xg:W.exmAny K (.ref qF) [.ref qF,.ref zg]=some true
 xf:W.exmAny K (.ref zg) [.ref qF,.ref zg]=some true
 xc:W.exmAny K (.ref qp) [.ref qp,.ref qc]=some true
 xb:W.exmAny K (.ref qc) [.ref qp,.ref qc]=some true
 cX:W.exmOne K (.ref zg) (.ref zg)=some true
 Tx:W.exmOne K (.ref qC) (.ref xY)=some true
 Tk:W.kitOne K (.ref qC) (.ref qC)=some true
 c0:W.specialIn K (.builtin "object.__class__") "__get__"=some (some (.builtin "getset_descriptor.__get__"))
 c1:W.takesIn K (.builtin "object.__class__")=some true
 c2:W.findIn K (.ref zD) "__class__"=some (some (.builtin "object.__class__"))
 c3:W.mroIn K zD (.type "object")=some true
 c4:W.kitOne K (.ref zD) (.ref zD)=some true
 c5:W.kitOne K (.ref zD) (.ref zG)=some false
 c6:W.findIn K (.ref zG) "__class__"=some (some (.builtin "object.__class__"))
 c7:W.mroIn K zG (.type "object")=some true
 c8:W.kitOne K (.ref zG) (.ref zD)=some false
 c9:W.kitOne K (.ref zG) (.ref zG)=some true
 da:W.findIn K (.ref zH) "__class__"=some (some (.builtin "object.__class__"))
 db:W.mroIn K zH (.type "object")=some true
 dc:W.kitOne K (.ref zH) (.ref zD)=some false
 dd:W.kitOne K (.ref zH) (.ref zG)=some false
section
variable{P:Program}{w:World}{K:W.Frag}{mg:Str ->Option Value}{base:Heap}{xY zg qF qc qp qC ZL zD zG zH zP jg z6 jU Xn:Addr}{Z5 xp jd:Tok}(Z:Zs w K mg xY zg qF qc qp qC ZL zD zG zH zP jg z6 jU Xn Z5 xp jd)
local macro_rules|`(tactic|walk_at "rdc")=>`(tactic|fail "no callee")
local macro_rules|`(tactic|walk_at "rdk")=>`(tactic|fail "no callee")
local macro_rules|`(tactic|walk_at "rd1")=>`(tactic|first
|apply_rules (transparency:=.reducible) only [Ht,IU,uR,GR,Gy,II,IR,Ie,IJ,IG,r_U,GM,IW,GS,FZ,GK,FG,BQ,Dl,oa,sK,rB,GV,Gn,Gs,D8,EG,Cv,Eo,FT]
|(with_reducible first|apply fF|apply rz|apply Gi|apply ET|apply AD|apply me|apply r_c|apply Ho|apply EC|apply EZ|apply pP|apply Ac|apply Hc)
|((with_reducible refine' BL ?e ?_);(case e=>rfl))
|((with_reducible refine' r_I ?hc ?_);(case hc=>k_extra "sd"))
|((with_reducible refine' Ig ?hc ?_);(case hc=>omega))
|((with_reducible refine' IA ?hc ?_);(case hc=>omega))
|((with_reducible refine' G5 ?hc ?_);(case hc=>omega))
|((with_reducible refine' G4 ?hc ?_);(case hc=>omega))
|(with_reducible first|refine i_d (fun hc=>?_) (fun hc=>?_)|refine GW (fun hc=>?_) (fun hc=>?_)|refine i_b (fun hc=>?_) (fun hc=>?_))
|((with_reducible refine' EB ?hz ?_);(case hz=>exact qU (by simp only [length_cons,length_nil];decide));intro p' H' g' e')
|((with_reducible refine' mw ?hz ?_);(case hz=>exact qU (by simp only [length_cons,length_nil];decide));intro p' H' g' e')
|((with_reducible refine' tO ?h ?_);(case h=>k_extra "hp"))
|((with_reducible refine' Q4 ?h ?e ?_);(case h=>k_extra "hp");(case e=>rfl))
|((with_reducible refine' FE ?h ?hi (fun hi'=>?_) (fun hi'=>?_));(case h=>k_extra "hp");(case hi=>omega))
|(with_reducible first|refine Ek (fun k' hk'=>?_)|refine CI (fun k' hk'=>?_)|refine BN (fun k' hk'=>?_)|refine As (fun hc=>?_) (fun hc=>?_)|apply fB)
|((with_reducible refine' Cd ?h ?_);(case h=>k_extra "hp"))
|((with_reducible refine' Fq ?h ?_);(case h=>k_extra "sq"))
|((with_reducible refine' Ec ?h ?n ?_);(case h=>k_extra "hp");(case n=>rfl))
|walk_at "rdc"
|fail "rd stops")
local macro_rules|`(tactic|walk_at "rd")=>`(tactic|repeat' walk_at "rd1")
local macro_rules|`(tactic|walk_at "rdc")=>`(tactic|first
|(with_reducible first|apply Cm|apply rA|apply E4|apply Cg|apply Bq|apply Cc|apply Ez|apply Gg)
|((with_reducible refine' G8 ?h ?_);(case h=>k_extra "sq");intro p' H' g' e')
|((with_reducible refine' gx (b:=true) ?e ?_);(case e=>exact decide_eq_true rfl))
|((with_reducible refine' gx (b:=false) ?e ?_);(case e=>exact (by decide +kernel)))
|fail "rd2 stops")
local macro_rules|`(tactic|walk_at "rdc")=>`(tactic|first
|(with_reducible first|apply i9|apply B7)
|((with_reducible refine' Ab ?h ?_);(case h=>k_extra "sq"))
|fail "rd3 stops")
local macro_rules|`(tactic|walk_at "rdc")=>`(tactic|first
|((with_reducible refine' BW ?hz ?_);(case hz=>k_extra "tl"))
|((with_reducible refine' mj ?hz ?_);(case hz=>k_extra "tl"))
|((with_reducible refine' ou ?hz ?_);(case hz=>k_extra "tl"))
|((with_reducible refine' Be ?hz ?_);(case hz=>k_extra "tl"))
|((with_reducible refine' ti ?hz ?_);(case hz=>k_extra "tl"))
|((with_reducible refine' oK (z:=Str.ofString _) 94 ?hn ?hz ?h0 ?h1 ?_);(case hn=>decide +kernel);(case hz=>decide);(case h0|h1=>omega);intro c' hc')
|((with_reducible refine' oK (z:=Str.ofString _) 16 ?hn ?hz ?h0 ?h1 ?_);(case hn=>decide +kernel);(case hz=>decide);(case h0|h1=>omega);intro c' hc')
|((with_reducible refine' oK (z:=Str.ofString _) 13 ?hn ?hz ?h0 ?h1 ?_);(case hn=>decide +kernel);(case hz=>decide);(case h0|h1=>omega);intro c' hc')
|((with_reducible refine' Dw ?hz ?h0 ?h1 ?_);(case hz=>k_extra "tl");(case h0=>omega);(case h1=>k_extra "tl"))
|((with_reducible refine' pf ?hz ?h0 ?h1 ?_);(case hz=>k_extra "tl");(case h0=>omega);(case h1=>k_extra "tl"))
|((with_reducible refine' BS ?hz ?h1 ?_);(case hz|h1=>k_extra "tl"))
|((with_reducible refine' CK ?hz ?h0 ?_);(case hz=>k_extra "tl");(case h0=>omega))
|((with_reducible refine' Bt ?hz ?h0 ?_);(case hz=>k_extra "tl");(case h0=>omega))
|((with_reducible refine' rX ?hz ?h0 ?h1 ?_);(case hz=>k_extra "tl");(case h0|h1=>omega))
|((with_reducible refine' BR ?h0 ?h1 ?_);(case h0|h1=>omega))
|(with_reducible refine sO ?_)
|((with_reducible refine' gx (b:=true) ?e ?_);(case e=>exact decide_eq_true rfl))
|((with_reducible refine' gx (b:=false) ?e ?_);(case e=>exact (by decide +kernel)))
|((with_reducible refine' Bi (b:=true) ?e ?_);(case e=>exact decide_eq_true rfl))
|((with_reducible refine' Bi (b:=false) ?e ?_);(case e=>exact (by decide +kernel)))
|(with_reducible first|apply AG|apply uO|apply uU|apply ol|apply B7|apply Dv|apply oU)
|fail "rd4 stops")
local macro_rules|`(tactic|walk_at "rdc")=>`(tactic|first
|(with_reducible refine DH ?_)
|((with_reducible refine' gx (x:=T _) (b:=true) ?e ?_);(case e=>exact decide_eq_true rfl))
|(with_reducible refine AG ?_)
|((with_reducible refine' Bi (x:=T _) (b:=true) ?e ?_);(case e=>exact decide_eq_true rfl))
|(with_reducible refine uO ?_)
|fail "rd5 stops")
local macro_rules|`(tactic|walk_at "rdc")=>`(tactic|first
|(with_reducible refine D9 ?_)
|((with_reducible refine' Di ?h ?h0 ?h1 ?_);(case h=>k_extra "sq");(case h0|h1=>omega))
|fail "rd6 stops")
local macro_rules|`(tactic|walk_at "rdc")=>`(tactic|first
|fail "rd7 stops")
local macro_rules|`(tactic|walk_at "rdc")=>`(tactic|first
|((with_reducible refine' EN ?h ?_);(case h=>k_extra "sq"))
|((with_reducible refine' Aq ?h ?_);(case h=>k_extra "sq"))
|((with_reducible refine' Ca ?h ?h0 ?_);(case h=>k_extra "sq");(case h0=>omega))
|((with_reducible refine' gU ?h ?_);(case h=>k_extra "sq");intro l' H' g' n' e')
|(with_reducible refine tY ?_)
|((with_reducible refine' Ab ?h ?_);(case h=>k_extra "sq"))
|(with_reducible refine D9 ?_)
|fail "rd12 stops")
local macro_rules|`(tactic|walk_at "rdc")=>`(tactic|first
|(with_reducible refine CT ?_)
|fail "rd8 stops")
local macro_rules|`(tactic|walk_at "rdc")=>`(tactic|first
|((with_reducible refine' sF ?h ?e ?_);(case h=>k_extra "sqt");(case e=>rfl))
|fail "rd9 stops")
local macro_rules|`(tactic|walk_at "rdc")=>`(tactic|first
|(with_reducible refine DO ?_)
|((with_reducible refine' GD ?h ?_);(case h=>first|assumption|omega))
|(with_reducible refine Ah ?_)
|fail "rd10 stops")
local macro_rules|`(tactic|walk_at "rdc")=>`(tactic|first
|((with_reducible refine' Gf ?h0 ?h1 ?_);(case h0|h1=>omega))
|fail "rd11 stops")
local macro_rules|`(tactic|walk_at "rdc")=>`(tactic|first
|(with_reducible refine G7 ?_)
|fail "rd13 stops")
local macro_rules|`(tactic|walk_at "fld2")=>`(tactic|fail "no own field")
local macro_rules|`(tactic|walk_at "rdc")=>`(tactic|first
|(with_reducible first|apply GZ|apply i9)
|((with_reducible refine' DX ?h ?_);(case h=>k_extra "fld"))
|(with_reducible refine Vb ?_)
|((with_reducible refine' Zx ?h ?_);(case h=>walk_at "ins"))
|(with_reducible refine Ct ?_)
|((with_reducible refine' Ir ?h ?_);(case h=>k_extra "wk"))
|(with_reducible first|apply DL|apply Ep|apply EH|apply CU|apply Ba|apply AR)
|((with_reducible refine' Gb ?h ?_);(case h=>k_extra "sq"))
|fail "rd14 stops")
local macro_rules|`(tactic|walk_at "rd1")=>`(tactic|first|((with_reducible refine' iX ?h ?e ?_);(case h=>k_extra "sq");(case e=>rfl))|fail "no written place")
local macro_rules|`(tactic|walk_at "rd1")=>`(tactic|first
|apply_rules (transparency:=.reducible) only [Fp,Ib,uR,Ho,r_c,ET,Im,AD,Ht,DF,Dl,oa,G3,IM,IB]
|((fail_if_success (fail_if_success (with_reducible refine isSp ?_)));walk_at "rdk")
|((with_reducible refine' Ic ?e ?f ?_);(case e|f=>rfl))
|((with_reducible refine' BL ?e ?_);(case e=>rfl))
|((with_reducible refine' IF ?e ?f ?_);(case e|f=>rfl))
|((with_reducible refine' Ij ?e ?_);(case e=>rfl))
|((with_reducible refine' IL ?e ?_);(case e=>rfl))
|((with_reducible refine' IY ?e ?f ?g ?_);(case e|f|g=>rfl))
|((with_reducible refine' Io ?e ?_);(case e=>rfl))
|((with_reducible refine' Q4 ?h ?e ?_);(case h=>k_extra "hp");(case e=>rfl))
|((with_reducible refine' Il ?e ?f ?_);(case e|f=>rfl))
|((with_reducible refine' IQ ?e ?f ?g ?_);(case e|f|g=>rfl))
|((with_reducible refine' Ip ?e ?f ?g ?i ?_);(case e|f|g|i=>rfl))
|apply_rules (transparency:=.reducible) only [fF,Ac,Hc]
|fail "rg stops")
def WP(t b:Int):Int:=if b<0 then -(Int.gcd t b:Int)else(Int.gcd t b:Int)
def Ji(t b:Int):Int:=t.fdiv (WP t b)
def Jp(t b:Int):Int:=b.fdiv (WP t b)
variable{g l:Int}
theorem pU(hg:0<=g)(hl:0<l):Int.gcd l (g%l)=Int.gcd g l:=by
 rw[Int.gcd_comm g l];have e:g%l=g+l*(-(g/l)):=by
  have:=Int.emod_add_mul_ediv g l;rw[Int.mul_neg];omega
 rw[e,Int.gcd_add_mul_left_right]
theorem mG(t b:Int):WP t b∣t:=by
 unfold WP;split
 .exact(Int.neg_dvd).mpr (Int.gcd_dvd_left ..)
 .exact Int.gcd_dvd_left ..
theorem nZ(t b:Int):WP t b∣b:=by
 unfold WP;split
 .exact(Int.neg_dvd).mpr (Int.gcd_dvd_right ..)
 .exact Int.gcd_dvd_right ..
variable{t b:Int}
theorem Kk(h:0<b):0<WP t b:=by
 unfold WP;rw[if_neg (by omega)];have:0<Int.gcd t b:=Int.gcd_pos_of_ne_zero_right _ (by omega);omega
theorem gi(t b:Int):Ji t b*WP t b=t:=by
 unfold Ji;exact Int.fdiv_mul_cancel (mG t b)
theorem K7(t b:Int):Jp t b*WP t b=b:=by
 unfold Jp;exact Int.fdiv_mul_cancel (nZ t b)
theorem Kx(h:0<b):0<Jp t b:=by
 have h1:=Kk (t:=t) h;have h2:=K7 t b;rcases Int.lt_trichotomy 0 (Jp t b)with h3|h3|h3
 .exact h3
 .rw[<- h3]at h2;simp at h2;omega
 .have:=Int.mul_neg_of_neg_of_pos h3 h1;omega
theorem A0(h:0<b):Jp t b<=b:=by
 have h1:=Kk (t:=t) h;have h2:=K7 t b;have h3:=Kx (t:=t) h;have:=Int.mul_le_mul_of_nonneg_left (show 1<=WP t b by omega) (Int.le_of_lt h3);omega
variable{L:Int}
theorem Ao(h:0<b)(h1:-L<t)(h2:t<L):-L<Ji t b/\Ji t b<L:=by
 have h3:=Kk (t:=t) h;have h4:=gi t b;rcases Int.lt_or_le (Ji t b) 0 with h5|h5
 .have:=Int.mul_le_mul_of_nonneg_left (show 1<=WP t b by omega) (show 0<=-Ji t b by omega);simp only[Int.neg_mul,Int.mul_one]at this;omega
 .have:=Int.mul_le_mul_of_nonneg_left (show 1<=WP t b by omega) h5;omega
theorem DM(h:0<b)(h':b<L)(h1:-L<t)(h2:t<L):-L<Ji t b/\Ji t b<L/\0<Jp t b/\Jp t b<L:=by
 have a1:=Ao h h1 h2;have a2:=Kx (t:=t) h;have a3:=A0 (t:=t) h;exact⟨a1.1,a1.2,a2,by omega⟩
variable{a:Int}
theorem Ap(h1:(0<=a/\g=a)\/(a<0/\g=-a))(h2:(0<=b/\l=b)\/(b<0/\l=-b)):0<=g/\0<=l/\Int.gcd g l=Int.gcd a b:=by
 rcases h1 with⟨h,rfl⟩|⟨h,rfl⟩<;>rcases h2 with⟨h',rfl⟩|⟨h',rfl⟩<;>simp only[Int.gcd_neg,Int.neg_gcd,and_true]<;>omega
theorem EJ{x y M:Int}(h1:-L<x)(h2:x<L)(h3:0<y)(h4:y<M):-(L*M)<x*y/\x*y<L*M:=by
 have hL:0<L:=by omega
 have hM:0<M:=by omega
 have e:∀z:Int,0<=z->z<L->z*y<L*M:=λz p q=>
  Int.lt_of_le_of_lt (Int.mul_le_mul_of_nonneg_right (Int.le_of_lt q) (Int.le_of_lt h3)) (Int.mul_lt_mul_of_pos_left h4 hL)
 rcases Int.lt_or_le x 0 with p|p
 .have a1:=e (-x) (by omega) (by omega);have a2:=Int.mul_pos hL hM;have a3:=Int.mul_nonneg (show 0<=-x by omega) (Int.le_of_lt h3);rw[Int.neg_mul]at a1 a3;omega
 .have a1:=e x p h2;have a2:=Int.mul_pos hL hM;have a3:=Int.mul_nonneg p (Int.le_of_lt h3);omega
def GrB(a b:Int):Prop:=-10000000000000000000000000000000000000000000000000000000000000000000000000000000000000000000000000000000000000000000000000000000000000000000000000000000000000000000000000000000000000000000000<a/\a<10000000000000000000000000000000000000000000000000000000000000000000000000000000000000000000000000000000000000000000000000000000000000000000000000000000000000000000000000000000000000000000000/\0<b/\b<10000000000000000000000000000000000000000000000000000000000000000000000000000000000000000000000000000000000000000000000000000000000000000000000000000000000000000000000000000000000000000000000
def Way(w:Str):Prop:=w="down"\/w="up"\/w="cut"\/w="near"\/w="even"
def upB(w:Str)(be re bo:Int):Bool:=if w="down" then false else if w="up" then true else if w="cut" then decide (be<0)else if 2*re=bo then(decide (w="near")||decide (be%2=1))else decide (2*re>bo)
def hG(w:Str)(a b P:Int):Int:=if 0<a*P%b/\upB w (a*P/b) (a*P%b) b=true then a*P/b+1 else a*P/b
variable{be re bo:Int}
theorem CJ:upB "down" be re bo=false:=by unfold upB;rw[if_pos rfl]
theorem GQ:upB "up" be re bo=true:=by unfold upB;rw[if_neg (by right),if_pos rfl]
theorem ED:upB "cut" be re bo=decide (be<0):=by unfold upB;rw[if_neg (by right),if_neg (by right),if_pos rfl]
theorem Bv(h:2*re=bo):upB "near" be re bo=true:=by unfold upB;rw[if_neg (by right),if_neg (by right),if_neg (by right),if_pos h,decide_eq_true rfl];rfl
theorem rH(h:¬2*re=bo):upB "near" be re bo=decide (2*re>bo):=by unfold upB;rw[if_neg (by right),if_neg (by right),if_neg (by right),if_neg h]
theorem B4(h:2*re=bo):upB "even" be re bo=decide (be%2=1):=by unfold upB;rw[if_neg (by right),if_neg (by right),if_neg (by right),if_pos h,decide_eq_false (by right)];rfl
theorem tV(h:¬2*re=bo):upB "even" be re bo=decide (2*re>bo):=by unfold upB;rw[if_neg (by right),if_neg (by right),if_neg (by right),if_neg h]
theorem nM{b:Int}(h1:2<=b)(h2:b<=16):∀n:Nat,1<=b^n/\b^n<=16^n
 |0=>by simp
 |n+1=>by
  obtain⟨p,q⟩:=nM h1 h2 n;rw[pow_succ,pow_succ];have a1:=mul_le_mul p (show 1<=b by omega) (by decide) (by omega);have a2:=mul_le_mul q h2 (by omega) (by omega);omega
variable{m:Nat}
theorem fP(h:n<=m):(16:Int)^n<=16^m:=by
 induction h with
 |refl=>exact Int.le_refl _
 |step h ih=>
  rename_i m;have:=(nM (b:=16) (by decide) (by decide) m).1;rw[pow_succ];omega
theorem pw6(h1:2<=b)(h2:b<=16)(h3:t<=6):1<=b^t.toNat/\b^t.toNat<=16777216:=by
 have a:=nM h1 h2 t.toNat;have b:=fP (n:=t.toNat) (m:=6) (by omega);have c:(16:Int)^6=16777216:=by decide
 omega
theorem G1(h1:2<=b)(h2:b<=16)(h3:n<=60):1<=b^n/\b^n<=1766847064778384329583297500742918515827483896875618958121606201292619776:=by
 have a:=nM h1 h2 n;have b:=fP (n:=n) (m:=60) (by omega);have c:(16:Int)^60=1766847064778384329583297500742918515827483896875618958121606201292619776:=by right
 omega
theorem Gu(t:Int)(h:0<b):t/b*b<=t/\t<(t/b+1)*b/\t/b*b=t-t%b/\0<=t%b/\t%b<b:=by
 have e:=Int.emod_add_mul_ediv t b;have m0:=emod_nonneg t (show b≠0 by omega);have m1:=emod_lt_of_pos t h;rw[Int.add_mul,Int.one_mul,Int.mul_comm (t/b) b];omega
def Yb(K:W.Frag):Sp:=λvs H Q _=>∃b t:Int,vs=[.int b,.int t]/\2<=b/\b<=16/\0<=t/\t<=60/\Q (.int (b^t.toNat)) H
variable{H:Hp}{Q:VK}{E:XK}
theorem iZ(h1:2<=b)(h2:b<=16)(h3:0<=t)(h4:t<=60)(q:Q (.int (b^t.toNat)) H):Yb K ([.int b,.int t]++[]) H Q E:=⟨b,t,rfl,h1,h2,h3,h4,q⟩
def KJ(K:W.Frag):Sp:=λvs H Q _=>∃(be re bo:Int)(w:Str),vs=[.int be,.int re,.int bo,.str w]/\Way w/\0<=re/\re<10000000000000000000000000000000000000000000000000000000000000000000000000000000000000000000000000000000000000000000000000000000000000000000000000000000000000000000000000000000000000000000000/\Q (.bl (upB w be re bo)) H
theorem lG{w:Str}(h1:Way w)(h2:0<=re)(h3:re<10000000000000000000000000000000000000000000000000000000000000000000000000000000000000000000000000000000000000000000000000000000000000000000000000000000000000000000000000000000000000000000000)(q:Q (.bl (upB w be re bo)) H):KJ K ([.int be,.int re,.int bo,.str w]++[]) H Q E:=⟨be,re,bo,w,rfl,h1,h2,h3,q⟩
def V4(K:W.Frag):Sp:=λvs H Q _=>∃(p:Addr)(a b B t:Int)(w:Str),vs=[.ref p,.int B,.int t,.str w]/\H p=some (.tup [.int a,.int b])/\GrB a b/\2<=B/\B<=16/\0<=t/\t<=6/\Way w/\Q (.int (hG w a b (B^t.toNat))) H
theorem oQ{B:Int}{w:Str}(h1:H p=some (.tup [.int a,.int b]))(h2:GrB a b)(h3:2<=B)(h4:B<=16)(h5:0<=t)(h6:t<=6)(h7:Way w)(q:Q (.int (hG w a b (B^t.toNat))) H):V4 K ([.ref p,.int B,.int t,.str w]++[]) H Q E:=⟨p,a,b,B,t,w,rfl,h1,h2,h3,h4,h5,h6,h7,q⟩
def Qf(K:W.Frag):Sp:=λvs H Q _=>∃(a:Addr)(ns:List Int)(k:Int),vs=[.ref a,.int k]/\SqL K H a (ns.map V.int)/\0<=k/\∀v:Int,Q (.int v) H
variable{k:Int}
theorem DU{a:Addr}{ns:List Int}(h1:SqL K H a (ns.map V.int))(h2:0<=k)(q:∀v:Int,Q (.int v) H):Qf K ([.ref a,.int k]++[]) H Q E:=⟨a,ns,k,rfl,h1,h2,q⟩
def pkA(c t:Int):Int:=(c%1000000007+314159265+104729*t)%998244353*((c%1000000007+314159265+104729*t)%998244353)%998244353
def pk(c t m:Int):Int:=if 1000000000000000000<c/\0<c/2^(20*t).toNat then c/2^(20*t).toNat%1048576%m else(pkA c t+271828183)*(pkA c t/1024+48271+t)%2147483629/128%m
def Qi(K:W.Frag):Sp:=λvs H Q _=>∃c t m:Int,vs=[.int c,.int t,.int m]/\0<=t/\0<m/\(0<=pk c t m->pk c t m<m->Q (.int (pk c t m)) H)
variable{c:Int}
theorem Cz{m:Int}(h1:0<=t)(h2:0<m)(q:0<=pk c t m->pk c t m<m->Q (.int (pk c t m)) H):Qi K ([.int c,.int t,.int m]++[]) H Q E:=⟨c,t,m,rfl,h1,h2,q⟩
theorem oS{m:Int}(h1:0<=t)(h2:0<m)(q:∀v:Int,0<=v->v<m->Q (.int v) H):Qi K ([.int c,.int t,.int m]++[]) H Q E:=⟨c,t,m,rfl,h1,h2,q _⟩
def V9(K:W.Frag):Sp:=λvs H Q _=>∃(n w:Int)(x:Str),vs=[.int n,.int w,.str x]/\Zd x/\0<=n/\w<=40/\∀p H',zR H H'->H' p=some (.tup [.int (pA x n w),.int (pB x n w)])->Q (.ref p) H'
theorem lI{n w:Int}(h1:Zd x)(h2:0<=n)(h3:w<=40)(q:∀p H',zR H H'->H' p=some (.tup [.int (pA x n w),.int (pB x n w)])->Q (.ref p) H'):V9 K ([.int n,.int w,.str x]++[]) H Q E:=⟨n,w,x,rfl,h1,h2,h3,q⟩
def dF(K:W.Frag):Sp:=λvs H Q _=>∃(t:LN)(w:Int)(f:Nat)(x:Str),vs=[.str (T t),.int w,.str (T [f]),.str x]/\Zd x/\t.length<=400/\w<=40/\∀H',zR H H'->Q (.str (T (pad t w f x))) H'
variable{f:Nat}
theorem gK{t:LN}{w:Int}(h1:Zd x)(h2:t.length<=400)(h3:w<=40)(q:∀H',zR H H'->Q (.str (T (pad t w f x))) H'):dF K ([.str (T t),.int w,.str (T [f]),.str x]++[]) H Q E:=⟨t,w,f,x,rfl,h1,h2,h3,q⟩
local macro_rules|`(tactic|walk_at "rdk")=>`(tactic|((with_reducible refine' oS ?h1 ?h2 ?_);(case h1|h2=>omega);intro v' h0' h1'))
local macro_rules|`(tactic|walk_at "rdk")=>`(tactic|((with_reducible refine' DU ?h1 ?h2 ?_);(case h1=>k_extra "sq");(case h2=>omega);intro v'))
local macro_rules|`(tactic|walk_at "rdk")=>`(tactic|((with_reducible refine' lI ?h1 ?h2 ?h3 ?_);(case h1=>first|assumption|exact .inl rfl|exact .inr (.inl rfl)|exact .inr (.inr rfl));(case h2|h3=>omega);intro p' H' g' e'))
local macro_rules|`(tactic|walk_at "rdk")=>`(tactic|((with_reducible refine' gK ?h1 ?h2 ?h3 ?_);(case h1=>first|assumption|exact .inl rfl|exact .inr (.inl rfl)|exact .inr (.inr rfl));(case h2=>k_extra "tl");(case h3=>omega);intro H' g'))
theorem CA{c:Nat}(h:c<127)(q:Q (.int (fv c)) H):oC (.str "0123456789abcdef") [.str (T [c])] H Q:=oU (by rw[BK h];exact q)
variable{i:Int}
theorem Ga(h0:0<=i)(h1:i<16)(q:Q (.str (T [fc i.toNat])) H):uQ (.str "0123456789abcdef") (.int i) H Q:=by
 have e:(Lt "0123456789abcdef").length=16:=by right
 exact pf (by omega) h0 (by omega) q
local macro_rules|`(tactic|walk_at "rdc")=>`(tactic|((with_reducible refine' CA ?h1 ?_);(case h1=>first|omega|assumption)))
local macro_rules|`(tactic|walk_at "rdc")=>`(tactic|((with_reducible refine' Ga ?h1 ?h2 ?_);(case h1|h2=>omega)))
def JV(K:W.Frag):Sp:=λvs H Q _=>∃n b:Int,vs=[.int n,.int b]/\0<=n/\2<=b/\b<=16/\n<1766847064778384329583297500742918515827483896875618958121606201292619776/\(∀l,l=yh b.toNat n.toNat->yF b l->val b l=n->0<l.length->l.length<=240->(l.getD 0 0=48->l=[48])->Q (.str (T l)) H)
theorem dh{n:Int}(h1:0<=n)(h2:2<=b)(h3:b<=16)(h4:n<1766847064778384329583297500742918515827483896875618958121606201292619776)(q:(∀l,l=yh b.toNat n.toNat->yF b l->val b l=n->0<l.length->l.length<=240->(l.getD 0 0=48->l=[48])->Q (.str (T l)) H)):JV K ([.int n,.int b]++[]) H Q E:=⟨n,b,rfl,h1,h2,h3,h4,q⟩
local macro_rules|`(tactic|walk_at "rdk")=>`(tactic|((with_reducible refine' dh ?h1 ?h2 ?h3 ?h4 ?_);(case h1|h2|h3|h4=>omega);intro l' el' f1' f2' f3' f4' f5'))
abbrev Ce:=LL
inductive Al{α:Type}(R:V->α->Prop):List V->List α->Prop
 |nil:Al R [] []
 |cons {v:V} {a:α} {vs:List V} {as:List α} (h:R v a) (t:Al R vs as):Al R (v::vs) (a::as)
section
variable{α:Type}{R R':V ->α ->Prop}
variable{vs:List V}{as:List α}
theorem Al.len(h:Al R vs as):vs.length=as.length:=by
 induction h with
 |nil=>rfl
 |cons _ _ ih=>rw[length_cons,length_cons,ih]
theorem Al.imp(h:Al R vs as)(f:∀v a,R v a->R' v a):Al R' vs as:=by
 induction h with
 |nil=>exact .nil
 |cons h _ ih=>exact .cons (f _ _ h) ih
theorem Al.app{us:List V}{bs:List α}(h:Al R vs as)(k:Al R us bs):Al R (vs++us) (as++bs):=by
 induction h with
 |nil=>exact k
 |cons h _ ih=>exact .cons h ih
theorem Al.one{v:V}{a:α}(h:R v a):Al R [v] [a]:=.cons h .nil
theorem Al.get(h:Al R vs as):∀{i:Nat}{v:V},vs[i]?=some v->∃a,as[i]?=some a/\R v a:=by
 induction h with
 |nil=>intro i v e;simp at e
 |cons h _ ih=>
  intro i v e;cases i with
  |zero=>cases e;exact⟨_,rfl,h⟩
  |succ i=>exact ih e
theorem Al.filter{p:α->Bool}(h:Al R vs as):∃us,Al R us (as.filter p):=by
 induction h with
 |nil=>exact⟨[],.nil⟩
 |@cons v a vs as h _ ih=>
  obtain⟨us,k⟩:=ih;rw[filter_cons];cases p a with
  |false=>exact⟨us,k⟩
  |true=>exact⟨v::us,.cons h k⟩
end
variable{H':Hp}
theorem none_of{a:Addr}(g:zR H H')(n:H' a=none):H a=none:=by
 cases hl:H a with
 |none=>rfl
 |some u=>rw[g.at hl]at n;cases n
theorem qJ(l:Ce):(tsV l).length=l.length:=length_map _
theorem xv(a b:LL):tsV a++tsV b=tsV (a++b):=by unfold tsV;rw[map_append]
variable{v:V}
theorem k8{l:Ce}{i:Nat}(h:(tsV l)[i]?=some v):∃c,l[i]?=some c/\v=.str (T c):=by
 unfold tsV at h;rw[getElem?_map]at h;cases hc:l[i]? with
 |none=>rw[hc]at h;cases h
 |some c=>rw[hc]at h;cases h;exact⟨c,rfl,rfl⟩
def Jf(K:W.Frag):Sp:=λvs H Q _=>∃(a:LN)(z g:Int),vs=[.str (T a),.int z,.int g]/\0<z/\z<=9/\0<=g/\g<=1/\a.length<=400/\∀p H',zR H H'->H' p=some (.lst ((pcs a z.toNat g.toNat a.length).map λl=>V.str (T l)))->Q (.ref p) H'
theorem gt{a:LN}(h1:0<z)(h2:z<=9)(h3:0<=g)(h4:g<=1)(h5:a.length<=400)(q:∀p H',zR H H'->H' p=some (.lst ((pcs a z.toNat g.toNat a.length).map λl=>V.str (T l)))->Q (.ref p) H'):Jf K ([.str (T a),.int z,.int g]++[]) H Q E:=⟨a,z,g,rfl,h1,h2,h3,h4,h5,q⟩
local macro_rules|`(tactic|walk_at "rdk")=>`(tactic|((with_reducible refine' gt ?h1 ?h2 ?h3 ?h4 ?h5 ?_);(case h1|h2|h3|h4|h5=>omega);intro p' H' g' e'))
def KT(K:W.Frag):Sp:=λvs H Q _=>∃(a:LN)(z:Int)(m:Nat),vs=[.str (T a),.int z,.str (T [m])]/\0<=z/\z<=9/\a.length<=400/\∀H',zR H H'->Q (.str (T (gr z.toNat m a))) H'
theorem lD{a:LN}(h1:0<=z)(h2:z<=9)(h5:a.length<=400)(q:∀H',zR H H'->Q (.str (T (gr z.toNat m a))) H'):KT K ([.str (T a),.int z,.str (T [m])]++[]) H Q E:=⟨a,z,m,rfl,h1,h2,h5,q⟩
local macro_rules|`(tactic|walk_at "rdk")=>`(tactic|((with_reducible refine' lD ?h1 ?h2 ?h5 ?_);(case h1|h2|h5=>omega);intro H' g'))
def DB(n b p:Int):Prop:=0<=n/\2<=b/\b<=16/\0<=p/\p<=6/\n.toNat<b.toNat^(40+p.toNat)
def bdI(n b p:Int)(pt:Nat)(z:Int)(m:Nat):LN:=bdy b.toNat p.toNat pt z.toNat m n.toNat
theorem DB.big{n p:Int}(h:DB n b p):n<1766847064778384329583297500742918515827483896875618958121606201292619776:=by
 obtain⟨h1,h2,h3,h4,h5,h6⟩:=h;have e1:b.toNat^(40+p.toNat)<=16^(40+p.toNat):=Nat.pow_le_pow_left (by omega) _;have e2:(16:Nat)^(40+p.toNat)<=16^46:=Nat.pow_le_pow_right (by decide) (by omega);have e3:(16:Nat)^46<1766847064778384329583297500742918515827483896875618958121606201292619776:=by right
 omega
def V3(K:W.Frag):Sp:=λvs H Q _=>∃(n b p z:Int)(pt m:Nat),vs=[.int n,.int b,.int p,.str (T [pt]),.int z,.str (T [m])]/\DB n b p/\0<=z/\z<=9/\∀H',zR H H'->Q (.str (T (bdI n b p pt z m))) H'
theorem dg{n p:Int}{pt:Nat}(h1:DB n b p)(h2:0<=z)(h3:z<=9)(q:∀H',zR H H'->Q (.str (T (bdI n b p pt z m))) H'):V3 K ([.int n,.int b,.int p,.str (T [pt]),.int z,.str (T [m])]++[]) H Q E:=⟨n,b,p,z,pt,m,rfl,h1,h2,h3,q⟩
local macro_rules|`(tactic|walk_at "rdk")=>`(tactic|((with_reducible refine' dg ?h1 ?h2 ?h3 ?_);(case h1=>assumption);(case h2|h3=>omega);intro H' g'))
def KH(K:W.Frag):Sp:=λvs H Q _=>∃(x:Str)(b:Bool),vs=[.str x,.bl b]/\yj x/\∀p,SqT K H p [.str (T (stL x b)),.str (T (stT x b))]->Q (.ref p) H
theorem oG{b:Bool}(h:yj x)(q:∀p,SqT K H p [.str (T (stL x b)),.str (T (stT x b))]->Q (.ref p) H):KH K ([.str x,.bl b]++[]) H Q E:=⟨x,b,rfl,h,q⟩
local macro_rules|`(tactic|walk_at "rdk")=>`(tactic|((with_reducible refine' oG ?h ?_);(case h=>assumption);intro p' e'))
def sg(x:Str)(b:Bool)(l:LN):LN:=stL x b++l++stT x b
theorem uP(h:yj x)(b:Bool)(l:LN):l.length<=(sg x b l).length/\(sg x b l).length<=l.length+2:=by
 have:=VP h b;unfold sg;simp only[length_append];omega
def dX(K:W.Frag):Sp:=λvs H Q _=>∃(l:LN)(x:Str)(b:Bool),vs=[.str (T l),.str x,.bl b]/\yj x/\l.length<=1000/\Q (.str (T (sg x b l))) H
theorem tN{l:LN}{b:Bool}(h:yj x)(h2:l.length<=1000)(q:Q (.str (T (sg x b l))) H):dX K ([.str (T l),.str x,.bl b]++[]) H Q E:=⟨l,x,b,rfl,h,h2,q⟩
local macro_rules|`(tactic|walk_at "rdk")=>`(tactic|((with_reducible refine' tN ?h ?h2 ?_);(case h=>assumption);(case h2=>omega)))
def je(K:W.Frag):Sp:=λvs H Q _=>∃l:LN,vs=[.str (T l)]/\Asc l/\l.length<=1000/\(Fg l->Q (.bl true) H)/\(¬Fg l->Q (.bl false) H)
theorem sR{l:LN}(h1:Asc l)(h2:l.length<=1000)(q1:Fg l->Q (.bl true) H)(q2:¬Fg l->Q (.bl false) H):je K ([.str (T l)]++[]) H Q E:=⟨l,rfl,h1,h2,q1,q2⟩
local macro_rules|`(tactic|walk_at "rdk")=>`(tactic|((with_reducible refine' sR ?h1 ?h2 (fun fg'=>?_) (fun fg'=>?_));(case h1=>assumption);(case h2=>omega)))
def VM(K:W.Frag):Sp:=λvs H Q E=>∃(t:LN)(x:Str),vs=[.str (T t),.str x]/\yj x/\Asc t/\t.length<=1000/\(∀b,Sgd x b t->∀p H',zR H H'->H' p=some (.tup [.bl b,.str (T (bod x b t))])->Q (.ref p) H')/\((¬Sgd x false t)->(¬Sgd x true t)->∀C H',Nm K "NoCore" C->zR H H'->E (.ref C) none H')
theorem ir{t:LN}{b:Bool}(h1:yj x)(h2:Asc t)(h3:t.length<=1000)(g:Sgd x b t)(q:∀p H',zR H H'->H' p=some (.tup [.bl b,.str (T (bod x b t))])->Q (.ref p) H'):spc (VM K) ([.str (T t),.str x]++[]) H Q E:=by
 refine⟨t,x,rfl,h1,h2,h3,λb' g' p H' gg e=>?_,λn0 n1=>?_⟩
 .have e2:b'=b:=by
   cases b'<;>cases b
   .rfl
   .exact(Qp h1 g' g).elim
   .exact(Qp h1 g g').elim
   .rfl
  subst e2;exact q p H' gg e
 .cases b
  .exact absurd g n0
  .exact absurd g n1
def WQ(K:W.Frag):Sp:=λvs H Q E=>∃(t:LN)(z:Int)(m:Nat),vs=[.str (T t),.int z,.str (T [m])]/\0<=z/\z<=9/\t.length<=400/\(GG z.toNat m t->∀H',zR H H'->Q (.str (T (ug z.toNat t))) H')/\(¬GG z.toNat m t->∀C H',Nm K "NoGroups" C->zR H H'->E (.ref C) none H')
def Wz(K:W.Frag):Sp:=λvs H Q E=>∃(l:LN)(b:Int),vs=[.str (T l),.int b]/\Asc l/\1<=l.length/\l.length<=240/\2<=b/\b<=16/\(yF b l->Q (.int (val b l)) H)/\(¬yF b l->∀C,Nm K "NoFigures" C->E (.ref C) none H)
def de(K:W.Frag):Sp:=λvs H Q E=>∃(t:LN)(p:Int)(pt:Nat),vs=[.str (T t),.int p,.str (T [pt])]/\0<=p/\p<=6/\t.length<=400/\(WE p.toNat pt t->Q (.int (j7 p.toNat t).length) H)/\(¬WE p.toNat pt t->∀C,Nm K "NoBody" C->E (.ref C) none H)
def dB(K:W.Frag):Sp:=λvs H Q E=>∃(t:LN)(b p z:Int)(pt m:Nat),vs=[.str (T t),.int b,.int p,.str (T [pt]),.int z,.str (T [m])]/\2<=b/\b<=16/\0<=p/\p<=6/\0<=z/\z<=9/\t.length<=400/\Asc t/\(IsB b p.toNat pt z.toNat m t->∀H',zR H H'->Q (.int (iA b p.toNat z.toNat t)) H')/\(¬IsB b p.toNat pt z.toNat m t->∀C H',Nm K "NoBody" C->zR H H'->E (.ref C) none H')
def VE(K:W.Frag):Sp:=λvs H Q _=>∃i:Int,vs=[.int i]/\Q (.bl true) H
theorem iM(q:Q (.bl true) H):VE K ([.int i]++[]) H Q E:=⟨i,rfl,q⟩
def kc(K:W.Frag):Sp:=λvs H Q _=>∃a b:Int,vs=[.int a,.int b]/\Q (.int (Int.gcd a b)) H
theorem YA(q:Q (.int (Int.gcd a b)) H):kc K ([.int a,.int b]++[]) H Q E:=⟨a,b,rfl,q⟩
local macro_rules|`(tactic|walk_at "rdk")=>`(tactic|(with_reducible refine iM ?_))
local macro_rules|`(tactic|walk_at "rdk")=>`(tactic|(with_reducible refine YA ?_))
def Qe(K:W.Frag):Sp:=λvs H Q _=>∃(p:Addr)(a b:Int),vs=[.ref p]/\H p=some (.tup [.int a,.int b])/\1<=b/\Int.gcd a b=1/\Q (.bl true) H
theorem Kc(h1:H p=some (.tup [.int a,.int b]))(h2:1<=b)(h3:Int.gcd a b=1)(q:Q (.bl true) H):Qe K ([.ref p]++[]) H Q E:=⟨p,a,b,rfl,h1,h2,h3,q⟩
local macro_rules|`(tactic|walk_at "rdk")=>`(tactic|((with_reducible refine' Kc ?h1 ?h2 ?h3 ?_);(case h1=>k_extra "hp");(case h2=>omega);(case h3=>assumption)))
def VZ(x:Str):Prop:=Zd x\/x="inside"
structure QY(fg pl b:Int)(sn:Str)(z:Int)(m pt:Nat)(wy:Str)(wd:Int)(f:Nat)(x:Str):Prop where
 fg1:1<=fg
 fg2:fg<=12
 pl1:0<=pl
 pl2:pl<=6
 b1:2<=b
 b2:b<=16
 sn:yj sn
 z1:0<=z
 z2:z<=9
 m:m<127
 pt:pt<127
 wy:Way wy
 wd1:0<=wd
 wd2:wd<=40
 f:f<127
 x:VZ x
def jB(fg pl b:Int)(sn:Str)(z:Int)(m pt:Nat)(wy:Str):List (Str×V):=[("figures",.int fg),("places",.int pl),("base",.int b),("sign",.str sn),("size",.int z),("mark",.str (T [m])),("point",.str (T [pt])),("way",.str wy)]
def nns:List Str:=["figures","places","base","sign","size","mark","point","way"]
section
variable{H:Hp}{a C:Addr}{wd:Int}{f:Nat}{x:Str}{st:Bool}{fg pl b:Int}{sn:Str}{z:Int}{m pt:Nat}{wy:Str}
theorem A4{g:Str}(h:g∉nns):(jB fg pl b sn z m pt wy).lookup g=none:=by
 simp only[nns,mem_cons,not_mem_nil,or_false,not_or]at h;obtain⟨h1,h2,h3,h4,h5,h6,h7,h8⟩:=h;exact(qH h1).trans ((qH h2).trans ((qH h3).trans ((qH h4).trans ((qH h5).trans ((qH h6).trans ((qH h7).trans ((qH h8).trans rfl)))))))
theorem XU{g:Str}(F:zS K H a C wd f x st (jB fg pl b sn z m pt wy))(h:g∉bns)(l:(jB fg pl b sn z m pt wy).lookup g=some v)(n:g∈nns):jj K H a g v:=F.own h l n
theorem iU(F:zS K H a C wd f x st (jB fg pl b sn z m pt wy)):jj K H a "figures" (.int fg):=XU F (by right) ZW (by right)
theorem mP(F:zS K H a C wd f x st (jB fg pl b sn z m pt wy)):jj K H a "places" (.int pl):=XU F (by right) ((qH (by right)).trans ZW) (by right)
theorem BE(F:zS K H a C wd f x st (jB fg pl b sn z m pt wy)):jj K H a "base" (.int b):=XU F (by right) ((qH (by right)).trans ((qH (by right)).trans ZW)) (by right)
theorem B6(F:zS K H a C wd f x st (jB fg pl b sn z m pt wy)):jj K H a "sign" (.str sn):=XU F (by right) ((qH (by right)).trans ((qH (by right)).trans ((qH (by right)).trans ZW))) (by right)
theorem A5(F:zS K H a C wd f x st (jB fg pl b sn z m pt wy)):jj K H a "size" (.int z):=XU F (by right) ((qH (by right)).trans ((qH (by right)).trans ((qH (by right)).trans ((qH (by right)).trans ZW)))) (by right)
theorem B1(F:zS K H a C wd f x st (jB fg pl b sn z m pt wy)):jj K H a "mark" (.str (T [m])):=XU F (by right) ((qH (by right)).trans ((qH (by right)).trans ((qH (by right)).trans ((qH (by right)).trans ((qH (by right)).trans ZW))))) (by right)
theorem pc(F:zS K H a C wd f x st (jB fg pl b sn z m pt wy)):jj K H a "point" (.str (T [pt])):=XU F (by right) ((qH (by right)).trans ((qH (by right)).trans ((qH (by right)).trans ((qH (by right)).trans ((qH (by right)).trans ((qH (by right)).trans ZW)))))) (by right)
theorem Db(F:zS K H a C wd f x st (jB fg pl b sn z m pt wy)):jj K H a "way" (.str wy):=XU F (by right) ((qH (by right)).trans ((qH (by right)).trans ((qH (by right)).trans ((qH (by right)).trans ((qH (by right)).trans ((qH (by right)).trans ((qH (by right)).trans ZW))))))) (by right)
theorem eH{g:Str}(F:zS K H a C wd f x st (jB fg pl b sn z m pt wy))(h0:g∉bns)(h1:g∉nns):tG H a C g:=F.meth h0 (A4 h1)
end
local macro_rules|`(tactic|walk_at "fld2")=>`(tactic|first|(exact iU (by k_extra "fm"))|(exact mP (by k_extra "fm"))|(exact BE (by k_extra "fm"))|(exact B6 (by k_extra "fm"))|(exact A5 (by k_extra "fm"))|(exact B1 (by k_extra "fm"))|(exact pc (by k_extra "fm"))|(exact Db (by k_extra "fm")))
local macro_rules|`(tactic|walk_at "ins")=>`(tactic|exact eH (by k_extra "fm") (by decide +kernel) (by decide +kernel))
def jQ(K:W.Frag)(C:Addr):Sp:=λvs H Q _=>∃(a:Addr)(fg pl b:Int)(sn:Str)(z:Int)(m pt:Nat)(wy:Str)(wd:Int)(f:Nat)(x:Str)(st:Bool)(n:Int),vs=[.ref a,.int n]/\zS K H a C wd f x st (jB fg pl b sn z m pt wy)/\QY fg pl b sn z m pt wy wd f x/\Q (.bl (decide (b^(fg+pl).toNat<=n))) H
variable{C:Addr}{fg pl wd:Int}{sn wy:Str}{st:Bool}
theorem eV{a:Addr}{pt:Nat}{n:Int}(h1:zS K H a C wd f x st (jB fg pl b sn z m pt wy))(h2:QY fg pl b sn z m pt wy wd f x)(q:Q (.bl (decide (b^(fg+pl).toNat<=n))) H):jQ K C (.ref a::([.int n]++[])) H Q E:=⟨a,fg,pl,b,sn,z,m,pt,wy,wd,f,x,st,n,rfl,h1,h2,q⟩
local macro_rules|`(tactic|walk_at "rdk")=>`(tactic|((with_reducible refine' eV ?h1 ?h2 ?_);(case h1=>k_extra "fm");(case h2=>assumption)))
def xN(pl b:Int)(sn:Str)(z:Int)(m pt:Nat)(k:Int):LN:=sg sn (decide (k<0)) (bdI k.natAbs b pl pt z m)
def Vi(fg pl b:Int)(k:Int):Prop:=k.natAbs<b.toNat^(fg+pl).toNat
def yk(K:W.Frag)(C:Addr):Sp:=λvs H Q _=>∃(o p:Addr)(fg pl b:Int)(sn:Str)(z:Int)(m pt:Nat)(wy:Str)(wd:Int)(f:Nat)(x:Str)(st:Bool)(u v k:Int),vs=[.ref o,.ref p]/\zS K H o C wd f x st (jB fg pl b sn z m pt wy)/\QY fg pl b sn z m pt wy wd f x/\H p=some (.tup [.int u,.int v])/\GrB u v/\Int.gcd u v=1/\hG wy u v (b^pl.toNat)=k/\Vi fg pl b k/\∀H',zR H H'->Q (.str (T (xN pl b sn z m pt k))) H'
variable{o:Addr}
theorem AM{pt:Nat}{u v:Int}(h1:zS K H o C wd f x st (jB fg pl b sn z m pt wy))(h2:QY fg pl b sn z m pt wy wd f x)(h3:H p=some (.tup [.int u,.int v]))(h4:GrB u v)(h5:Int.gcd u v=1)(h6:hG wy u v (b^pl.toNat)=k)(h7:Vi fg pl b k)(q:∀H',zR H H'->Q (.str (T (xN pl b sn z m pt k))) H'):yk K C (.ref o::([.ref p]++[])) H Q E:=⟨o,p,fg,pl,b,sn,z,m,pt,wy,wd,f,x,st,u,v,k,rfl,h1,h2,h3,h4,h5,h6,h7,q⟩
def yO(K:W.Frag):Sp:=λvs H Q _=>∃(a C:Addr)(wd:Int)(f:Nat)(x:Str)(st:Bool)(more:List (Str×V))(t:LN),vs=[.ref a,.str (T t)]/\zS K H a C wd f x st more/\t.length<=400/\Q (.bl (st&&decide (wd<t.length))) H
theorem V6{a:Addr}{more:List (Str×V)}{t:LN}(h1:zS K H a C wd f x st more)(h2:t.length<=400)(q:Q (.bl (st&&decide (wd<t.length))) H):yO K (.ref a::([.str (T t)]++[])) H Q E:=⟨a,C,wd,f,x,st,more,t,rfl,h1,h2,q⟩
local macro_rules|`(tactic|walk_at "rdk")=>`(tactic|((with_reducible refine' V6 ?h1 ?h2 ?_);(case h1=>k_extra "fm");(case h2=>omega)))
def Isw(sg:LN)(lo hi:Int)(t:LN):Prop:=(lo<=t.length/\(t.length:Int)<=hi)/\∀c∈t,c∈sg
instance(sg:LN)(lo hi:Int)(t:LN):Decidable (Isw sg lo hi t):=by unfold Isw;infer_instance
inductive Fd where
 |num (fg pl b:Int) (sn:Str) (z:Int) (m pt:Nat) (wy:Str)
 |word (sg:LN) (lo hi:Int)
 |cho (ns:Ce)
def xn(sg:LN)(lo hi:Int):List (Str×V):=[("signs",.str (T sg)),("least",.int lo),("most",.int hi)]
variable{lo hi:Int}
theorem C3{sg:LN}{m:Str}(h1:m≠"signs")(h2:m≠"least")(h3:m≠"most"):(xn sg lo hi).lookup m=none:=(qH h1).trans ((qH h2).trans ((qH h3).trans rfl))
section
variable{H:Hp}{a C:Addr}{wd:Int}{f:Nat}{x:Str}{st:Bool}{sg:LN}{lo hi:Int}
theorem pS(F:zS K H a C wd f x st (xn sg lo hi)):jj K H a "signs" (.str (T sg)):=F.own (by right) ZW (mem_cons_self ..)
theorem tF(F:zS K H a C wd f x st (xn sg lo hi)):jj K H a "least" (.int lo):=F.own (by right) ((qH (by right)).trans ZW) (mem_cons_of_mem _ (mem_cons_self ..))
theorem Ag(F:zS K H a C wd f x st (xn sg lo hi)):jj K H a "most" (.int hi):=F.own (by right) ((qH (by right)).trans ((qH (by right)).trans ZW)) (mem_cons_of_mem _ (mem_cons_of_mem _ (mem_cons_self ..)))
theorem fO{m:Str}(F:zS K H a C wd f x st (xn sg lo hi))(h0:m∉bns)(h1:m≠"signs")(h2:m≠"least")(h3:m≠"most"):tG H a C m:=F.meth h0 (C3 h1 h2 h3)
end
local macro_rules|`(tactic|walk_at "fld2")=>`(tactic|first|(exact pS (by k_extra "fm"))|(exact tF (by k_extra "fm"))|(exact Ag (by k_extra "fm")))
local macro_rules|`(tactic|walk_at "ins")=>`(tactic|exact fO (by k_extra "fm") (by decide +kernel) (by decide +kernel) (by decide +kernel) (by decide +kernel))
include Z in
theorem JW:Has P w K mg base "_law_cell_at" 1 ["_law_script","_law_k"] (Qf K):=by
 refine jZ Z.kn Z.f0 Vp λs H E hr=>⟨_,zA (zb (zX Vl (pv 1) (zL (lnN K) Z.am rfl qE (sa1 (pw 0)))) (zB (zJ (pi2 (ixl K) (pw 0) (pw 1)))) zM) (zB (zJ zK)),?_⟩
 nofun;rintro _ Q ⟨a,ns,k,rfl,hS,hk,q⟩;symm;left
 .rename_i hc;rw[length_map]at hc;exact jF hS hk (by rw[length_map];omega) λx hx=>by
   obtain⟨v,_,rfl⟩:=List.mem_map.mp (mem_of_getElem? hx);exact q v
 .exact q 0
include Z in
theorem zN:Has P w K mg base "_law_pick" 1 ["_law_cell","_law_salt","_law_many"] (Qi K):=by
 refine jZ Z.kn Z.f1 kr λs H E hr=>⟨_,zA (zb (PW.pt (QP (zX kz (pv 0) (du (k:=1000000000000000000) (by unfold E3;decide) (by right))) (y9 (zX kz (zU Kv (pv 0) (po2 qt pwi (pw 1))) zK)))) (zB (zJ (zU z9 (zU z9 (zU Kv (pv 0) (po2 qt pwi (pw 1))) zK) (pv 2)))) zM) (zA (zF 3 kr.nd (zU z9 (zU zm (zU zm (po2 z9 (pw 0) pwi) zK) (po2 qt pwi (pw 1))) zK)) (zA (zF 3 kr.nd (zU z9 (po2 qt (pw 3) (pw 3)) zK)) (zA (zF 4 kr.nd (zU z9 (zU qt (po2 zm (pw 3) pwi) (zU zm (zU zm (po2 qG (pw 3) pwi) zK) (pv 1))) zK)) (zB (zJ (zU z9 (po2 qG (pw 4) pwi) (pv 2))))))),?_⟩
 nofun;rintro _ Q ⟨c,t,m,rfl,ht,hm,q⟩;symm;have n0:∀a:Int,0<=a%m/\a%m<m:=λa=>⟨emod_nonneg _ (by omega),emod_lt_of_pos _ hm⟩
 unfold pk pkA at q;left
 .rename_i c1 c2;rw[if_pos ⟨c1,c2⟩]at q;exact q (n0 _).1 (n0 _).2
 .rename_i c1 c2;rw[if_neg (λy=>c2 y.2)]at q;exact q (n0 _).1 (n0 _).2
 .rename_i c1;rw[if_neg (λy=>c1 y.1)]at q;exact q (n0 _).1 (n0 _).2
include Z in
theorem Ws:Has P w K mg base "pads_of" 1 ["length","width","side"] (V9 K):=by
 refine jZ Z.kn Z.f2 KR λs H E hr=>⟨_,zA (zF 3 KR.nd (zL (QF rfl) Z.aq rfl gX (pa2 zK (po2 jP (pw 1) (pw 0))))) (zA (zb (pt2 qD (pw 2) pws) (zB (zJ (zY (sa2 pwi (pw 3))))) zM) (zA (zb (pt2 qD (pw 2) pws) (zB (zJ (zY (sa2 (pw 3) pwi)))) zM) (zB (zJ (zY (pa2 (po2 qG (pw 3) pwi) (zU jP (pv 3) (po2 qG (pw 3) pwi)))))))),?_⟩
 nofun;rintro _ Q ⟨n,w,x,rfl,hs,h0,hw,q⟩;symm;have b:=Jz n w h0 hw;have e:pB x n w=lk n w-pA x n w:=rfl;rcases hs with rfl|rfl|rfl
 .rw[pAl]at q e;left;rename_i k hk p' H' g' e';exact q _ _ g' (by rw[e',show k=pB "left" n w by omega])
 .rw[pAr]at q e;left;rename_i k hk p' H' g' e';exact q _ _ g' (by rw[e',show k=lk n w by omega,show pB "right" n w=0 by omega])
 .rw[pAm]at q e;left;rename_i k hk p' H' g' e';exact q _ _ g' (by rw[e',e,show k=lk n w by omega])
include Z in
theorem K6:Has P w K mg base "padded" 2 ["text","width","fill","side"] (dF K):=by
 refine jZ Z.kn Z.f3 aK λs H E hr=>⟨_,zA (zF 4 aK.nd (zE (Ws Z :) hr (pa3 (zL za Z.am rfl qE (sa1 (pw 0))) (pv 1) (pv 3)))) (zB (zJ (zU qA (zU qA (zU Zu (pv 2) (pii (ixt K) (pw 4))) (pv 0)) (zU Zu (pv 2) (pii (ixt K) (pw 4)))))),?_⟩
 nofun;rintro _ Q ⟨t,w,f,x,rfl,hs,h0,hw,q⟩;symm;have b:=yb (n:=t.length) hs (by omega) hw;have b':=b;obtain⟨b1,b2,b3,_⟩:=b';have bl:=Jz t.length w (by omega) hw;left;exact q _ (by assumption)
local macro_rules|`(tactic|walk_at "rdk")=>`(tactic|((with_reducible refine' iZ ?h1 ?h2 ?h3 ?h4 ?_);(case h1|h2|h3|h4=>omega)))
local macro_rules|`(tactic|walk_at "rdk")=>`(tactic|((with_reducible refine' lG ?h1 ?h2 ?h3 ?_);(case h1=>assumption);(case h2|h3=>omega)))
local macro_rules|`(tactic|walk_at "rdk")=>`(tactic|((with_reducible refine' oQ ?h1 ?h2 ?h3 ?h4 ?h5 ?h6 ?h7 ?_);(case h1=>k_extra "hp");(case h2=>assumption);(case h3|h4|h5|h6=>omega);(case h7=>first|assumption|exact .inl rfl|exact .inr (.inl rfl)|exact .inr (.inr (.inl rfl))|exact .inr (.inr (.inr (.inl rfl)))|exact .inr (.inr (.inr (.inr rfl))))))
include Z in
theorem XF:Has P w K mg base "power_of" 1 ["base","times"] (Yb K):=by
 refine jZ Z.kn Z.f4 kq λs H E hr=>⟨_,zA (zF 2 kq.nd zK) (zA (kQ PassesOwn.never rfl (jW rfl Z.an (sa1 (pw 1))) (zh 3 kq.nd) (zB (zF 2 kq.nd (po2 qt (pw 2) (pw 0))))) (zB (zJ (pv 2)))),?_⟩
 nofun;rintro _ Q ⟨b,t,rfl,h1,h2,h3,h4,q⟩;symm;left;refine Ql (by omega) (by omega) (λi σ H'=>H'=H/\∃r,σ=[some (.int b),some (.int t),some (.int (b^i)),r]) ⟨rfl,none,by rw[Int.pow_zero];rfl⟩ ?_ ?_
 .rintro i σ H' hi ⟨rfl,r,rfl⟩;have z:=G1 (n:=i) h1 h2 (by omega);left;exact⟨rfl,some (.int (0+i)),by rw[pow_succ];rfl⟩
 .rintro σ H' ⟨rfl,r,rfl⟩;left;exact q
include Z in
theorem nU:Has P w K mg base "goes_up" 1 ["below","rest","bottom","way"] (KJ K):=by
 refine jZ Z.kn Z.f5 iR λs H E hr=>⟨_,zA (zb (pt2 qD (pw 3) pws) (zB (zJ QK)) zM) (zA (zb (pt2 qD (pw 3) pws) (zB (zJ QK)) zM) (zA (zb (pt2 qD (pw 3) pws) (zB (zJ (pc2 Vl (pw 0) pwi))) zM) (zA (zb (zX ZV (po2 qt pwi (pw 1)) (pv 2)) (zB (zJ (jT kz (po2 qt pwi (pw 1)) (pv 2)))) zM) (zB (zJ (CO (pc2 qD (pw 3) pws) (QZ (jT qD (po2 z9 (pw 0) pwi) zK)))))))),?_⟩
 nofun;rintro _ Q ⟨be,re,bo,w,rfl,h1,h2,h3,q⟩;symm;rcases h1 with rfl|rfl|rfl|rfl|rfl
 all_goals left
 .rw[CJ]at q;exact q
 .rw[GQ]at q;exact q
 .rw[ED]at q;exact q
 .rw[Bv (by assumption)]at q;exact q
 .rw[rH (by assumption)]at q;exact q
 .rw[B4 (by assumption)]at q;exact q
 .rw[tV (by assumption)]at q;exact q
include Z in
theorem lg:Has P w K mg base "gridded" 2 ["value","base","places","way"] (V4 K):=by
 refine jZ Z.kn Z.f6 kW λs H E hr=>⟨_,zA (zF 4 kW.nd (zU qt (pii (ixt K) (pw 0)) (zE (XF Z :) hr (sa2 (pw 1) (pw 2))))) (zA (zF 5 kW.nd (pii (ixt K) (pw 0))) (zA (zF 6 kW.nd (po2 qG (pw 4) (pw 5))) (zA (zF 7 kW.nd (po2 z9 (pw 4) (pw 5))) (zA (zb (PW.pt (QP (pt2 kz (pw 7) pwi) (y9 (z7 (zE (nU Z :) hr (sa4 (pw 6) (pw 7) (pw 5) (pw 3))))))) (zB (zJ (po2 zm (pw 6) pwi))) zM) (zB (zJ (pv 6))))))),?_⟩
 nofun;rintro _ Q ⟨p,a,b,c,t,w,rfl,h1,⟨g1,g2,g3,g4⟩,h3,h4,h5,h6,h7,q⟩;symm;have z:=pw6 (t:=t) h3 h4 h6;have m:=EJ (M:=16777217) g1 g2 (show 0<c^t.toNat by omega) (by omega);have n:=Gu (a*c^t.toNat) g3;unfold hG at q;left
 .rw[if_pos ⟨by assumption,by assumption⟩]at q;exact q
 .rename_i hc1 hc2;rw[if_neg (λz=>by rw[hc2]at z;exact Bool.false_ne_true z.2)]at q;exact q
 .rename_i hc1;rw[if_neg (λz=>hc1 z.1)]at q;exact q
include Z in
theorem XY:Has P w K mg base "figures_of" 1 ["number","base"] (JV K):=by classical
 refine jZ Z.kn Z.f7 xC λs H E hr=>⟨_,zA (zF 2 xC.nd (zc jY (qg rfl Z.aB (v:=.str "0123456789abcdef") ⟨_,rfl⟩) (po2 z9 (pw 0) (pw 1)))) (zA (zF 3 xC.nd (po2 qG (pw 0) (pw 1))) (zA (Jd PassesOwn.never (pt2 kz (pw 3) pwi) (zA (zF 2 xC.nd (zU qA (zc jY (qg rfl Z.aB (v:=.str "0123456789abcdef") ⟨_,rfl⟩) (po2 z9 (pw 3) (pw 1))) (pv 2))) (zB (zF 3 xC.nd (po2 qG (pw 3) (pw 1)))))) (zB (zJ (pv 2))))),?_⟩
 nofun;rintro _ Q ⟨n,b,rfl,h1,h2,h3,h4,q⟩;symm;obtain⟨N,rfl⟩:=eq_ofNat_of_zero_le h1;obtain⟨m,rfl⟩:=eq_ofNat_of_zero_le (show 0<=b by omega);have hz:=JL (b:=m) (n:=N) (by omega) (by omega);have em:∀k:Nat,(k:Int)%(m:Int)=((k%m:Nat):Int):=λk=>(Int.natCast_emod k m).symm;have ed:∀k:Nat,(k:Int)/(m:Int)=((k/m:Nat):Int):=λk=>(Int.natCast_ediv k m).symm;have lm:∀k:Nat,k%m<m:=λk=>Nat.mod_lt k (by omega);have sp:=Vh (b:=m) (by omega) (by omega) N N (Nat.le_refl _);replace q:=q _ rfl (by simp only[toNat_natCast];exact sp.1) (by simp only[toNat_natCast];exact sp.2.1) (by simp only[toNat_natCast];exact List.length_pos_iff.mpr sp.2.2.1) (by simp only[toNat_natCast];exact hz) (by
  simp only[toNat_natCast];intro z;rw[sp.2.2.2 z,jL (by omega)];right)
 simp only[toNat_natCast]at q;have l0:=lm N;have e0:=em N;left;rw[ed N,em N,toNat_natCast];refine VQ (λk σ H'=>H'=H/\∃l:LN,σ=[some (.int N),some (.int m),some (.str (T l)),some (.int k)]/\yh m N=if k=0 then l else yh m k++l) ⟨N/m,rfl,[fc (N%m)],rfl,?_⟩ ?_
 .have t:=VX (b:=m) (m:=N) (by omega) [];rw[append_nil]at t;exact t
 .rintro k σ H' ⟨rfl,l,rfl,e⟩;have lk:=lm k;have ek:=em k;have ll:l.length<=240:=by
   have z:=congrArg List.length e;split at z
   .omega
   .rw[length_append]at z;omega
  left
  .rename_i hc;refine⟨k/m,Nat.div_lt_self (by omega) (by omega),rfl,fc (k%m)::l,?_,?_⟩
   .rw[em k,ed k,toNat_natCast];rfl
   .rw[<- VX (by omega) l,e,if_neg (by omega)]
  .rename_i hc;rw[if_pos (by omega)]at e;rw[<- e];exact q
include Z in
theorem Xa:Has P w K mg base "parts_of" 1 ["text","size","between"] (Jf K):=by classical
 refine jZ Z.kn Z.f8 ky λs H E hr=>⟨_,zA (zF 3 ky.nd (ze ZS)) (zA (zF 4 ky.nd (zL za Z.am rfl qE (sa1 (pw 0)))) (zA (Jd PassesOwn.never (pt2 kz (pw 4) pwi) (zA (qO (pbk K PySem.F.plainAttrs_list PySem.F.slot_list_append PySem.F.type_list_append xE (pv 3) (pa1 (zx xk (pv 0) (zt (zL (QF rfl) Z.aq rfl gX (pa2 zK (po2 jP (pw 4) (pw 1))))) (zt (pv 4)))))) (zB (zF 4 ky.nd (zU jP (po2 jP (pw 4) (pw 1)) (pv 2)))))) (zA (qO (u8 PySem.F.plainAttrs_list PySem.F.slot_list_reverse PySem.F.type_list_reverse iL (pv 3))) (zB (zJ (pv 3)))))),?_⟩
 nofun;rintro _ Q ⟨a,z,g,rfl,h1,h2,h3,h4,h5,q⟩;symm;refine fF (rz (oa (pP (Kj (by decide) λl hl=>?_))));left;refine VQ (λk σ H'=>∃(e:Int)(ps:LL),σ=[some (.str (T a)),some (.int z),some (.int g),some (.ref l),some (.int e)]/\H'=upd H l (.lst (ps.map λl=>V.str (T l)))/\k=e.toNat/\ps.length+e.toNat<=a.length/\e<=a.length/\pcs a z.toNat g.toNat a.length=pcs a z.toNat g.toNat e.toNat++ps.reverse) ⟨_,a.length,[],rfl,rfl,rfl,by simp,Int.le_refl _,by simp⟩ ?_;rintro k σ H' ⟨e,ps,rfl,rfl,rfl,b1,b2,ep⟩;left
 .rename_i hc k' hk';refine y2 zO (qu (by rw[length_map];omega)) ?_;rw[qr];left;refine⟨(e-z-g).toNat,by omega,e-z-g,ps++[(a.take e.toNat).drop k'.toNat],rfl,by rw[map_append];rfl,rfl,by rw[length_append,List.length_singleton];omega,by omega,?_⟩;rw[ep,Y2 (by omega) (by omega),List.reverse_append,tns (by omega),tns (by omega),show k'.toNat=e.toNat-z.toNat by rw[<- tns (by omega)];omega];simp
 .rename_i hc;refine mT zO ?_;rw[qr];left;refine q _ _ (zw (zR.refl _) hl) ?_;rw[zO,ep,show e.toNat=0 by omega,ym,nil_append,List.map_reverse]
include Z in
theorem Wc:Has P w K mg base "grouped" 2 ["text","size","mark"] (KT K):=by
 refine jZ Z.kn Z.f9 iB λs H E hr=>⟨_,zA (zb (pt2 qD (pw 1) pwi) (zB (zJ (pv 0))) zM) (zB (zJ (pbk K PySem.F.plainAttrs_str PySem.F.slot_str_join PySem.F.type_str_join (jnT K) (pv 2) (pa1 (zE (Xa Z :) hr (sa3 (pw 0) (pw 1) pwi)))))),?_⟩
 nofun;rintro _ Q ⟨a,z,m,rfl,h1,h2,h5,q⟩;symm;have bd:=λhz:0<z.toNat=>gG (a:=a) (g:=0) hz a.length a.length (Nat.le_refl _);left
 .rename_i hc;subst hc;have q':=q _ (zR.refl _);rw[show Int.toNat 0=0 from rfl,Zy]at q';exact q'
 .rename_i hc p' H' g' e';have b:=bd (by omega);refine Z6 e' (by rw[YN,List.length_singleton,show Int.toNat 0=0 from rfl];omega) ?_;rw[YN,show Int.toNat 0=0 from rfl,GP (by omega)];exact q _ g'
include Z in
theorem mU:Has P w K mg base "body_of" 3 ["number","base","places","point","size","mark"] (V3 K):=by classical
 refine jZ Z.kn Z.aT QD λs H E hr=>⟨_,zA (zF 6 QD.nd (pbk K PySem.F.plainAttrs_str PySem.F.slot_str_rjust PySem.F.type_str_rjust mZ (zE (XY Z :) hr (sa2 (pw 0) (pw 1))) (pa2 (po2 zm (pw 2) pwi) (zW [48])))) (zA (zF 7 QD.nd (zU jP (zL za Z.am rfl qE (sa1 (pw 6))) (pv 2))) (zA (zF 8 QD.nd (zE (Wc Z :) hr (pa3 (zx xk (pv 6) qm (zt (pv 7))) (pv 4) (pv 5)))) (zA (zb (pt2 qD (pw 2) pwi) (zB (zJ (pv 8))) zM) (zB (zJ (zU qA (po2 qA (pw 8) (pw 3)) (zx xk (pv 6) (zt (pv 7)) qm))))))),?_⟩
 nofun;rintro _ Q ⟨n,b,p,z,pt,m,rfl,hn,h2,h3,q⟩;symm;have big:=hn.big;have hn':=hn;obtain⟨n1,n2,n3,n4,n5,n6⟩:=hn';have ds:=JA (b:=b.toNat) (p:=p.toNat) (n:=n.toNat) (by omega) (by omega) (by omega) n6;have ws:=gP (b:=b.toNat) (p:=p.toNat) (n:=n.toNat) (by omega) (by omega) (by omega) n6;have gl:=dU (z:=z.toNat) (m:=m) (a:=whl b.toNat p.toNat n.toNat);left;rename_i l el f1 f2 f3 f4 f5;have ed:List.replicate ((p+1).toNat-l.length) 48++l=dgs b.toNat p.toNat n.toNat:=by
  rw[el];unfold dgs;rw[show(p+1).toNat=p.toNat+1 by omega]
 have ew:(dgs b.toNat p.toNat n.toNat).take (((dgs b.toNat p.toNat n.toNat).length:Int)-p).toNat=whl b.toNat p.toNat n.toNat:=by
  unfold whl;rw[show(((dgs b.toNat p.toNat n.toNat).length:Int)-p).toNat=(dgs b.toNat p.toNat n.toNat).length-p.toNat by omega]
 have er:(dgs b.toNat p.toNat n.toNat).drop (((dgs b.toNat p.toNat n.toNat).length:Int)-p).toNat=rst b.toNat p.toNat n.toNat:=by
  unfold rst;rw[show(((dgs b.toNat p.toNat n.toNat).length:Int)-p).toNat=(dgs b.toNat p.toNat n.toNat).length-p.toNat by omega]
 rw[ed];left;rw[ew];left
 .rename_i H1 g1 hc;have e:bdI n b p pt z m=gr z.toNat m (whl b.toNat p.toNat n.toNat):=by unfold bdI bdy;rw[if_pos (by omega)]
  have q':=q _ g1;rw[e]at q';exact q'
 .rename_i H1 g1 hc;have e:bdI n b p pt z m=gr z.toNat m (whl b.toNat p.toNat n.toNat)++[pt]++rst b.toNat p.toNat n.toNat:=by unfold bdI bdy;rw[if_neg (by omega)]
  have q':=q _ g1;rw[e]at q';rw[er];first|exact q'|(rw[ew];exact q')
include Z in
theorem Qz:Has P w K mg base "ends_of" 1 ["style","below"] (KH K):=by
 have sty:Sty w K jg:=Z.aI;refine jZ Z.kn Z.aU im λs H E hr=>⟨_,zA (zb (z7 (pv 1)) (zB (zJ (Xb (ixt K) (zc Fm (qg rfl Z.aC (v:=.ref jg) rfl) (pv 0))))) zM) (zB (zJ (Xb (ixt K) (zc Fm (qg rfl Z.aC (v:=.ref jg) rfl) (pv 0))))),?_⟩
 nofun;rintro _ Q ⟨x,b,rfl,hx,q⟩;symm;obtain⟨p,a,c,kd,sq⟩:=sty x hx;cases b with
 |true=>
  left;refine DT kd ?_;left;exact sF (sq H).1 rfl (q _ (sq H).2.2)
 |false=>
  left;refine DT kd ?_;left;exact sF (sq H).1 rfl (q _ (sq H).2.1)
include Z in
theorem gW:Has P w K mg base "signed" 2 ["body","style","below"] (dX K):=by
 refine jZ Z.kn Z.aV aO λs H E hr=>⟨_,zA (zF 3 aO.nd (zE (Qz Z :) hr (sa2 (pw 1) (pw 2)))) (zB (zJ (zU qA (zU qA (pii (ixt K) (pw 3)) (pv 0)) (pii (ixt K) (pw 3))))),?_⟩
 nofun;rintro _ Q ⟨l,x,b,rfl,hx,hl,q⟩;symm;have ln:=VP hx b;left;exact q
include Z in
theorem kY:Has P w K mg base "stands_between_figures" 1 ["body"] (je K):=by
 refine jZ Z.kn Z.aW kD λs H E hr=>⟨_,zB (zJ (XX (pc2 ZV (pw 0) (pwl [])) (XX (ki KP (pii jY (pw 0)) (qg rfl Z.aB (v:=.str "0123456789abcdef") ⟨_,rfl⟩) (by with_unfolding_all rfl)) (QZ (ki KP (zc jY (pv 0) (Zl xi zK)) (qg rfl Z.aB (v:=.str "0123456789abcdef") ⟨_,rfl⟩) (by with_unfolding_all rfl)))))),?_⟩
 nofun;rintro _ Q ⟨l,rfl,al,hl,q1,q2⟩;symm;unfold Fg at q1 q2;rcases eq_zero_or_pos l.length with p|p
 .have e:=List.eq_nil_of_length_eq_zero p;subst e;left;exact q2 λz=>z.1 rfl
 .have c0:=fz al (i:=0) p;have c1:=fz al (i:=l.length-1) (by omega);have ne:l≠[]:=List.length_pos_iff.mp p;left
  .rename_i h1 h2;by_cases h3:0<=fv (l.getD (l.length-1) 0)
   .rw[decide_eq_true h3];exact q1 ⟨ne,h2,h3⟩
   .rw[decide_eq_false h3];exact q2 λz=>h3 z.2.2
  .rename_i h1 h2;exact q2 λz=>h2 z.2.1
  .rename_i h1;exact absurd h1 (by rw[decide_eq_false ne];decide)
include Z in
theorem KN:Bj P w K mg base "unsigned" 3 ["core","style"] (VM K):=by classical
 have WH:Nm K "NoCore" qp:=Z.cB;refine u4 Z.kn Z.aX (l2N (by intros;rfl)) λfq fd F=>?_;refine F.okX k7 (λvs H Q E=>?_) (λ_ _ _ s H vs Q E hr h tk=>?_)
 .k_extra "ln"
 refine⟨_,zA (kQ PassesOwn.leaving rfl (Eu (zY (sa2 pwb pwb))) (zh 2 k7.nd) (zA (zF 3 k7.nd (zE (Qz Z :) hr (sa2 (pw 1) (pw 2)))) (zA (zF 4 k7.nd (zx xk (pv 0) (zt (zL za Z.am rfl qE (pa1 (pii (ixt K) (pw 3))))) (zt (zU jP (zL za Z.am rfl qE (sa1 (pw 0))) (zL za Z.am rfl qE (pa1 (pii (ixt K) (pw 3)))))))) (zB (zb (PW.pt (QP (z7 (zE (kY Z :) hr (sa1 (pw 4)))) (y9 (zX qD (zE (gW Z :) hr (sa3 (pw 4) (pw 1) (pw 2))) (pv 0))))) (zB (zJ (zY (sa2 (pw 2) (pw 4))))) zM))))) (zB (ku tk rfl Z.cw rfl Z.af (sa1 pws))),?_⟩;k_extra "hz";obtain⟨t,x,rfl,hx,al,hl,q1,q2⟩:=h;all_goals symm
 have q2':=λn0 n1 H' g=>q2 n0 n1 qp H' WH g;left;rename_i p0 H0 g0 e0;refine BB (SqT.of e0) (λi σ H'=>H'=H0/\(1<=i->¬Sgd x false t)/\(2<=i->¬Sgd x true t)/\∃r1 r2 r3:Option V,σ=[some (.str (T t)),some (.str x),r1,r2,r3]) ⟨rfl,λz=>absurd z (by omega),λz=>absurd z (by omega),none,none,none,rfl⟩ (λi σ H' _ z=>by rw[z.1];exact SqT.of e0) ?_ ?_
 .rintro i y σ H' hi ⟨rfl,n0,n1,r1,r2,r3,rfl⟩;have hm:=mem_of_getElem? hi;simp only[mem_cons,not_mem_nil,or_false]at hm;have hy:∃b:Bool,y=.bl b/\(b=false↔i=0)/\(b=true↔i=1):=by
   match i,hi with
   |0,hi=>cases hi;exact⟨false,rfl,by simp,by simp⟩
   |1,hi=>cases hi;exact⟨true,rfl,by simp,by simp⟩
   |i+2,hi=>cases hi
  obtain⟨b,rfl,hb0,hb1⟩:=hy;have sl:=VP hx b;have nxt:¬Sgd x b t->(1<=i+1->¬Sgd x false t)/\(2<=i+1->¬Sgd x true t):=λh=>by
   cases b
   .have:=hb0.mp rfl;subst this;exact⟨λ_=>h,λz=>absurd z (by omega)⟩
   .have:=hb1.mp rfl;subst this;exact⟨λ_=>n0 (by omega),λ_=>h⟩
  have ab:Asc (bod x b t):=A8 al;have lb:=Bb (x:=x) (b:=b) (t:=t);rcases eq_zero_or_pos t.length with tz|tz
  .have e:=List.eq_nil_of_length_eq_zero tz;subst e;have nb:¬Sgd x b []:=λz=>by
    have:=List.length_pos_iff.mpr z.1.1;rw[lb]at this;simp at this
   have anil:Asc []:=Asc.nil;left
   .rename_i fg _ _ _ _ _;exact absurd rfl fg.1
   .rename_i fg _;exact absurd rfl fg.1
   .exact⟨rfl,(nxt nb).1,(nxt nb).2,_,_,_,rfl⟩
  .have eb:(t.take ((t.length:Int)-(stT x b).length).toNat).drop ((stL x b).length:Int).toNat=bod x b t:=by
    unfold bod;rw[toNat_natCast,show((t.length:Int)-(stT x b).length).toNat=t.length-(stT x b).length by omega]
   left;rw[eb];left
   .rename_i fg hc p1 H1 g1 e1;exact q1 b ⟨fg,hc⟩ _ _ (g0.trans g1) e1
   .rename_i fg hc;have n:=nxt λz=>hc z.2;exact⟨rfl,n.1,n.2,_,_,_,rfl⟩
   .rename_i fg;have n:=nxt λz=>fg z.1;exact⟨rfl,n.1,n.2,_,_,_,rfl⟩
 .rintro σ H' ⟨rfl,n0,n1,r1,r2,r3,rfl⟩;left;exact⟨qU (by decide),q2' (n0 (by decide)) (n1 (by decide)) _ g0⟩
include Z in
theorem QH:Has P w K mg base "is_whole" 1 ["thing"] (VE K):=by
 refine jZ Z.kn Z.aY fQ λs H E hr=>⟨_,zB (zJ (XX (zL yC Z.ao rfl qK (pa2 (pv 0) (Qt rfl Z.au Yt (v:=.ty "int") rfl))) (QZ (u6 (zL yC Z.ao rfl qK (pa2 (pv 0) (Qt rfl Z.av CB (v:=.ty "bool") rfl))))))),?_⟩
 nofun;rintro _ Q ⟨i,rfl,q⟩;symm;left;exact q
include Z in
theorem ZE:Has P w K mg base "common_divisor" 1 ["one","other"] (kc K):=by
 refine jZ Z.kn Z.aZ qW λs H E hr=>⟨_,zA (zF 2 qW.nd (zL kS Z.aw rfl KZ (sa1 (pw 0)))) (zA (zF 3 qW.nd (zL kS Z.aw rfl KZ (sa1 (pw 1)))) (zA (Jd PassesOwn.never (pt2 ZV (pw 3) pwi) (zA (zF 4 qW.nd (po2 z9 (pw 2) (pw 3))) (zA (zF 2 qW.nd (pv 3)) (zB (zF 3 qW.nd (pv 4)))))) (zB (zJ (pv 2))))),?_⟩
 nofun;rintro _ Q ⟨a,b,rfl,q⟩;symm;left;rename_i k1 hk1 k2 hk2;have ha:=Ap hk1 hk2;refine VQ (λm σ H'=>H'=H/\∃(g l:Int)(r:Option V),σ=[some (.int a),some (.int b),some (.int g),some (.int l),r]/\0<=g/\0<=l/\Int.gcd g l=Int.gcd a b/\m=l.toNat) ⟨_,rfl,k1,k2,none,rfl,ha.1,ha.2.1,ha.2.2,rfl⟩ ?_;rintro m σ H' ⟨rfl,g,l,r,rfl,hg,hl,hgl,rfl⟩;left
 .rename_i hc;have:l=0:=by omega
  subst this;have e:g=((Int.gcd a b:Nat):Int):=by rw[<- hgl];simp;omega
  rw[e];exact q
 .rename_i hc;have hc':0<l:=by omega
  have h1:=emod_nonneg g (show l≠0 by omega);have h2:=emod_lt_of_pos g hc';exact⟨_,by omega,rfl,_,_,_,rfl,by omega,h1,by rw[pU hg hc'];exact hgl,rfl⟩
include Z in
theorem Ky:Has P w K mg base "is_fraction" 2 ["thing"] (Qe K):=by
 refine jZ Z.kn Z.a0 Vr λs H E hr=>⟨_,zA (zb (PW.pt (kE (qx (z7 (zL yC Z.ao rfl qK (pa2 (pv 0) (Qt rfl Z.ay rK (v:=.ty "tuple") rfl))))) (jc (zX ZV (zL (lnN K) Z.am rfl qE (sa1 (pw 0))) zK)))) (zB (zJ QK)) zM) (zA (zb (PW.pt (kE (qx (z7 (zE (QH Z :) hr (pa1 (pii (ixt K) (pw 0)))))) (jc (qx (z7 (zE (QH Z :) hr (pa1 (pii (ixt K) (pw 0))))))))) (zB (zJ QK)) zM) (zB (zJ (XX (jT rC (pii (ixt K) (pw 0)) zK) (QZ (jT qD (zE (ZE Z :) hr (pa2 (pii (ixt K) (pw 0)) (pii (ixt K) (pw 0)))) zK)))))),?_⟩
 nofun;rintro _ Q ⟨p,a,b,rfl,hp,h1,h2,q⟩;symm;have h3:((Int.gcd a b:Nat):Int)=1:=by rw[h2];rfl
 left;rw[decide_eq_true h3];exact q
include Z in
theorem fH:rS P w K mg base "ungrouped" 3 ["text","size","mark"] (WQ K):=by classical
 have J2:Nm K "NoGroups" qF:=Z.cz;refine u4 Z.kn Z.a1 (l3N (by intros;rfl)) λfq fd F=>?_;refine F.okX2 Xt (λvs H Q E=>?_) (λ_ _ _ s H vs Q E hr h tk=>?_)
 .k_extra "ln"
 refine⟨_,zA (zF 3 Xt.nd (jN (pt2 qD (pw 1) pwi) (pv 0) (pbk K PySem.F.plainAttrs_str PySem.F.slot_str_join PySem.F.type_str_join (jnT K) (zW []) (pa1 (zE (Xa Z :) hr (sa3 (pw 0) (pw 1) pwi)))))) (zA (zb (PW.pt (kE (qx (K3 Vf Vf zK (zL za Z.am rfl qE (sa1 (pw 3))) (qg rfl Z.aD (v:=.int 40) ⟨_,rfl⟩))) (jc (zX ZV (zE (Wc Z :) hr (sa3 (pw 3) (pw 1) (pw 2))) (pv 0))))) (zB (ku tk rfl Z.cu rfl Z.ad (sa1 pws))) zM) (zB (zJ (pv 3)))),?_⟩;k_extra "hz";obtain⟨t,z,m,rfl,h1,h2,h3,q1,q2⟩:=h;all_goals symm
 have lu:=D6 (z:=z.toNat) (t:=t);have q2':=λb H' g=>q2 b qF H' J2 g;rcases Decidable.em (z=0)with hz|hz
 .subst hz;have e:ug (Int.toNat 0) t=t:=rfl;have eg:gr (Int.toNat 0) m t=t:=Zy;unfold GG at q1 q2';rw[e,eg]at q1 q2';left
  .exact q1 ⟨by omega,by omega,rfl⟩ _ (by assumption)
  all_goals exact⟨qU (by decide),q2' (λz=>by have:=z.1;have:=z.2.1;omega) _ (zR.refl _)⟩
 .have bd:=gG (a:=t) (g:=1) (show 0<z.toNat by omega) t.length t.length (Nat.le_refl _);left;rename_i p' H' g' e';refine Z6 e' (by rw[YN,length_nil,show Int.toNat 1=1 from rfl];omega) ?_;rw[YN,mO,show Int.toNat 1=1 from rfl,FS (by omega)];left
  .exact q1 ⟨by omega,by omega,by assumption⟩ _ (by k_extra "sm")
  .rename_i hc;exact⟨qU (by decide),q2' (λz=>hc z.2.2) _ (by k_extra "sm")⟩
  all_goals exact⟨qU (by decide),q2' (λz=>by have:=z.1;have:=z.2.1;omega) _ (by k_extra "sm")⟩
include Z in
theorem Y6:rS P w K mg base "number_of" 1 ["text","base"] (Wz K):=by classical
 have kx:Nm K "NoFigures" zg:=Z.cy;refine u4 Z.kn Z.a2 (l2N (by intros;rfl)) λfq fd F=>?_;refine F.okX2 xr (λvs H Q E=>?_) (λ_ _ _ s H vs Q E hr h tk=>?_)
 .k_extra "ln"
 refine⟨_,zA (zb (PW.pt (kE (qx (z7 (zL yC Z.ao rfl qK (pa2 (pv 0) (Qt rfl Z.ap jz (v:=.ty "str") rfl))))) (jc (qx (K3 Vf Vf zK (zL za Z.am rfl qE (sa1 (pw 0))) (qg rfl Z.aE (v:=.int 240) ⟨_,rfl⟩)))))) (zB (ku tk rfl Z.ct rfl Z.ac (sa1 pws))) zM) (zA (zF 2 xr.nd zK) (zA (kQ PassesOwn.leaving rfl (d7 (pv 0)) (zh 3 xr.nd) (zA (zF 4 xr.nd (pbk K PySem.F.plainAttrs_str PySem.F.slot_str_find PySem.F.type_str_find rk (qg rfl Z.aB (v:=.str "0123456789abcdef") ⟨_,rfl⟩) (sa1 (pw 3)))) (zA (zb (PW.pt (kE (pt2 Vl (pw 4) pwi) (jc (pt2 rC (pw 4) (pw 1))))) (zB (ku tk rfl Z.ct rfl Z.ac (sa1 pws))) zM) (zB (zF 2 xr.nd (zU zm (po2 qt (pw 2) (pw 1)) (pv 4))))))) (zB (zJ (pv 2))))),?_⟩;k_extra "hz";obtain⟨l,b,rfl,al,h1,h2,h3,h4,q1,q2⟩:=h;all_goals symm
 have q2':=λn=>q2 n zg kx;left;refine Cr (λi σ H'=>H'=H/\yF b (l.take i)/\∃r1 r2:Option V,σ=[some (.str (T l)),some (.int b),some (.int (val b (l.take i))),r1,r2]) ⟨rfl,by rw[List.take_zero];exact λ_ z=>(nomatch z),none,none,rfl⟩ ?_ ?_
 .rintro i c σ H' hi ⟨rfl,hf,r1,r2,rfl⟩;have hm:=mem_of_getElem? hi;have hc1:=al c hm;left
  .exact⟨qU (by decide),q2' (λz=>by have:=(z c hm).2.1;omega)⟩
  .exact⟨qU (by decide),q2' (λz=>by have:=(z c hm).2.2;omega)⟩
  .refine⟨rfl,hf.snoc hi hc1 (by omega) (by omega),some (.str (T [c])),some (.int (fv c)),?_⟩;rw[take_succ,hi,show(some c).toList=[c]from rfl,Jk];rfl
 .rintro σ H' ⟨rfl,hf,r1,r2,rfl⟩;rw[take_length]at hf;left;rw[take_length];exact q1 hf
theorem HU{P:Nat}:((n:Int)-P-1).toNat=n-P-1:=by omega
include Z in
theorem et:Bj P w K mg base "whole_end" 1 ["body","places","point"] (de K):=by
 have QG:Nm K "NoBody" qc:=Z.cA;refine u4 Z.kn Z.a3 (l3N (by intros;rfl)) λfq fd F=>?_;refine F.okX Xf (λvs H Q E=>?_) (λ_ _ _ s H vs Q E hr h tk=>?_)
 .k_extra "ln"
 refine⟨_,zA (zb (pt2 qD (pw 1) pwi) (zB (zJ (zL za Z.am rfl qE (sa1 (pw 0))))) zM) (zA (zF 3 Xf.nd (zU jP (zU jP (zL za Z.am rfl qE (sa1 (pw 0))) (pv 1)) zK)) (zA (zb (PW.pt (kE (pt2 Vl (pw 3) pwi) (jc (zX ZV (pi2 jY (pw 0) (pw 3)) (pv 2))))) (zB (ku tk rfl Z.cv rfl Z.ae (sa1 pws))) zM) (zB (zJ (pv 3))))),?_⟩;k_extra "hz";obtain⟨t,p,pt,rfl,h1,h2,h3,q1,q2⟩:=h;all_goals symm
 have q2':=λn=>q2 n qc QG;obtain⟨P,rfl⟩:=eq_ofNat_of_zero_le h1;rw[toNat_natCast]at *;left
 .rename_i hc;obtain rfl:P=0:=by omega
  exact q1 (.inl rfl)
 .exact⟨qU (by decide),q2' (λh=>h.elim (λh=>by omega) λh=>by have:=h.1;omega)⟩
 .rename_i hn hc;rw[HU]at hc;have e2:((j7 P t).length:Int)=(t.length:Int)-P-1:=by unfold j7;rw[if_neg (by omega),length_take,Nat.min_eq_left (le_trans (sub_le _ _) (sub_le _ _))];omega
  have q':=q1 (.inr ⟨by omega,by simpa using hc⟩);rw[e2]at q';exact q'
 .rename_i hn hc;rw[HU]at hc;exact⟨qU (by decide),q2' (λh=>h.elim (λh=>by omega) λh=>hc (by rw[h.2]))⟩
include Z in
theorem eO:Bj P w K mg base "number_in" 4 ["body","base","places","point","size","mark"] (dB K):=by classical
 have J2:Nm K "NoGroups" qF:=Z.cz;have kx:Nm K "NoFigures" zg:=Z.cy;have QG:Nm K "NoBody" qc:=Z.cA;have xg:W.exmAny K (.ref qF) [.ref qF,.ref zg]=some true:=Z.xg;have xf:W.exmAny K (.ref zg) [.ref qF,.ref zg]=some true:=Z.xf;refine u4 Z.kn Z.a4 (l6N (by intros;rfl)) λfq fd F=>?_;refine F.okX yn (λvs H Q E=>?_) (λ_ _ _ s H vs Q E hr h tk=>?_)
 .k_extra "ln"
 refine⟨_,zA (zF 6 yn.nd (rE (et Z) dA hr rfl (sa3 (pw 0) (pw 2) (pw 3)))) (zA (Bf rfl rfl rfl Z.cv BY (λ_=>PassesOwnAt.leaving) rfl Z.ad rfl Z.ac rfl Z.ae (λ_ _ _=>zA (zF 7 yn.nd (Wh (fH Z) hr rfl (pa3 (zx xk (pv 0) qm (zt (pv 6))) (pv 4) (pv 5)))) (zB (zF 8 yn.nd (Wh (Y6 Z) hr rfl (pa2 (zU qA (pv 7) (zx xk (pv 0) (zt (po2 zm (pw 6) pwi)) qm)) (pv 1))))))) (zA (zb (PW.pt (QP (zX kz (zL za Z.am rfl qE (sa1 (pw 7))) zK) (y9 (zX qD (pii jY (pw 7)) (zW [48]))))) (zB (ku tk rfl Z.cv rfl Z.ae (sa1 pws))) zM) (zB (zJ (pv 8))))),?_⟩;k_extra "hz";obtain⟨t,b,p,z,pt,m,rfl,h1,h2,h3,h4,h5,h6,h7,h8,q1,q2⟩:=h;all_goals symm
 have q2':=λn H' g=>q2 n qc H' QG g;left;refine⟨t,p,pt,rfl,h3,h4,h7,λwe=>?_,λnw C nC=>?_⟩
 .have t1:t.take ((j7 p.toNat t).length:Int).toNat=j7 p.toNat t:=by rw[toNat_natCast];exact iO
  have t2:t.drop (((j7 p.toNat t).length:Int)+1).toNat=JQ p.toNat t:=by rw[show(((j7 p.toNat t).length:Int)+1).toNat=(j7 p.toNat t).length+1 by omega];exact hV we
  have wl:=mD (p:=p.toNat) (t:=t);have rl:=Wd we;have pa:=rR (p:=p.toNat) (z:=z.toNat) h8;left;refine EE [some (.str (T t)),some (.int b),some (.int p),some (.str (T [pt])),some (.int z),some (.str (T [m])),some (.int (j7 p.toNat t).length),none,none] ?_;left;rw[t1];refine⟨j7 p.toNat t,z,m,rfl,h5,h6,by omega,λgg H1 g1=>?_,λng C H1 nC g1=>?_⟩
  .have g2:=gg.1;have g3:=gg.2.1;left;rw[t2];left;refine⟨_,b,rfl,pa,by rw[length_append];omega,by rw[length_append];omega,h1,h2,λfb=>?_,λnf C nC=>?_⟩
   .left
    .rename_i c1 c2;exact⟨qU (by decide),q2' (λh=>h.2.2.2 ⟨by omega,by simpa using c2⟩) _ g1⟩
    .rename_i c1 c2;exact q1 ⟨we,gg,fb,λh=>c2 (by rw[show Int.toNat 0=0 from rfl,h.2])⟩ _ g1
    .rename_i c1;exact q1 ⟨we,gg,fb,λh=>c1 (by have:=h.1;omega)⟩ _ g1
   .have:=Nm.eq nC kx;subst this;exact⟨_,rfl,xf,q2' (λh=>nf h.2.2.1) _ g1⟩
  .have:=Nm.eq nC J2;subst this;exact⟨_,rfl,xg,q2' (λh=>ng h.2.1) _ g1⟩
 .have:=Nm.eq nC QG;subst this;exact q2' (λh=>nw h.1) _ (zR.refl _)
def Je(L:Addr):List (Str×V):=[("names",.ref L)]
def wns:List Str:=["signs","least","most"]
def cns:List Str:=["names"]
theorem B3{L:Addr}{m:Str}(h1:m≠"names"):(Je L).lookup m=none:=(qH h1).trans rfl
section
variable{H:Hp}{a C L:Addr}{wd:Int}{f:Nat}{x:Str}{st:Bool}
theorem ph(F:zS K H a C wd f x st (Je L)):jj K H a "names" (.ref L):=F.own (by right) ZW (mem_cons_self ..)
theorem d8{m:Str}(F:zS K H a C wd f x st (Je L))(h0:m∉bns)(h1:m≠"names"):tG H a C m:=F.meth h0 (B3 h1)
end
local macro_rules|`(tactic|walk_at "fld2")=>`(tactic|(exact ph (by k_extra "fm")))
local macro_rules|`(tactic|walk_at "ins")=>`(tactic|exact d8 (by k_extra "fm") (by decide +kernel) (by decide +kernel))
def X6(K:W.Frag):Sp:=λvs H Q _=>∃(C a dx:Addr)(wd:Int)(f:Nat)(x:Str)(st:Bool),vs=[.ref a,.int wd,.str (T [f]),.str x,.bl st]/\Cls K C/\qd K C bns/\H a=some (.ins C dx [])/\Q .non (upd H a (.ins C dx (bfs wd f x st [])))
include Z in
theorem ye:Fz P w K mg base CX0 ZL "__init__" 1 ["self","width","fill","side","strict"] (X6 K):=by
 refine ID Z.a5 (l5N (by intros;rfl)) λfq fd F=>?_;refine F.ok Xw (λvs H Q E=>?_) (λ_ _ _ s H vs Q E hr h=>?_)
 .k_extra "ln"
 obtain⟨C,a,dx,wd,f,x,st,rfl,cl,na,e0,q⟩:=h;refine⟨_,zA (jq (pv 0) (pv 1) rfl) (zA (jq (pv 0) (pv 2) rfl) (zA (jq (pv 0) (pv 3) rfl) (zB (jq (pv 0) (pv 4) rfl)))),?_⟩;symm;left;refine jm e0 cl (na.at (by right)) (by decide) ?_;rw[qb];left;refine jm zO cl (na.at (by right)) (by show 1<1000;decide) ?_;rw[qr,zf (by right),qb];left;refine jm zO cl (na.at (by right)) (by show 2<1000;decide) ?_;rw[qr,zf (by right),zf (by right),qb];left;refine jm zO cl (na.at (by right)) (by show 3<1000;decide) ?_;rw[qr,zf (by right),zf (by right),zf (by right),qb];left;exact q
def QJ(K:W.Frag)(C:Addr):Sp:=λvs H Q _=>∃(a dx:Addr)(sg:LN)(lo hi wd:Int)(f:Nat)(x:Str)(st:Bool),vs=[.ref a,.str (T sg),.int lo,.int hi,.int wd,.str (T [f]),.str x,.bl st]/\H a=some (.ins C dx [])/\Q .non (upd H a (.ins C dx (bfs wd f x st (xn sg lo hi))))
include Z in
theorem Qr:Gx P w K mg base CX0 "__init__" [zG] 2 ["self","signs","least","most","width","fill","side","strict"] (QJ K zG):=by
 have cl:Cls K zG:=Z.cF;have na:qd K zG (bns++wns):=Z.cG;refine Ak Z.a6 (l4N λ_ _ _ _=>l8N λ_ _ _ _ _ _ _ _ _ _ _ _ _ _ _=>⟨_,rfl,rfl⟩) λfq fd F=>?_;refine F.ok QM (λvs H Q E=>?_) (λ_ _ _ s H vs Q E hr h=>?_)
 .k_extra "ln"
 obtain⟨a,dx,sg,lo,hi,wd,f,x,st,rfl,e0,q⟩:=h;refine⟨_,zA (qO (Vd (ye Z) zd hr rfl Z.ah (zV (pv 0) (sa4 (pw 4) (pw 5) (pw 6) (pw 7))))) (zA (jq (pv 0) (pv 1) rfl) (zA (jq (pv 0) (pv 2) rfl) (zB (jq (pv 0) (pv 3) rfl)))),?_⟩;symm;have na0:qd K zG bns:=⟨na.1,na.2.1,na.2.2.1,na.2.2.2.1,trivial⟩
 left;refine⟨zG,a,dx,wd,f,x,st,rfl,cl,na0,e0,?_⟩;left;refine jm zO cl (na.at (by right)) (by show 4<1000;decide) ?_;rw[qr,x3 (by right),qb];left;refine jm zO cl (na.at (by right)) (by show 5<1000;decide) ?_;rw[qr,x3 (by right),zf (by right),qb];left;refine jm zO cl (na.at (by right)) (by show 6<1000;decide) ?_;rw[qr,x3 (by right),zf (by right),zf (by right),qb];left;exact q
def ZY(K:W.Frag)(C:Addr):Sp:=λvs H Q _=>∃(a dx p:Addr)(ns:LL)(wd:Int)(f:Nat)(x:Str)(st:Bool),vs=[.ref a,.ref p,.int wd,.str (T [f]),.str x,.bl st]/\H a=some (.ins C dx [])/\H p=some (.lst (tsV ns)) /\
 ∀L H',SB a H H'->H L=none->H' L=some (.lst (tsV ns))->H' a=some (.ins C dx (bfs wd f x st (Je L)))->Q .non H'
include Z in
theorem Z9:Gx P w K mg base CX0 "__init__" [zH] 2 ["self","names","width","fill","side","strict"] (ZY K zH):=by
 have cl:Cls K zH:=Z.cI;have na:qd K zH (bns++cns):=Z.cJ;refine Ak Z.a7 (l4N λ_ _ _ _=>l6N λ_ _ _ _ _ _ _ _ _ _ _ _ _=>⟨_,rfl,rfl⟩) λfq fd F=>?_;refine F.ok ZZ (λvs H Q E=>?_) (λ_ _ _ s H vs Q E hr h=>?_)
 .k_extra "ln"
 obtain⟨a,dx,p,ns,wd,f,x,st,rfl,e0,hp,q⟩:=h;refine⟨_,zA (qO (Vd (ye Z) zd hr rfl Z.ah (zV (pv 0) (sa4 (pw 2) (pw 3) (pw 4) (pw 5))))) (zB (jq (pv 0) (zo fR rfl Z.ax lJ (sa1 (pw 1))) rfl)),?_⟩;symm;have na0:qd K zH bns:=⟨na.1,na.2.1,na.2.2.1,na.2.2.2.1,trivial⟩
 left;refine⟨zH,a,dx,wd,f,x,st,rfl,cl,na0,e0,?_⟩;left;have nap:p≠a:=λz=>by rw[z,e0]at hp;cases hp
 refine gU (SqL.of (show upd H a (.ins zH dx (bfs wd f x st [])) p=some (.lst (tsV ns))by rw[zu nap];exact hp)) λl H1 g1 n1 e1=>?_;have nla:l≠a:=λz=>by rw[z,zO]at n1;cases n1
 rw[zu nla]at n1;left;refine jm (g1.at zO) cl (na.at (by right)) (by show 4<1000;decide) ?_;rw[x3 (by right),qb];left;refine q l _ (λb o hb e=>?_) n1 (by rw[zu nla];exact e1) zO;rw[zu hb];exact g1.at (by rw[zu hb];exact e)
def Za(K:W.Frag)(C:Addr):Sp:=λvs H Q _=>∃(a dx:Addr)(fg pl b:Int)(sn:Str)(z:Int)(m pt:Nat)(wy:Str)(wd:Int)(f:Nat)(x:Str)(st:Bool),vs=[.ref a,.int fg,.int pl,.int b,.str sn,.int z,.str (T [m]),.str (T [pt]),.str wy,.int wd,.str (T [f]),.str x,.bl st]/\H a=some (.ins C dx [])/\Q .non (upd H a (.ins C dx (bfs wd f x st (jB fg pl b sn z m pt wy))))
include Z in
theorem Zh:Gx P w K mg base CX0 "__init__" [zD] 2 ["self","figures","places","base","sign","size","mark","point","way","width","fill","side","strict"] (Za K zD):=by classical
 have cl:Cls K zD:=Z.cC;have na:qd K zD (bns++nns):=Z.cD;refine Ak Z.a8 (Gk λ_ _ _ _ _ _ _ _ _ _=>HQ λ_ _ _ _ _ _ _ _ _ _ _ _ _ _ _ _ _ _ _ _=>⟨_,rfl,rfl⟩) λfq fd F=>?_;refine F.ok Zb (λvs H Q E=>?_) (λ_ _ _ s H vs Q E hr h=>?_)
 .k_extra "ln"
 obtain⟨a,dx,fg,pl,b,sn,z,m,pt,wy,wd,f,x,st,rfl,e0,q⟩:=h;refine⟨_,zA (qO (Vd (ye Z) zd hr rfl Z.ah (zV (pv 0) (sa4 (pw 9) (pw 10) (pw 11) (pw 12))))) (zA (jq (pv 0) (pv 1) rfl) (zA (jq (pv 0) (pv 2) rfl) (zA (jq (pv 0) (pv 3) rfl) (zA (jq (pv 0) (pv 4) rfl) (zA (jq (pv 0) (pv 5) rfl) (zA (jq (pv 0) (pv 6) rfl) (zA (jq (pv 0) (pv 7) rfl) (zB (jq (pv 0) (pv 8) rfl))))))))),?_⟩;symm;left;refine⟨zD,a,dx,wd,f,x,st,rfl,cl,⟨na.1,na.2.1,na.2.2.1,na.2.2.2.1,trivial⟩,e0,?_⟩;left;refine jm zO cl (na.at (by right)) (by show 4<1000;decide) ?_;rw[qr,x3 (by right),qb];left;refine jm zO cl (na.at (by right)) (by show 5<1000;decide) ?_;rw[qr,x3 (by right),zf (by right),qb];left;refine jm zO cl (na.at (by right)) (by show 6<1000;decide) ?_;rw[qr,x3 (by right),zf (by right),zf (by right),qb];left;refine jm zO cl (na.at (by right)) (by show 7<1000;decide) ?_;rw[qr,x3 (by right),zf (by right),zf (by right),zf (by right),qb];left;refine jm zO cl (na.at (by right)) (by show 8<1000;decide) ?_;rw[qr,x3 (by right),zf (by right),zf (by right),zf (by right),zf (by right),qb];left;refine jm zO cl (na.at (by right)) (by show 9<1000;decide) ?_;rw[qr,x3 (by right),zf (by right),zf (by right),zf (by right),zf (by right),zf (by right),qb];left;refine jm zO cl (na.at (by right)) (by show 10<1000;decide) ?_;rw[qr,x3 (by right),zf (by right),zf (by right),zf (by right),zf (by right),zf (by right),zf (by right),qb];left;refine jm zO cl (na.at (by right)) (by show 11<1000;decide) ?_;rw[qr,x3 (by right),zf (by right),zf (by right),zf (by right),zf (by right),zf (by right),zf (by right),zf (by right),qb];left;exact q
include Z in
theorem jf:Gx P w K mg base CX0 "is_too_great" [zD] 2 ["self","number"] (jQ K zD):=by
 refine XD Z.a9 yf λs H E hr=>⟨_,zB (zJ (jT rC (pv 1) (zE (XF Z :) hr (pa2 (pfv K (pv 0)) (zU zm (pfv K (pv 0)) (pfv K (pv 0))))))),?_⟩
 nofun;rintro _ Q ⟨a,fg,pl,b,sn,z,m,pt,wy,wd,f,x,st,n,rfl,F0,ok,q⟩;symm;have o1:=ok.fg1;have o2:=ok.fg2;have o3:=ok.pl1;have o4:=ok.pl2;have o5:=ok.b1;have o6:=ok.b2;left;exact q
theorem QC{pt:Nat}(ok:QY fg pl b sn z m pt wy wd f x)(h:k.natAbs<b.toNat^(fg+pl).toNat):DB k.natAbs b pl/\Sgd sn (decide (k<0)) (xN pl b sn z m pt k)/\Asc (xN pl b sn z m pt k)/\(xN pl b sn z m pt k).length<=400:=by
 have o1:=ok.fg1;have o2:=ok.fg2;have o3:=ok.pl1;have o4:=ok.pl2;have o5:=ok.b1;have o6:=ok.b2;have e1:b.toNat^(fg+pl).toNat<=b.toNat^(40+pl.toNat):=Nat.pow_le_pow_right (by omega) (by omega);have nb:DB k.natAbs b pl:=⟨by omega,o5,o6,o3,o4,by omega⟩
 have bs:=gR (z:=z.toNat) (b:=b.toNat) (p:=pl.toNat) (n:=(k.natAbs:Int).toNat) (by omega) (by omega) (by omega) nb.2.2.2.2.2 ok.pt ok.m;have e:bod sn (decide (k<0)) (xN pl b sn z m pt k)=bdI k.natAbs b pl pt z m:=nO;have sl:=uP ok.sn (decide (k<0)) (bdI k.natAbs b pl pt z m);have sa:=oh ok.sn (decide (k<0));refine⟨nb,⟨by rw[e];exact bs.1,by rw[e];rfl⟩,(sa.1.app bs.2.1).app sa.2,?_⟩;have:=bs.2.2;unfold xN;unfold bdI at sl ⊢;omega
include Z in
theorem ka:Gx P w K mg base CX0 "core" [zD] 4 ["self","value"] (yk K zD):=by classical
 refine XD Z.ba xA λs H E hr=>⟨_,zA (zb (qx (z7 (zE (Ky Z :) hr (sa1 (pw 1))))) (zB xF) zM) (zA (zF 2 xA.nd (zE (lg Z :) hr (pa4 (pv 1) (pfv K (pv 0)) (pfv K (pv 0)) (pfv K (pv 0))))) (zA (zb (z7 (zQ (qw (jf Z) in0 :) Z.cC zd hr (pv 0) (pa1 (zL kS Z.aw rfl KZ (sa1 (pw 2)))))) (zB xF) zM) (zA (zF 3 xA.nd (zE (mU Z :) hr (zV (zL kS Z.aw rfl KZ (sa1 (pw 2))) (zV (pfv K (pv 0)) (pa4 (pfv K (pv 0)) (pfv K (pv 0)) (pfv K (pv 0)) (pfv K (pv 0))))))) (zB (zJ (zE (gW Z :) hr (pa3 (pv 3) (pfv K (pv 0)) (pc2 Vl (pw 2) pwi)))))))),?_⟩
 nofun;rintro _ Q ⟨o,p,fg,pl,b,sn,z,m,pt,wy,wd,f,x,st,u,v,k,rfl,F0,ok,hp,gr,gc,gk,lim,q⟩;symm;have o1:=ok.fg1;have o2:=ok.fg2;have o3:=ok.pl1;have o4:=ok.pl2;have o5:=ok.b1;have o6:=ok.b2;have o7:=ok.sn;have o8:=ok.wy;have o9:=ok.z1;have o10:=ok.z2;have g3:=gr.2.2.1;have pw:((b.toNat^(fg+pl).toNat:Nat):Int)=b^(fg+pl).toNat:=by rw[natCast_pow,Int.toNat_of_nonneg (by omega)]
 have hlt:k.natAbs<b.toNat^(fg+pl).toNat:=lim;obtain⟨nb,n2,n3,n4⟩:=QC ok hlt;unfold xN at q n4;have sl:=uP o7 (decide (k<0)) (bdI k.natAbs b pl pt z m);subst gk;left;rename_i k1 hk1 k0 hk0;have hk:k0=((hG wy u v (b^pl.toNat)).natAbs:Int):=by omega
 subst hk;clear hk1 hk0;generalize hG wy u v (b^pl.toNat)=kk at *;refine dg nb o9 o10 λH1 g1=>?_;have F1:=F0.same g1;left;exact q _ g1
include Z in
theorem zk:Gx P w K mg base CX0 "is_too_wide" [zD,zG,zH] 1 ["self","core"] (yO K):=by
 refine XD Z.bb Qo λs H E hr=>⟨_,zB (zJ (XX (pfv K (pv 0)) (QZ (jT kz (zL za Z.am rfl qE (sa1 (pw 1))) (pfv K (pv 0)))))),?_⟩
 nofun;rintro _ Q ⟨a,C,wd,f,x,st,more,t,rfl,F0,h0,q⟩;symm;left
 .rename_i hc;rw[hc]at q;exact q
 .rename_i hc;rw[hc]at q;exact q
def ZN(K:W.Frag):Sp:=λvs H Q _=>∃(l t:LN)(w:Int)(f:Nat),vs=[.str (T l),.str (T t),.int w,.str (T [f])]/\l.length<=400/\t.length<=400/\w<=40/\∀H',zR H H'->Q (.str (T (l++pad t (w-l.length) f "right"))) H'
theorem Yc{l t:LN}{w:Int}(h1:l.length<=400)(h2:t.length<=400)(h3:w<=40)(q:∀H',zR H H'->Q (.str (T (l++pad t (w-l.length) f "right"))) H'):ZN K ([.str (T l),.str (T t),.int w,.str (T [f])]++[]) H Q E:=⟨l,t,w,f,rfl,h1,h2,h3,q⟩
local macro_rules|`(tactic|walk_at "rdk")=>`(tactic|((with_reducible refine' Yc ?h1 ?h2 ?h3 ?_);(case h1|h2=>k_extra "tl");(case h3=>omega);intro H' g'))
def xm(K:W.Frag)(C:Addr):Sp:=λvs H Q _=>∃(a:Addr)(fg pl b:Int)(sn:Str)(z:Int)(m pt:Nat)(wy:Str)(wd:Int)(f:Nat)(x:Str)(st:Bool)(t:LN)(bl:Bool),vs=[.ref a,.str (T t)]/\zS K H a C wd f x st (jB fg pl b sn z m pt wy)/\yj sn/\Asc t/\t.length<=400/\Sgd sn bl t/\∀H',zR H H'->Q (.str (T (stL sn bl))) H'
variable{bl:Bool}
theorem lL{a:Addr}{pt:Nat}{t:LN}(h1:zS K H a C wd f x st (jB fg pl b sn z m pt wy))(h2:yj sn)(h3:Asc t)(h4:t.length<=400)(h5:Sgd sn bl t)(q:∀H',zR H H'->Q (.str (T (stL sn bl))) H'):xm K C (.ref a::([.str (T t)]++[])) H Q E:=⟨a,fg,pl,b,sn,z,m,pt,wy,wd,f,x,st,t,bl,rfl,h1,h2,h3,h4,h5,q⟩
def JM(ld t:LN)(wd:Int)(f:Nat)(x:Str):LN:=if x="inside" then ld++pad (t.drop ld.length) (wd-ld.length) f "right" else pad t wd f x
include Z in
theorem Yk:Has P w K mg base "padded_inside" 3 ["lead","rest","width","fill"] (ZN K):=by
 refine jZ Z.kn Z.bc X8 λs H E hr=>⟨_,zB (zJ (zU qA (pv 0) (zE (K6 Z :) hr (pa4 (pv 1) (zU jP (pv 2) (zL za Z.am rfl qE (sa1 (pw 0)))) (pv 3) qi)))),?_⟩
 nofun;rintro _ Q ⟨l,t,w,f,rfl,h1,h2,h3,q⟩;symm;have pl:=VR (f:=f) (yb (x:="right") (n:=t.length) (w:=w-l.length) (.inr (.inl rfl)) (by omega) (by omega));have b2:=Jz t.length (w-l.length) (by omega) (by omega);left;exact q _ (by assumption)
include Z in
theorem QL:Gx P w K mg base CX0 "lead_of" [zD] 4 ["self","core"] (xm K zD):=by
 refine XD Z.bd Zt λs H E hr=>⟨_,zB (zJ (Xb (ixt K) (zE (Qz Z :) hr (pa2 (pfv K (pv 0)) (Xb (ixt K) (zE (CH (KN Z):) hr (pa2 (pv 1) (pfv K (pv 0))))))))),?_⟩
 nofun;rintro _ Q ⟨a,fg,pl,b,sn,z,m,pt,wy,wd,f,x,st,t,bl,rfl,F0,hs,ha,hl,sd,q⟩;symm;left;refine ir hs ha (by omega) sd λp H1 g1 e1=>?_;have F1:=F0.same g1;left;exact q _ g1
inductive FlA(K:W.Frag)(H:Hp)(a cN:Addr)(wd:Int)(f:Nat)(x:Str)(st:Bool)(t:LN):LN->Prop
 |num {fg pl b:Int} {sn:Str} {z:Int} {m pt:Nat} {wy:Str} {bl:Bool} (F:zS K H a cN wd f x st (jB fg pl b sn z m pt wy)) (sx:VZ x) (hs:yj sn) (ha:Asc t) (sd:Sgd sn bl t):FlA K H a cN wd f x st t (stL sn bl)
 |oth {C:Addr} {more:List (Str×V)} (F:zS K H a C wd f x st more) (sx:Zd x):FlA K H a cN wd f x st t []
def Qg(K:W.Frag)(cN:Addr):Sp:=λvs H Q _=>∃(a:Addr)(wd:Int)(f:Nat)(x:Str)(st:Bool)(t ld:LN),vs=[.ref a,.str (T t)]/\FlA K H a cN wd f x st t ld/\t.length<=400/\wd<=40/\∀H',zR H H'->Q (.str (T (JM ld t wd f x))) H'
variable{cN:Addr}{ld:LN}
theorem WA{a:Addr}{t:LN}(h1:FlA K H a cN wd f x st t ld)(h2:t.length<=400)(h4:wd<=40)(q:∀H',zR H H'->Q (.str (T (JM ld t wd f x))) H'):Qg K cN (.ref a::([.str (T t)]++[])) H Q E:=⟨a,wd,f,x,st,t,ld,rfl,h1,h2,h4,q⟩
theorem Ks(h:Zd x):x≠"inside":=by
 rcases h with rfl|rfl|rfl<;>right
include Z in
theorem km:Gx P w K mg base CX0 "filled" [zD,zG,zH] 5 ["self","core"] (Qg K zD):=by
 refine XD Z.be QN λs H E hr=>⟨_,zA (zb (zX ZV (pfv K (pv 0)) qi) (zB (zJ (zE (K6 Z :) hr (pa4 (pv 1) (pfv K (pv 0)) (pfv K (pv 0)) (pfv K (pv 0)))))) zM) (zA (zF 2 QN.nd (zQ (qw (QL Z) in0 :) Z.cC zd hr (pv 0) (sa1 (pw 1)))) (zB (zJ (zE (Yk Z :) hr (pa4 (pv 2) (zx xk (pv 1) (zt (zL za Z.am rfl qE (sa1 (pw 2)))) qm) (pfv K (pv 0)) (pfv K (pv 0))))))),?_⟩
 nofun;rintro _ Q ⟨a,wd,f,x,st,t,ld,rfl,D0,hl,hw,q⟩;symm;cases D0 with
 |@num fg pl b sn z m pt wy bl F0 sx hs ha sd=>
  have sl:=VP hs bl;left
  .rename_i hc;refine lL F0 hs ha hl sd λH1 g1=>?_;have F1:=F0.same g1;left;rename_i H2 g2;have q':=q _ (g1.trans g2);unfold JM at q';rw[if_pos hc]at q';rw[toNat_natCast];exact q'
  .rename_i hc;have sx':Zd x:=sx.elim id λz=>absurd z hc;refine gK sx' hl hw λH1 g1=>?_;have q':=q _ g1;unfold JM at q';rw[if_neg hc]at q';exact q'
 |oth F0 sx=>
  have hc:=Ks sx;left;have q':=q _ (by assumption);unfold JM at q';rw[if_neg hc]at q';exact q'
def yL(K:W.Frag)(C:Addr):Sp:=λvs H Q _=>∃(a:Addr)(sg:LN)(lo hi wd:Int)(f:Nat)(x:Str)(st:Bool)(t:LN),vs=[.ref a,.str (T t)]/\zS K H a C wd f x st (xn sg lo hi)/\t.length<=400/\∀H',zR H H'->Q (.bl (decide (Isw sg lo hi t))) H'
theorem oy{a:Addr}{sg:LN}{t:LN}(h1:zS K H a C wd f x st (xn sg lo hi))(h2:t.length<=400)(q:∀H',zR H H'->Q (.bl (decide (Isw sg lo hi t))) H'):yL K C (.ref a::([.str (T t)]++[])) H Q E:=⟨a,sg,lo,hi,wd,f,x,st,t,rfl,h1,h2,q⟩
local macro_rules|`(tactic|walk_at "rdk")=>`(tactic|((with_reducible refine' oy ?h1 ?h2 ?_);(case h1=>k_extra "fm");(case h2=>omega);intro H' g'))
include Z in
theorem yr:Gx P w K mg base CX0 "is_word" [zG] 1 ["self","thing"] (yL K zG):=by classical
 refine XD Z.bf Qw λs H E hr=>⟨_,zA (zb (PW.pt (kE (qx (z7 (zL yC Z.ao rfl qK (pa2 (pv 1) (Qt rfl Z.ap jz (v:=.ty "str") rfl))))) (jc (qx (K3 Vf Vf (pfv K (pv 0)) (zL za Z.am rfl qE (sa1 (pw 1))) (pfv K (pv 0))))))) (zB (zJ QK)) zM) (zB (zJ (zL (VU rfl) Z.az rfl oO (pa1 (xH (cl:=[("self",s.heap.objs.size+1+0)]) (fr:=["self"]) (is:=[0]) rfl rfl ⟨rfl,trivial⟩ rfl ⟨⟨rfl,rfl,Or.inl rfl⟩,trivial⟩ (by decide) (by right) rfl (by right) rfl (d7 (pv 1)) (λ_ _ _ _=>xI) (λ_ _ _ _=>ki KP (pv 0) (kC (K:=K) rfl (pv 1) rfl) (by with_unfolding_all rfl))))))),?_⟩
 nofun;rintro _ Q ⟨a,sg,lo,hi,wd,f,x,st,t,rfl,F0,h0,q⟩;symm;left
 .rename_i c1 c2;refine ff (Nat.le_of_lt (qu (by omega))) (λi ys H'=>H'=H/\ys=((t.take i).map λc=>decide (c∈sg)).map V.bl) ⟨rfl,rfl⟩ (λi ys H' hi z=>by rw[z.2];simp;omega) ?_ ?_
  .rintro i c ys H' hc hi ⟨rfl,rfl⟩;left;refine nxC hi ⟨rfl,?_⟩;rw[take_succ,hc,map_append,map_append];rfl
  .rintro ys H' ⟨rfl,rfl⟩ p H2 g2 e2;rw[take_length]at e2;left;have e:(t.map λc=>decide (c∈sg)).all id=decide (Isw sg lo hi t):=by
    rw[Bool.eq_iff_iff,List.all_eq_true,decide_eq_true_iff];constructor
    .intro h;exact⟨⟨c1,c2⟩,λc hc=>of_decide_eq_true (h _ (List.mem_map.mpr ⟨c,hc,rfl⟩))⟩
    .rintro h b hb;obtain⟨c,hc,rfl⟩:=List.mem_map.mp hb;exact decide_eq_true (h.2 c hc)
   rw[e];exact q _ g2
 .rename_i c1 c2;have q':=q _ (zR.refl _);rw[decide_eq_false (λz=>c2 z.1.2)]at q';exact q'
 .rename_i c1;have q':=q _ (zR.refl _);rw[decide_eq_false (λz=>c1 z.1.1)]at q';exact q'
def Xz(K:W.Frag)(C:Addr):Sp:=λvs H Q _=>∃(a:Addr)(sg:LN)(lo hi wd:Int)(f:Nat)(x:Str)(st:Bool)(t:LN),vs=[.ref a,.str (T t)]/\zS K H a C wd f x st (xn sg lo hi)/\t.length<=400/\Isw sg lo hi t/\∀H',zR H H'->Q (.str (T t)) H'
include Z in
theorem YS:Gx P w K mg base CX0 "core" [zG] 2 ["self","value"] (Xz K zG):=by
 refine XD Z.bg X1 λs H E hr=>⟨_,zA (zb (qx (z7 (zQ (qw (yr Z) in0 :) Z.cF zd hr (pv 0) (sa1 (pw 1))))) (zB xF) zM) (zB (zJ (pv 1))),?_⟩
 nofun;rintro _ Q ⟨a,sg,lo,hi,wd,f,x,st,t,rfl,F0,h0,iw,q⟩;symm;left;rename_i H' g';exact q _ g'
def Ja(K:W.Frag)(C:Addr):Sp:=λvs H Q _=>∃(a L:Addr)(ns:LL)(wd:Int)(f:Nat)(x:Str)(st:Bool)(t:LN),vs=[.ref a,.str (T t)]/\zS K H a C wd f x st (Je L)/\H L=some (.lst (tsV ns))/\t∈ns/\∀H',zR H H'->Q (.str (T t)) H'
include Z in
theorem J6:Gx P w K mg base CX0 "core" [zH] 1 ["self","value"] (Ja K zH):=by
 refine XD Z.bh JC λs H E hr=>⟨_,zA (zb (PW.pt (kE (qx (z7 (zL yC Z.ao rfl qK (pa2 (pv 1) (Qt rfl Z.ap jz (v:=.ty "str") rfl))))) (jc (Jr Xl (pv 1) (pfv K (pv 0)) (by with_unfolding_all rfl))))) (zB xF) zM) (zB (zJ (pv 1))),?_⟩
 nofun;rintro _ Q ⟨a,L,ns,wd,f,x,st,t,rfl,F0,e0,hm,q⟩;symm;left;exact q _ (zR.refl _)
inductive CoA(K:W.Frag)(H:Hp)(o:Addr)(v:V)(cN cW cC:Addr)(wd:Int)(f:Nat)(x:Str)(st:Bool):LN->LN->Prop
 |num {p:Addr} {fg pl b:Int} {sn:Str} {z:Int} {m pt:Nat} {wy:Str} {u d k:Int} (hv:v=.ref p) (F:zS K H o cN wd f x st (jB fg pl b sn z m pt wy)) (ok:QY fg pl b sn z m pt wy wd f x) (hp:H p=some (.tup [.int u,.int d])) (gb:GrB u d) (gc:Int.gcd u d=1) (gk:hG wy u d (b^pl.toNat)=k) (lim:Vi fg pl b k):CoA K H o v cN cW cC wd f x st (xN pl b sn z m pt k) (stL sn (decide (k<0)))
 |word {sg:LN} {lo hi:Int} {t:LN} (hv:v=.str (T t)) (F:zS K H o cW wd f x st (xn sg lo hi)) (h0:t.length<=400) (iw:Isw sg lo hi t) (sx:Zd x):CoA K H o v cN cW cC wd f x st t []
 |cho {L:Addr} {ns:LL} {t:LN} (hv:v=.str (T t)) (F:zS K H o cC wd f x st (Je L)) (e:H L=some (.lst (tsV ns))) (h0:t.length<=400) (hm:t∈ns) (sx:Zd x):CoA K H o v cN cW cC wd f x st t []
def eY(K:W.Frag)(cN cW cC cT:Addr):Sp:=λvs H Q E=>∃(o:Addr)(v:V)(wd:Int)(f:Nat)(x:Str)(st:Bool)(t ld:LN),vs=[.ref o,v]/\CoA K H o v cN cW cC wd f x st t ld/\wd<=40/\((st&&decide (wd<(t.length:Int)))=false->∀H',zR H H'->Q (.str (T (JM ld t wd f x))) H')/\((st&&decide (wd<(t.length:Int)))=true->∀H',zR H H'->E (.ref cT) none H')
include Z in
theorem XH:Gx P w K mg base (WO P w) "put" [zD,zG,zH] 6 ["self","value"] (eY K zD zG zH qC):=by classical
 refine Gv Z.bi (l2N (by intros;rfl)) λfq fd F=>?_;refine F.okX2 VO (λvs H Q E=>?_) (λ_ _ _ s H vs Q E hr h tk pp=>?_)
 .k_extra "ln"
 refine⟨_,zA (zF 2 VO.nd (xQ (zQ (qw (ka Z) in0 :) Z.cC zd hr (pv 0) (sa1 (pw 1))) (xQ (zQ (qw (YS Z) in0 :) Z.cF zd hr (pv 0) (sa1 (pw 1))) (zQ (qw (J6 Z) in0 :) Z.cI zd hr (pv 0) (sa1 (pw 1)))))) (zA (zb (z7 (xQ (zQ (qw (zk Z) in0 :) Z.cC zd hr (pv 0) (sa1 (pw 2))) (xQ (zQ (qw (zk Z) in1 :) Z.cF zd hr (pv 0) (sa1 (pw 2))) (zQ (qw (zk Z) in2 :) Z.cI zd hr (pv 0) (sa1 (pw 2)))))) (zB (ku tk rfl Z.cx rfl Z.ag (sa1 pws))) zM) (zB (zJ (xQ (zQ (qw (km Z) in0 :) Z.cC zd hr (pv 0) (sa1 (pw 2))) (xQ (zQ (qw (km Z) in1 :) Z.cF zd hr (pv 0) (sa1 (pw 2))) (zQ (qw (km Z) in2 :) Z.cI zd hr (pv 0) (sa1 (pw 2)))))))),?_⟩;k_extra "hz";obtain⟨o,v,wd,f,x,st,t,ld,rfl,D0,hw,q,e⟩:=h;all_goals symm
 cases D0 with
 |@num p fg pl b sn z m pt wy u d k hv F0 ok hp gb gc gk lim=>
  subst hv;obtain⟨nb,n2,n3,n4⟩:=QC ok lim;left;refine JX ?_;left;refine AM F0 ok hp gb gc gk lim λH1 g1=>?_;have F1:=F0.same g1;left;refine JX ?_;left
  .rename_i hc;exact⟨qU (by decide),e hc _ g1⟩
  .rename_i hc;refine JX ?_;left;refine WA (.num F1 ok.x ok.sn n3 n2) n4 hw λH2 g2=>?_;exact q (by simpa using hc) _ (g1.trans g2)
 |@word sg lo hi t hv F0 h0 iw sx=>
  subst hv;left;refine kB (JX ?_);left;refine⟨o,sg,lo,hi,wd,f,x,st,t,rfl,F0,h0,iw,λH1 g1=>?_⟩;have F1:=F0.same g1;left;refine kB (JX ?_);left
  .rename_i hc;exact⟨qU (by decide),e hc _ g1⟩
  .rename_i hc;refine kB (JX ?_);left;refine WA (.oth F1 sx) h0 hw λH2 g2=>?_;exact q (by simpa using hc) _ (g1.trans g2)
 |@cho L ns t hv F0 e0 h0 hm sx=>
  subst hv;left;refine kB (kB ?_);left;refine⟨o,L,ns,wd,f,x,st,t,rfl,F0,e0,hm,λH1 g1=>?_⟩;have F1:=F0.same g1;left;refine kB (kB ?_);left
  .rename_i hc;exact⟨qU (by decide),e hc _ g1⟩
  .rename_i hc;refine kB (kB ?_);left;refine WA (.oth F1 sx) h0 hw λH2 g2=>?_;exact q (by simpa using hc) _ (g1.trans g2)
structure WdS(sg:LN)(lo hi wd:Int)(f:Nat)(x:Str):Prop where
 s1:1<=sg.length
 s2:sg.length<=200
 lo1:0<=lo
 lo2:lo<=hi
 hi2:hi<=24
 wd1:0<=wd
 wd2:wd<=40
 x:Zd x
 sa:Asc sg
 f:f<127
structure ChS(ns:Ce)(wd:Int)(f:Nat)(x:Str):Prop where
 n1:1<=ns.length
 n2:ns.length<=12
 len:∀t∈ns,1<=t.length/\t.length<=12
 wd1:0<=wd
 wd2:wd<=40
 x:Zd x
 ta:∀t∈ns,Asc t
 nd:ns.Nodup
 f:f<127
inductive Yn(K:W.Frag)(H:Hp)(o cN cW cC:Addr)(wd:Int)(f:Nat)(x:Str)(st:Bool):Fd->Prop
 |num {fg pl b:Int} {sn:Str} {z:Int} {m pt:Nat} {wy:Str} (F:zS K H o cN wd f x st (jB fg pl b sn z m pt wy)) (ok:QY fg pl b sn z m pt wy wd f x):Yn K H o cN cW cC wd f x st (.num fg pl b sn z m pt wy)
 |word {sg:LN} {lo hi:Int} (F:zS K H o cW wd f x st (xn sg lo hi)) (ok:WdS sg lo hi wd f x):Yn K H o cN cW cC wd f x st (.word sg lo hi)
 |cho {L:Addr} {ns:Ce} (F:zS K H o cC wd f x st (Je L)) (e:H L=some (.lst (tsV ns))) (ok:ChS ns wd f x):Yn K H o cN cW cC wd f x st (.cho ns)
variable{cW cC:Addr}
theorem Yn.same{d:Fd}(g:zR H H')(h:Yn K H o cN cW cC wd f x st d):Yn K H' o cN cW cC wd f x st d:=by
 cases h with
 |num F ok=>exact .num (F.same g) ok
 |word F ok=>exact .word (F.same g) ok
 |cho F e ok=>exact .cho (F.same g) (g.at e) ok
theorem Yn.bd{d:Fd}(h:Yn K H o cN cW cC wd f x st d):∃C more,zS K H o C wd f x st more/\VZ x/\0<=wd/\wd<=40:=by
 cases h with
 |num F ok=>exact⟨_,_,F,ok.x,ok.wd1,ok.wd2⟩
 |word F ok=>exact⟨_,_,F,.inl ok.x,ok.wd1,ok.wd2⟩
 |cho F e ok=>exact⟨_,_,F,.inl ok.x,ok.wd1,ok.wd2⟩
def M3(d:Fd)(a b c:Prop):Prop:=match d with
 |.num _ _ _ _ _ _ _ _=>a
 |.word _ _ _=>b
 |.cho _=>c
theorem uS{d:Fd}{a:Prop}(h:a):M3 d a a a:=by cases d<;>exact h
variable{vs:List V}{σ:St}{ta:TE}
theorem or3{d:Fd}{m:Str}{sN sW sC:Sp}{t:TA}(D:Yn K H o cN cW cC wd f x st d)(hm:m∉bns++(nns++(wns++cns)))
  (hta:∀Q':VK,Q' (.ref o) H->ta σ H Q') (ht:∀Q':List V->Hp->Prop,Q' vs H->t σ H Q') (h:M3 d (sN (.ref o::(vs++[])) H Q E) (sW (.ref o::(vs++[])) H Q E) (sC (.ref o::(vs++[])) H Q E)):
  sE (VN cN m sN [] E ta t) (sE (VN cW m sW [] E ta t) (VN cC m sC [] E ta t)) σ H Q:=by
 obtain⟨n1,n2⟩:=not_or.mp λz=>hm (List.mem_append.mpr z);obtain⟨n2,n3⟩:=not_or.mp λz=>n2 (List.mem_append.mpr z);obtain⟨n3,n4⟩:=not_or.mp λz=>n3 (List.mem_append.mpr z);cases D with
 |num F ok=>exact JX (Vb (hta _ (Zx (eH F n1 n2) (ht _ h))))
 |word F ok=>
  simp only[wns,mem_cons,not_mem_nil,or_false,not_or]at n3;exact kB (JX (Vb (hta _ (Zx (fO F n1 n3.1 n3.2.1 n3.2.2) (ht _ h)))))
 |cho F e ok=>exact kB (kB (Vb (hta _ (Zx (d8 F n1 (λz=>n4 (List.mem_singleton.mpr z))) (ht _ h)))))
def VB(K:W.Frag):Sp:=λvs H Q _=>∃(t:LN)(w:Int)(f:Nat)(x:Str),vs=[.str (T t),.int w,.str (T [f]),.str x]/\Zd x/\t.length<=400/\w<=40/\-1000<=w/\∀p H',zR H H'->H p=none->H' p=some (.lst (tsV (qy t w f x)))->Q (.ref p) H'
theorem ik{t:LN}{w:Int}(h1:Zd x)(h2:t.length<=400)(h3:w<=40)(h4:-1000<=w)(q:∀p H',zR H H'->H p=none->H' p=some (.lst (tsV (qy t w f x)))->Q (.ref p) H'):VB K ([.str (T t),.int w,.str (T [f]),.str x]++[]) H Q E:=⟨t,w,f,x,rfl,h1,h2,h3,h4,q⟩
local macro_rules|`(tactic|walk_at "rdk")=>`(tactic|((with_reducible refine' ik ?h1 ?h2 ?h3 ?h4 ?_);(case h1=>first|assumption|exact .inl rfl|exact .inr (.inl rfl)|exact .inr (.inr rfl));(case h2=>k_extra "tl");(case h3|h4=>omega);intro p' H' g' n' e'))
local macro_rules|`(tactic|walk_at "rdc")=>`(tactic|((with_reducible refine' WJ ?hz ?_);(case hz=>exact qU (by simp only [length_cons,length_nil];decide));intro p' H' g' n' e'))
local macro_rules|`(tactic|walk_at "rd1")=>`(tactic|((with_reducible refine' WJ ?hz ?_);(case hz=>exact qU (by simp only [length_cons,length_nil];decide));intro p' H' g' n' e'))
include Z in
theorem KG:Has P w K mg base "stripped" 3 ["text","width","fill","side"] (VB K):=by classical
 refine jZ Z.kn Z.bj yS λs H E hr=>⟨_,zA (zb (zX kz (zL za Z.am rfl qE (sa1 (pw 0))) (pv 1)) (zB (zJ (ze (sa1 (pw 0))))) zM) (zA (zF 4 yS.nd (ze ZS)) (zA (kQ PassesOwn.never rfl (jW rfl Z.an (pa1 (po2 zm (pw 1) pwi))) (zh 5 yS.nd) (zA (zF 6 yS.nd (Xb (ixt K) (zE (Ws Z :) hr (sa3 (pw 5) (pw 1) (pw 3))))) (zA (zF 7 yS.nd (zx xk (pv 0) (zt (pv 6)) (zt (po2 zm (pw 6) (pw 5))))) (zB (zb (zX qD (zE (K6 Z :) hr (sa4 (pw 7) (pw 1) (pw 2) (pw 3))) (pv 0)) (zB (qO (pbk K PySem.F.plainAttrs_list PySem.F.slot_list_append PySem.F.type_list_append xE (pv 4) (sa1 (pw 7))))) zM))))) (zB (zJ (pv 4))))),?_⟩
 nofun;rintro _ Q ⟨t,w,f,x,rfl,hs,h0,hw,hw1,q⟩;symm;left
 .rename_i hc p' H' g' n' e';exact q _ _ g' n' (by rw[e',Qk hc];rfl)
 .rename_i hc p' H0 g' n' e';refine Ql (by omega) (by omega) (λi σ H2=>zR H H2/\∃(r1 r2 r3:Option V),H2 p'=some (.lst (tsV (((List.range i).filter (gd t w f x)).map (sl t w x))))/\σ=[some (.str (T t)),some (.int w),some (.str (T [f])),some (.str x),some (.ref p'),r1,r2,r3]) ⟨g',none,none,none,by rw[e'];rfl,rfl⟩ ?_ ?_
  .rintro i σ H2 hi ⟨gg,r1,r2,r3,e2,rfl⟩;obtain⟨b1,b2,b3,_⟩:=yb (n:=(i:Int)) hs (by omega) hw;have bl:=Jz (i:Int) w (by omega) hw;rw[show(0+(i:Int))=(i:Int)by omega];have hl:(((List.range i).filter (gd t w f x)).map (sl t w x)).length<=i:=by
    rw[length_map];exact le_trans (length_filter_le _ _) (by rw[length_range];exact Nat.le_refl _)
   left
   .rename_i p1 H1 g1 e1 H3 g3 hc3;refine y2 (g3.at (g1.at e2)) (qu (by rw[length_map];omega)) ?_;refine⟨zw (gg.trans (g1.trans g3)) n',_,_,_,?_,rfl⟩;rw[zO,range_succ,List.filter_append,filter_cons,if_pos (show gd t w f x i=true from decide_eq_true hc3),filter_nil,map_append];unfold tsV;rw[map_append];rfl
   .rename_i p1 H1 g1 e1 H3 g3 hc3;refine⟨gg.trans (g1.trans g3),_,_,_,?_,rfl⟩;rw[g3.at (g1.at e2),range_succ,List.filter_append,filter_cons,if_neg (show ¬gd t w f x i=true from λz=>hc3 (of_decide_eq_true z)),filter_nil,append_nil]
  .rintro σ H2 ⟨gg,r1,r2,r3,e2,rfl⟩;left;refine q _ _ gg n' ?_;rw[e2];unfold qy;rw[if_neg hc]
theorem Et{t:LN}{w:Int}:(sl t w x n).length<=t.length/\(Asc t->Asc (sl t w x n)):=by
 unfold sl;exact⟨by rw[length_drop,length_take];omega,λh=>(h.take _).drop _⟩
theorem Zo{t:LN}{w:Int}:∀c∈qy t w f x,c.length<=t.length/\(Asc t->Asc c):=λc hc=>by
 unfold qy at hc;split at hc
 .rw[List.mem_singleton.mp hc];exact⟨Nat.le_refl _,id⟩
 .obtain⟨n,_,rfl⟩:=List.mem_map.mp hc;exact Et
theorem Jy{t:LN}{w:Int}(h:w<=40):(qy t w f x).length<=41:=by
 unfold qy;split
 .simp
 .rw[length_map];refine le_trans (length_filter_le _ _) ?_;rw[length_range];omega
def nwd(wd:Int)(st:Bool)(c:LN):Bool:=!(st&&decide (wd<(c.length:Int)))
def ucs(t:LN)(wd:Int)(f:Nat)(x:Str)(st:Bool):LL:=(qy t wd f x).filter (nwd wd st)
theorem fU{t:LN}(h:wd<=40):(ucs t wd f x st).length<=41/\∀c∈ucs t wd f x st,c.length<=t.length/\(Asc t->Asc c):=
 ⟨le_trans (length_filter_le _ _) (Jy h),λc hc=>Zo c (List.mem_filter.mp hc).1⟩
theorem fi{α:Type}{p:α->Bool}{cs:List α}{i:Nat}{c:α}(hc:cs[i]?=some c):(cs.take (i+1)).filter p=(cs.take i).filter p++[c].filter p:=by rw[take_succ,hc,List.filter_append];rfl
inductive UnA(K:W.Frag)(H:Hp)(a cN cW cC:Addr)(wd:Int)(f:Nat)(x:Str)(st:Bool):Prop
 |num {fg pl b:Int} {sn:Str} {z:Int} {m pt:Nat} {wy:Str} (F:zS K H a cN wd f x st (jB fg pl b sn z m pt wy)):UnA K H a cN cW cC wd f x st
 |word {sg:LN} {lo hi:Int} (F:zS K H a cW wd f x st (xn sg lo hi)):UnA K H a cN cW cC wd f x st
 |cho {L:Addr} (F:zS K H a cC wd f x st (Je L)):UnA K H a cN cW cC wd f x st
def ZI(K:W.Frag)(cN cW cC:Addr):Sp:=λvs H Q _=>∃(a:Addr)(wd:Int)(f:Nat)(x:Str)(st:Bool)(t:LN),vs=[.ref a,.str (T t)]/\UnA K H a cN cW cC wd f x st/\Zd x/\t.length<=400/\0<=wd/\wd<=40/\∀l H',zR H H'->H' l=some (.lst (tsV (ucs t wd f x st)))->Q (.ref l) H'
theorem Jl{a:Addr}{t:LN}(h1:UnA K H a cN cW cC wd f x st)(h2:Zd x)(h3:t.length<=400)(h4:0<=wd)(h5:wd<=40)(q:∀l H',zR H H'->H' l=some (.lst (tsV (ucs t wd f x st)))->Q (.ref l) H'):ZI K cN cW cC (.ref a::([.str (T t)]++[])) H Q E:=⟨a,wd,f,x,st,t,rfl,h1,h2,h3,h4,h5,q⟩
include Z in
theorem yI:Gx P w K mg base CX0 "unfilled" [zD,zH,zG] 4 ["self","text"] (ZI K zD zG zH):=by classical
 refine XD Z.bk YD λs H E hr=>⟨_,zB (zJ (xH (cl:=[("self",s.heap.objs.size+1+0)]) (fr:=["self"]) (is:=[0]) rfl rfl ⟨rfl,trivial⟩ rfl ⟨⟨rfl,rfl,Or.inl rfl⟩,trivial⟩ (by decide) (by right) rfl (by right) rfl (pil K (zE (KG Z :) hr (pa4 (pv 1) (pfv K (pv 0)) (pfv K (pv 0)) (pfv K (pv 0))))) (λ_ _ _ _=>JP (qx (z7 (xQ (zQ (qw (zk Z) in0 :) Z.cC zd hr (pv 1) (sa1 (pw 0))) (xQ (zQ (qw (zk Z) in1 :) Z.cF zd hr (pv 1) (sa1 (pw 0))) (zQ (qw (zk Z) in2 :) Z.cI zd hr (pv 1) (sa1 (pw 0)))))))) (λ_ _ _ _=>pv 0))),?_⟩
 nofun;rintro _ Q ⟨a,wd,f,x,st,t,rfl,D0,hs,h3,w0,w1,q⟩;symm;have sl:=Jy (t:=t) (f:=f) (x:=x) w1;have sb:=Zo (t:=t) (w:=wd) (f:=f) (x:=x);cases D0 with
 |num F0=>
  left;rename_i l1 H1 g1 n1 e1;have F1:=F0.same g1;refine jX (SqL.of e1) (qU (by rw[qJ];omega)) (λi ys H'=>zR H1 H'/\ys=tsV (((qy t wd f x).take i).filter (nwd wd st))) ⟨zR.refl _,rfl⟩ (λi ys H' hi h=>⟨SqL.of (h.1.at e1),by rw[h.2,qJ];exact le_trans (length_filter_le _ _) (by rw[length_take];omega)⟩) ?_ ?_
  .rintro i v ys H2 hv hi ⟨g2,rfl⟩;obtain⟨c,hc,rfl⟩:=k8 hv;have F2:=F1.same g2;have cb:=sb c (mem_of_getElem? hc);left;refine JX ?_;left
   .rename_i hk;refine nxC hi ⟨g2,?_⟩;rw[fi hc,filter_cons_of_pos (show nwd wd st c=true from hk),<- xv];rfl
   .rename_i hk;refine nxC hi ⟨g2,?_⟩;rw[fi hc,filter_cons_of_neg (show ¬nwd wd st c=true by unfold nwd;rw[hk];decide),filter_nil,append_nil]
  .rintro ys H2 ⟨g2,rfl⟩ p2 H3 g3 n3 e3;rw[take_of_length_le (by rw[qJ];exact Nat.le_refl _)]at e3;exact q _ _ (g1.trans (g2.trans g3)) e3
 |word F0=>
  left;rename_i l1 H1 g1 n1 e1;have F1:=F0.same g1;refine jX (SqL.of e1) (qU (by rw[qJ];omega)) (λi ys H'=>zR H1 H'/\ys=tsV (((qy t wd f x).take i).filter (nwd wd st))) ⟨zR.refl _,rfl⟩ (λi ys H' hi h=>⟨SqL.of (h.1.at e1),by rw[h.2,qJ];exact le_trans (length_filter_le _ _) (by rw[length_take];omega)⟩) ?_ ?_
  .rintro i v ys H2 hv hi ⟨g2,rfl⟩;obtain⟨c,hc,rfl⟩:=k8 hv;have F2:=F1.same g2;have cb:=sb c (mem_of_getElem? hc);left;refine kB (JX ?_);left
   .rename_i hk;refine nxC hi ⟨g2,?_⟩;rw[fi hc,filter_cons_of_pos (show nwd wd st c=true from hk),<- xv];rfl
   .rename_i hk;refine nxC hi ⟨g2,?_⟩;rw[fi hc,filter_cons_of_neg (show ¬nwd wd st c=true by unfold nwd;rw[hk];decide),filter_nil,append_nil]
  .rintro ys H2 ⟨g2,rfl⟩ p2 H3 g3 n3 e3;rw[take_of_length_le (by rw[qJ];exact Nat.le_refl _)]at e3;exact q _ _ (g1.trans (g2.trans g3)) e3
 |cho F0=>
  left;rename_i l1 H1 g1 n1 e1;have F1:=F0.same g1;refine jX (SqL.of e1) (qU (by rw[qJ];omega)) (λi ys H'=>zR H1 H'/\ys=tsV (((qy t wd f x).take i).filter (nwd wd st))) ⟨zR.refl _,rfl⟩ (λi ys H' hi h=>⟨SqL.of (h.1.at e1),by rw[h.2,qJ];exact le_trans (length_filter_le _ _) (by rw[length_take];omega)⟩) ?_ ?_
  .rintro i v ys H2 hv hi ⟨g2,rfl⟩;obtain⟨c,hc,rfl⟩:=k8 hv;have F2:=F1.same g2;have cb:=sb c (mem_of_getElem? hc);left;refine kB (kB ?_);left
   .rename_i hk;refine nxC hi ⟨g2,?_⟩;rw[fi hc,filter_cons_of_pos (show nwd wd st c=true from hk),<- xv];rfl
   .rename_i hk;refine nxC hi ⟨g2,?_⟩;rw[fi hc,filter_cons_of_neg (show ¬nwd wd st c=true by unfold nwd;rw[hk];decide),filter_nil,append_nil]
  .rintro ys H2 ⟨g2,rfl⟩ p2 H3 g3 n3 e3;rw[take_of_length_le (by rw[qJ];exact Nat.le_refl _)]at e3;exact q _ _ (g1.trans (g2.trans g3)) e3
def Yi(K:W.Frag):Sp:=λvs H Q _=>∃t b:Int,vs=[.int t,.int b]/\0<b/\b<10000000000000000000000000000000000000000000000000000000000000000000000000000000000000000000000000000000000000000000000000000000000000000000000000000000000000000000000000000000000000000000000/\∀p H',zR H H'->H' p=some (.tup [.int (Ji t b),.int (Jp t b)])->Q (.ref p) H'
theorem iD(h1:0<b)(h2:b<10000000000000000000000000000000000000000000000000000000000000000000000000000000000000000000000000000000000000000000000000000000000000000000000000000000000000000000000000000000000000000000000)(q:∀p H',zR H H'->H' p=some (.tup [.int (Ji t b),.int (Jp t b)])->Q (.ref p) H'):Yi K ([.int t,.int b]++[]) H Q E:=⟨t,b,rfl,h1,h2,q⟩
include Z in
theorem iE:Has P w K mg base "fraction" 2 ["top","bottom"] (Yi K):=by
 refine jZ Z.kn Z.bl Qm λs H E hr=>⟨_,zA (zb (PW.pt (kE (qx (z7 (zE (QH Z :) hr (sa1 (pw 0))))) (jc (qx (z7 (zE (QH Z :) hr (sa1 (pw 1)))))))) (zB xF) zM) (zA (zb (pt2 qD (pw 1) pwi) (zB xF) zM) (zA (zF 2 Qm.nd (zE (ZE Z :) hr (sa2 (pw 0) (pw 1)))) (zA (zb (pt2 Vl (pw 1) pwi) (zB (zF 2 Qm.nd (Zl xi (pv 2)))) zM) (zB (zJ (zY (pa2 (po2 qG (pw 0) (pw 2)) (po2 qG (pw 1) (pw 2))))))))),?_⟩
 nofun;rintro _ Q ⟨t,b,rfl,hb,h1,q⟩;symm;have e0:0<(Int.gcd t b:Int):=by have:=Int.gcd_pos_of_ne_zero_right t (show b≠0 by omega);omega
 have e1:(Int.gcd t b:Int)<=b.natAbs:=by have:=Int.gcd_le_natAbs_right (a:=t) (b:=b) (by omega);omega
 left;refine q _ _ (by k_extra "sm") ?_;unfold Ji Jp WP;rw[if_neg (show ¬b<0 by omega),Int.fdiv_eq_ediv_of_nonneg _ (Int.le_of_lt e0),Int.fdiv_eq_ediv_of_nonneg _ (Int.le_of_lt e0)];assumption
local macro_rules|`(tactic|walk_at "rdk")=>`(tactic|((with_reducible refine' iD ?h1 ?h2 ?_);(case h1|h2=>omega);intro p' H' g' e'))
def Q6(K:W.Frag):Sp:=λvs H Q _=>∃k c t:Int,vs=[.int k,.int c,.int t]/\2<=c/\c<=16/\0<=t/\t<=6/\∀p H',zR H H'->H' p=some (.tup [.int (Ji k (c^t.toNat)),.int (Jp k (c^t.toNat))])->Q (.ref p) H'
theorem dM(h1:2<=c)(h2:c<=16)(h3:0<=t)(h4:t<=6)(q:∀p H',zR H H'->H' p=some (.tup [.int (Ji k (c^t.toNat)),.int (Jp k (c^t.toNat))])->Q (.ref p) H'):Q6 K ([.int k,.int c,.int t]++[]) H Q E:=⟨k,c,t,rfl,h1,h2,h3,h4,q⟩
include Z in
theorem Wx:Has P w K mg base "grid_value" 3 ["k","base","places"] (Q6 K):=by
 refine jZ Z.kn Z.bm Kt λs H E hr=>⟨_,zB (zJ (zE (iE Z :) hr (pa2 (pv 0) (zE (XF Z :) hr (sa2 (pw 1) (pw 2)))))),?_⟩
 nofun;rintro _ Q ⟨k,c,t,rfl,h1,h2,h3,h4,q⟩;symm;have z:=pw6 (t:=t) h1 h2 h4;left;exact q _ _ (by k_extra "sm") (by assumption)
local macro_rules|`(tactic|walk_at "rdk")=>`(tactic|((with_reducible refine' dM ?h1 ?h2 ?h3 ?h4 ?_);(case h1|h2|h3|h4=>omega);intro p' H' g' e'))
open Classical in
noncomputable def qY(fg pl b:Int)(sn:Str)(z:Int)(m pt:Nat)(bl:Bool)(t:LN):Option Int:=
 if Sgd sn bl t/\IsB b pl.toNat pt z.toNat m (bod sn bl t)/\iA b pl.toNat z.toNat (bod sn bl t)<b^(fg+pl).toNat/\(bl=true->0<iA b pl.toNat z.toNat (bod sn bl t))then some (if bl=true then -iA b pl.toNat z.toNat (bod sn bl t)else iA b pl.toNat z.toNat (bod sn bl t))else none
def oV:Option Int->V
 |some k=>.int k
 |none=>.non
def jb(K:W.Frag)(C:Addr):Sp:=λvs H Q _=>∃(a:Addr)(fg pl b:Int)(sn:Str)(z:Int)(m pt:Nat)(wy:Str)(wd:Int)(f:Nat)(x:Str)(st:Bool)(t:LN)(bl:Bool),vs=[.ref a,.str (T t),.bl bl]/\zS K H a C wd f x st (jB fg pl b sn z m pt wy)/\QY fg pl b sn z m pt wy wd f x/\Asc t/\t.length<=400/\∀H',zR H H'->Q (oV (qY fg pl b sn z m pt bl t)) H'
include Z in
theorem kM:Gx P w K mg base CX0 "number_with" [zD] 5 ["self","core","below"] (jb K zD):=by classical
 have WH:Nm K "NoCore" qp:=Z.cB;have QG:Nm K "NoBody" qc:=Z.cA;have xc:W.exmAny K (.ref qp) [.ref qp,.ref qc]=some true:=Z.xc;have xb:W.exmAny K (.ref qc) [.ref qp,.ref qc]=some true:=Z.xb;refine XD Z.bn qk λs H E hr=>⟨_,zA (lx rfl rfl (λ_ _ _=>zA (zF 3 qk.nd (K5 (KN Z) hr rfl (pa2 (pv 1) (kC (K:=K) rfl (pv 0) rfl)))) (zB (zF 4 qk.nd (K5 (eO Z) hr rfl (zV (pii (ixt K) (pw 3)) (zV (kC (K:=K) rfl (pv 0) rfl) (pa4 (kC (K:=K) rfl (pv 0) rfl) (kC (K:=K) rfl (pv 0) rfl) (kC (K:=K) rfl (pv 0) rfl) (kC (K:=K) rfl (pv 0) rfl)))))))) (rV rfl Z.af rfl Z.ae (λ_=>zB (zJ Xo)))) (zA (zb (PW.pt (kE (zX ZV (pii (ixt K) (pw 3)) (pv 2)) (jc (z7 (zQ (qw (jf Z) in0 :) Z.cC zd hr (pv 0) (sa1 (pw 4))))))) (zB (zJ Xo)) zM) (zA (zb (qx (z7 (pv 2))) (zB (zJ (pv 4))) zM) (zB (zJ (jN (pt2 kz (pw 4) pwi) (Zl xi (pv 4)) Xo))))),?_⟩
 nofun;rintro _ Q ⟨a,fg,pl,b,sn,z,m,pt,wy,wd,f,x,st,t,bl,rfl,F0,ok,at',ht,q⟩;symm;have o1:=ok.fg1;have o2:=ok.fg2;have o3:=ok.pl1;have o4:=ok.pl2;have o5:=ok.b1;have o6:=ok.b2;have o9:=ok.z1;have o10:=ok.z2;left;refine uM [some (.ref a),some (.str (T t)),some (.bl bl),none,none] ?_;left;refine⟨t,sn,rfl,ok.sn,at',by omega,λb' sd p1 H1 g1 e1=>?_,λn0 n1 C H1 nC g1=>?_⟩
 .have F1:=F0.same g1;have hl:(bod sn b' t).length<=t.length:=by unfold bod;rw[length_drop,length_take];omega
  have ha:Asc (bod sn b' t):=(at'.take _).drop _;left;refine⟨bod sn b' t,b,pl,z,pt,m,rfl,o5,o6,o3,o4,o9,o10,by omega,ha,λib H2 g2=>?_,λni C H2 nC g2=>?_⟩
  .have F2:=F1.same g2;have e2:=g2.at e1;have fin:∀o,qY fg pl b sn z m pt bl t=o->Q (oV o) H2:=λo h=>h▸q _ (g1.trans g2);left;rcases Decidable.em (b'=bl)with rfl|hb
   .refine FM ?_;rw[decide_eq_true rfl];generalize hn:iA b pl.toNat z.toNat (bod sn b' t)=n;left
    .rename_i hc;refine fin none ?_;unfold qY;rw[hn];exact if_neg λh=>by have:=h.2.2.1;omega
    .rename_i h1 h2;have hb:b'=false:=by cases b'<;>simp_all
     subst hb;refine fin (some n) ?_;unfold qY;rw[hn,if_pos ⟨sd,ib,by omega,λh=>by cases h⟩,if_neg Bool.false_ne_true]
    .rename_i h1 h2 h3;have hb:b'=true:=by cases b'<;>simp_all
     subst hb;refine fin (some (-n)) ?_;unfold qY;rw[hn,if_pos ⟨sd,ib,by omega,λh=>h3⟩,if_pos rfl]
    .rename_i h1 h2 h3;have hb:b'=true:=by cases b'<;>simp_all
     subst hb;refine fin none ?_;unfold qY;rw[hn];exact if_neg λh=>h3 (h.2.2.2 rfl)
   .refine FM ?_;rw[decide_eq_false hb];left;refine fin none ?_;unfold qY;refine if_neg λh=>?_;cases bl<;>cases b'
    .exact hb rfl
    .exact Qp ok.sn h.1 sd
    .exact Qp ok.sn sd h.1
    .exact hb rfl
  .have:=Nm.eq nC QG;subst this;refine⟨_,rfl,HW xb ?_⟩;left;have q':=q _ (g1.trans g2);rw[show qY fg pl b sn z m pt bl t=none from ?_]at q'
   .exact q'
   .unfold qY;refine if_neg λh=>ni ?_;obtain rfl:bl=b':=by
     cases bl<;>cases b'
     .rfl
     .exact(Qp ok.sn h.1 sd).elim
     .exact(Qp ok.sn sd h.1).elim
     .rfl
    exact h.2.1
 .have:=Nm.eq nC WH;subst this;refine⟨_,rfl,HW xc ?_⟩;left;have q':=q _ g1;rw[show qY fg pl b sn z m pt bl t=none from ?_]at q'
  .exact q'
  .unfold qY;refine if_neg λh=>?_;cases bl
   .exact n0 h.1
   .exact n1 h.1
theorem K4{a:Addr}{pt:Nat}{t:LN}(h1:zS K H a C wd f x st (jB fg pl b sn z m pt wy))(h2:QY fg pl b sn z m pt wy wd f x)(h3:Asc t)(h4:t.length<=400)(q:∀H',zR H H'->Q (oV (qY fg pl b sn z m pt bl t)) H'):jb K C (.ref a::([.str (T t),.bl bl]++[])) H Q E:=⟨a,fg,pl,b,sn,z,m,pt,wy,wd,f,x,st,t,bl,rfl,h1,h2,h3,h4,q⟩
def RT(H:Hp)(S:Int)(v:V)(k:Int):Prop:=∃p,v=.ref p/\H p=some (.tup [.int (Ji k S),.int (Jp k S)])
variable{S:Int}
theorem RT.same(g:zR H H')(h:RT H S v k):RT H' S v k:=let⟨p,e,k⟩:=h;⟨p,e,g.at k⟩
theorem two_ways{pt:Nat}(hs:yj sn)(cs:LL):(cs.filterMap (qY fg pl b sn z m pt false)).length+(cs.filterMap (qY fg pl b sn z m pt true)).length<=cs.length:=by
 induction cs with
 |nil=>exact Nat.le_refl _
 |cons c cs ih=>
  rw[filterMap_cons,filterMap_cons,length_cons];cases h0:qY fg pl b sn z m pt false c with
  |none=>
   cases h1:qY fg pl b sn z m pt true c with
   |none=>dsimp only;omega
   |some k=>dsimp only;rw[length_cons];omega
  |some j=>
   cases h1:qY fg pl b sn z m pt true c with
   |none=>dsimp only;rw[length_cons];omega
   |some k=>
    exfalso;unfold qY at h0 h1;split at h0
    .rename_i a0;split at h1
     .rename_i a1;exact Qp hs a0.1 a1.1
     .cases h1
    .cases h0
def dk(t l:LN)(w:Int)(f:Nat):LL:=if t.take l.length=l then qy (t.drop l.length) (w-l.length) f "right" else[]
def yz(K:W.Frag):Sp:=λvs H Q _=>∃(t l:LN)(w:Int)(f:Nat),vs=[.str (T t),.str (T l),.int w,.str (T [f])]/\t.length<=1000/\l.length<=400/\t.length-l.length<=400/\w<=40/\0<=w/\∀p H',zR H H'->H p=none->H' p=some (.lst (tsV (dk t l w f)))->Q (.ref p) H'
theorem XB{t l:LN}{w:Int}(h1:t.length<=1000)(h2:l.length<=400)(h5:t.length-l.length<=400)(h3:w<=40)(h4:0<=w)(q:∀p H',zR H H'->H p=none->H' p=some (.lst (tsV (dk t l w f)))->Q (.ref p) H'):yz K ([.str (T t),.str (T l),.int w,.str (T [f])]++[]) H Q E:=⟨t,l,w,f,rfl,h1,h2,h5,h3,h4,q⟩
local macro_rules|`(tactic|walk_at "rdk")=>`(tactic|((with_reducible refine' XB ?h1 ?h2 ?h5 ?h3 ?h4 ?_);(case h1|h2|h5=>k_extra "tl");(case h3|h4=>omega);intro p' H' g' n' e'))
include Z in
theorem Jq:Has P w K mg base "stripped_inside" 4 ["text","lead","width","fill"] (yz K):=by
 refine jZ Z.kn Z.bo Jh λs H E hr=>⟨_,zA (zb (qx (z7 (pbk K PySem.F.plainAttrs_str PySem.F.slot_str_startswith PySem.F.type_str_startswith QX (pv 0) (sa1 (pw 1))))) (zB (zJ (ze ZS))) zM) (zB (zJ (zE (KG Z :) hr (pa4 (zx xk (pv 0) (zt (zL za Z.am rfl qE (sa1 (pw 1)))) qm) (zU jP (pv 2) (zL za Z.am rfl qE (sa1 (pw 1)))) (pv 3) qi)))),?_⟩
 nofun;rintro _ Q ⟨t,l,w,f,rfl,h1,h2,h5,h3,h4,q⟩;symm;left
 .rename_i hc p' H' g' n' e';exact q _ _ g' n' (by rw[e'];unfold dk;rw[if_pos hc,toNat_natCast])
 .rename_i hc p' H' g' n' e';exact q _ _ g' n' (by rw[e'];unfold dk;rw[if_neg hc];rfl)
def cin(t:LN)(sn:Str)(bl:Bool)(wd:Int)(f:Nat)(x:Str)(st:Bool):LL:=if x="inside" then((dk t (stL sn bl) wd f).map λr=>stL sn bl++r).filter (nwd wd st)else ucs t wd f x st
theorem fV{t l:LN}{w:Int}(h:w<=40):(dk t l w f).length<=41:=by
 unfold dk;split
 .exact Jy (by omega)
 .exact zero_le _
theorem Ki{t:LN}(h:wd<=40):(cin t sn bl wd f x st).length<=41:=by
 unfold cin;split
 .exact le_trans (length_filter_le _ _) (by rw[length_map];exact fV h)
 .exact(fU h).1
theorem Wb{α β:Type}{g:α->Option β}{p:α->Bool}:∀l:List α,((l.filter p).filterMap g).length<=(l.filterMap g).length
 |[]=>Nat.le_refl _
 |a::l=>by
  have ih:=Wb (g:=g) (p:=p) l;rw[filter_cons];split
  .rw[filterMap_cons,filterMap_cons];cases g a<;>simp<;>omega
  .rw[filterMap_cons];cases g a<;>simp<;>omega
theorem gT{pt:Nat}{u:LN}(hL:stL sn false=[])(h:qY fg pl b sn z m pt false u=some k):0<=fv (u.getD 0 0):=by
 unfold qY at h;split at h
 .rename_i a;obtain⟨⟨ne,h0,_⟩,e⟩:=a.1;rw[hL,nil_append]at e;have:u.getD 0 0=(bod sn false u).getD 0 0:=by
   conv=>lhs;rw[<- e]
   cases hb:bod sn false u with
   |nil=>exact absurd hb ne
   |cons c r=>rfl
  rw[this];exact h0
 .cases h
theorem oq{a b:Nat}{u v:LN}(h:List.replicate a f++u=List.replicate b f++v)(l:a<b):u.getD 0 0=f/\(List.replicate b f++v).getD 0 0=f:=by
 obtain⟨d,rfl⟩:∃d,b=a+(d+1):=⟨b-a-1,by omega⟩
 rw[<- List.replicate_append_replicate,append_assoc]at h;constructor
 .rw[List.append_cancel_left h];rfl
 .rw[show a+(d+1)=(a+d)+1 from rfl,List.replicate_succ];rfl
theorem AO{α β:Type}{g:α->Option β}:∀l:List α,l.Nodup->(∀a∈l,∀b∈l,∀i j,g a=some i->g b=some j->a=b)->(l.filterMap g).length<=1
 |[],_,_=>zero_le _
 |a::l,nd,h=>by
  obtain⟨n1,n2⟩:=List.nodup_cons.mp nd;cases e:g a with
  |none=>rw[List.filterMap_cons_none e];exact AO l n2 λx hx y hy=>h x (.tail _ hx) y (.tail _ hy)
  |some i=>
   rw[List.filterMap_cons_some e,List.filterMap_eq_nil_iff.mpr λb hb=>?_]
   .exact Nat.le_refl _
   .cases e2:g b with
    |none=>rfl
    |some j=>exact absurd (h a (.head _) b (.tail _ hb) i j e e2▸hb) n1
theorem tQ{pt:Nat}{t:LN}(hL:stL sn false=[])(hw:wd<=40)(hc:fv (t.getD 0 0)<0):((qy t wd f "right").filterMap (qY fg pl b sn z m pt false)).length<=1:=by
 have sr:Zd "right":=.inr (.inl rfl);refine AO _ (Wm sr hw) λu hu v hv i j hi hj=>?_;have eu:=J4 sr hw hu;have ev:=J4 sr hw hv;have fu:=gT hL hi;have fv':=gT hL hj;unfold pad at eu ev;have pb:∀n:Int,(pB "right" n wd).toNat=0:=λn=>by unfold pB;rw[pAr,Int.sub_self];rfl
 rw[pb,List.replicate_zero,append_nil]at eu ev;generalize(pA "right" u.length wd).toNat=a at eu;generalize(pA "right" v.length wd).toNat=c at ev;have e:=eu.trans ev.symm;rcases Nat.lt_trichotomy a c with l|l|l
 .obtain⟨x1,x2⟩:=oq e l;rw[ev]at x2;rw[x2]at hc;rw[x1]at fu;exact absurd fu (Int.not_le.mpr hc)
 .rw[l]at e;exact List.append_cancel_left e
 .obtain⟨x1,x2⟩:=oq e.symm l;rw[eu]at x2;rw[x2]at hc;rw[x1]at fv';exact absurd fv' (Int.not_le.mpr hc)
theorem nY{pt:Nat}{t:LN}(hs:yj sn)(hw:wd<=40):((cin t sn false wd f x st).filterMap (qY fg pl b sn z m pt false)).length+((cin t sn true wd f x st).filterMap (qY fg pl b sn z m pt true)).length<=42:=by
 have l0:=le_trans (List.length_filterMap_le (qY fg pl b sn z m pt false) (cin t sn false wd f x st)) (Ki (bl:=false) (f:=f) (x:=x) (st:=st) (t:=t) (sn:=sn) hw);have l1:=le_trans (List.length_filterMap_le (qY fg pl b sn z m pt true) (cin t sn true wd f x st)) (Ki (bl:=true) (f:=f) (x:=x) (st:=st) (t:=t) (sn:=sn) hw);by_cases hx:x="inside"
 .have same:stL sn false=stL sn true->((cin t sn false wd f x st).filterMap (qY fg pl b sn z m pt false)).length+((cin t sn true wd f x st).filterMap (qY fg pl b sn z m pt true)).length<=42:=λe=>by
   have e2:cin t sn true wd f x st=cin t sn false wd f x st:=by unfold cin;rw[e]
   rw[e2];have tw:=two_ways (fg:=fg) (pl:=pl) (b:=b) (z:=z) (m:=m) (pt:=pt) hs (cin t sn false wd f x st);have:=Ki (bl:=false) (f:=f) (x:=x) (st:=st) (t:=t) (sn:=sn) hw;omega
  have zero:∀bl c,stL sn bl=[c]->t.take 1≠[c]->cin t sn bl wd f x st=[]:=λbl c e h=>by
   unfold cin;rw[if_pos hx,e];unfold dk;rw[if_neg (show ¬t.take [c].length=[c]from h)];rfl
  have apart:∀c d,stL sn false=[c]->stL sn true=[d]->c≠d->((cin t sn false wd f x st).filterMap (qY fg pl b sn z m pt false)).length+((cin t sn true wd f x st).filterMap (qY fg pl b sn z m pt true)).length<=42:=λc d e0 e1 hn=>by
   by_cases h0:t.take 1=[c]
   .rw[zero true d e1 (λh=>hn (List.singleton_inj.mp (h0.symm.trans h))),List.filterMap_nil,length_nil];omega
   .rw[zero false c e0 h0,List.filterMap_nil,length_nil];omega
  have ahead:∀c,stL sn false=[]->stL sn true=[c]->fv c<0->((cin t sn false wd f x st).filterMap (qY fg pl b sn z m pt false)).length+((cin t sn true wd f x st).filterMap (qY fg pl b sn z m pt true)).length<=42:=λc e0 e1 hc=>by
   by_cases h0:t.take 1=[c]
   .have ht:t.getD 0 0=c:=by
     cases t with
     |nil=>simp at h0
     |cons d r=>simp at h0;rw[h0];rfl
    have hone:=tQ (fg:=fg) (pl:=pl) (b:=b) (z:=z) (m:=m) (pt:=pt) (t:=t) (wd:=wd) (f:=f) e0 hw (by rw[ht];exact hc);have e2:cin t sn false wd f x st=(qy t wd f "right").filter (nwd wd st):=by
     unfold cin;rw[if_pos hx,e0];unfold dk;rw[if_pos (by simp)];simp
    rw[e2];have:=Wb (g:=qY fg pl b sn z m pt false) (p:=nwd wd st) (qy t wd f "right");omega
   .rw[zero true c e1 h0,List.filterMap_nil,length_nil];omega
  rcases hs with rfl|rfl|rfl|rfl|rfl
  .exact ahead 45 (by right) (by right) (by right)
  .exact apart 43 45 (by right) (by right) (by decide)
  .exact apart 32 45 (by right) (by right) (by decide)
  .exact ahead 40 (by right) (by right) (by right)
  .exact same (by right)
 .have e:∀bl,cin t sn bl wd f x st=ucs t wd f x st:=λbl=>by unfold cin;rw[if_neg hx]
  rw[e,e];have tw:=two_ways (fg:=fg) (pl:=pl) (b:=b) (z:=z) (m:=m) (pt:=pt) hs (ucs t wd f x st);have:=(fU (t:=t) (f:=f) (x:=x) (st:=st) hw).1;omega
theorem Ei{t:LN}(hs:yj sn):∀c∈cin t sn bl wd f x st,c.length<=t.length+2/\(Asc t->Asc c):=λc hc=>by
 unfold cin at hc;split at hc
 .have hc:=(List.mem_filter.mp hc).1;obtain⟨r,hr,rfl⟩:=List.mem_map.mp hc;unfold dk at hr;split at hr
  .have b:=Zo r hr;have sl:=VP hs bl;have sa:=oh hs bl;rw[length_drop]at b;exact⟨by rw[length_append];omega,λh=>sa.1.app (b.2 (h.drop _))⟩
  .cases hr
 .have b:=Zo c (List.mem_filter.mp hc).1;exact⟨by omega,b.2⟩
def Zc(K:W.Frag)(C:Addr):Sp:=λvs H Q _=>∃(a:Addr)(fg pl b:Int)(sn:Str)(z:Int)(m pt:Nat)(wy:Str)(wd:Int)(f:Nat)(x:Str)(st:Bool)(t:LN)(bl:Bool),vs=[.ref a,.str (T t),.bl bl]/\zS K H a C wd f x st (jB fg pl b sn z m pt wy)/\QY fg pl b sn z m pt wy wd f x/\t.length<=300/\∀l H',zR H H'->H' l=some (.lst (tsV (cin t sn bl wd f x st)))->Q (.ref l) H'
include Z in
theorem Z2:Gx P w K mg base CX0 "cores_in" [zD] 5 ["self","text","below"] (Zc K zD):=by classical
 refine XD Z.bp jE λs H E hr=>⟨_,zA (zb (zX ZV (pfv K (pv 0)) qi) (zB (zJ (zQ (qw (yI Z) in0 :) Z.cC zd hr (pv 0) (sa1 (pw 1))))) zM) (zA (gZ (i:=3) jE.nd rfl (Or.inr rfl) (Xb (ixt K) (zE (Qz Z :) hr (pa2 (pfv K (pv 0)) (pv 2))))) (zA (V2 (cl:=[("lead",s.heap.objs.size+1+1)]) (fr:=["lead"]) (is:=[3]) (i:=4) jE.nd rfl (Or.inl rfl) rfl rfl rfl ⟨rfl,trivial⟩ rfl ⟨⟨rfl,rfl,Or.inl rfl⟩,trivial⟩ (by decide) (by right) rfl (by right) rfl (pil K (zE (Jq Z :) hr (pa4 (pv 1) (pv 3) (pfv K (pv 0)) (pfv K (pv 0))))) (λ_ _ _ _=>xI) (λ_ _ _ _=>po2 qA (pw 1) (pw 0))) (zB (zJ (xH (cl:=[("self",s.heap.objs.size+1+0)]) (fr:=["self"]) (is:=[0]) rfl rfl ⟨rfl,trivial⟩ rfl ⟨⟨rfl,rfl,Or.inl rfl⟩,trivial⟩ (by decide) (by right) rfl (by right) rfl (pil K (pv 4)) (λ_ _ _ _=>JP (qx (z7 (zQ (qw (zk Z) in0 :) Z.cC zd hr (pv 1) (sa1 (pw 0)))))) (λ_ _ _ _=>pv 0)))))),?_⟩
 nofun;rintro _ Q ⟨a,fg,pl,b,sn,z,m,pt,wy,wd,f,x,st,t,bl,rfl,F0,ok,ht,q⟩;symm;have sl:=VP ok.sn bl;have w0:=ok.wd1;have w1:=ok.wd2;have o7:=ok.sn;have ec:∀b:Bool,(x="inside")->cin t sn bl wd f x st=((dk t (stL sn bl) wd f).map λr=>stL sn bl++r).filter (nwd wd st):=λ_ h=>by unfold cin;rw[if_pos h]
 left
 .rename_i hc p0 s0 l1 H1 g1 n1 e1;have F1:=F0.same g1;have sl1:=fV (t:=t) (l:=stL sn bl) (f:=f) w1;have sb1:∀r∈dk t (stL sn bl) wd f,r.length<=t.length:=λr hr=>by
   unfold dk at hr;split at hr
   .have:=(Zo r hr).1;rw[length_drop]at this;omega
   .cases hr
  refine jX (SqL.of e1) (qU (by rw[qJ];omega)) (λi ys H'=>H'=H1/\ys=tsV (((dk t (stL sn bl) wd f).take i).map λr=>stL sn bl++r)) ⟨rfl,rfl⟩ (λi ys H' hi h=>⟨h.1▸SqL.of e1,by rw[h.2,qJ,length_map,length_take];omega⟩) ?_ ?_
  .rintro i v ys H2 hv hi ⟨rfl,rfl⟩;obtain⟨c,hc2,rfl⟩:=k8 hv;have cb:=sb1 c (mem_of_getElem? hc2);left;refine nxC hi ⟨rfl,?_⟩;rw[take_succ,hc2,map_append,<- xv];rfl
  .rintro ys H2 ⟨rfl,rfl⟩ p2 H3 g3 n3 e3;rw[take_of_length_le (by rw[qJ];exact Nat.le_refl _)]at e3;have F3:=F1.same g3;have g03:=g1.trans g3;generalize hcs:(dk t (stL sn bl) wd f).map (λr=>stL sn bl++r)=cs at e3;have lcs:cs.length<=41:=by rw[<- hcs,length_map];exact sl1
   have bcs:∀c∈cs,c.length<=400:=λc hc=>by
    rw[<- hcs]at hc;obtain⟨r,hr,rfl⟩:=List.mem_map.mp hc;have:=sb1 r hr;rw[length_append];omega
   left;refine jX (SqL.of e3) (qU (by rw[qJ];omega)) (λi ys H'=>zR H3 H'/\ys=tsV ((cs.take i).filter (nwd wd st))) ⟨zR.refl _,rfl⟩ (λi ys H' hi h=>⟨SqL.of (h.1.at e3),by rw[h.2,qJ];exact le_trans (length_filter_le _ _) (by rw[length_take];omega)⟩) ?_ ?_
   .rintro i v ys H4 hv hi ⟨g4,rfl⟩;obtain⟨c,hc2,rfl⟩:=k8 hv;have F4:=F3.same g4;have cb:=bcs c (mem_of_getElem? hc2);left
    .rename_i hk;refine nxC hi ⟨g4,?_⟩;rw[fi hc2,filter_cons_of_pos (show nwd wd st c=true from hk),<- xv];rfl
    .rename_i hk;refine nxC hi ⟨g4,?_⟩;rw[fi hc2,filter_cons_of_neg (show ¬nwd wd st c=true by unfold nwd;rw[hk];decide),filter_nil,append_nil]
   .rintro ys H4 ⟨g4,rfl⟩ p4 H5 g5 n5 e5;rw[take_of_length_le (by rw[qJ];exact Nat.le_refl _)]at e5;exact q _ _ (g03.trans (g4.trans g5)) (by rw[ec true hc,hcs];exact e5)
 .rename_i hc;have sx:Zd x:=ok.x.elim id λz=>absurd z hc;refine Jl (.num F0) sx (by omega) w0 w1 λl1 H1 g1 e1=>?_;exact q _ _ g1 (by unfold cin;rw[if_neg hc];exact e1)
def ju(K:W.Frag)(C:Addr):Sp:=λvs H Q _=>∃(a:Addr)(fg pl b:Int)(sn:Str)(z:Int)(m pt:Nat)(wy:Str)(wd:Int)(f:Nat)(x:Str)(st:Bool)(t:LN)(bl:Bool),vs=[.ref a,.str (T t),.bl bl]/\zS K H a C wd f x st (jB fg pl b sn z m pt wy)/\QY fg pl b sn z m pt wy wd f x/\Asc t/\t.length<=300/\∀l H',zR H H'->H' l=some (.lst (((cin t sn bl wd f x st).filterMap (qY fg pl b sn z m pt bl)).map V.int))->Q (.ref l) H'
theorem XV{a:Addr}{pt:Nat}{t:LN}(h1:zS K H a C wd f x st (jB fg pl b sn z m pt wy))(h2:QY fg pl b sn z m pt wy wd f x)(h4:Asc t)(h5:t.length<=300)(q:∀l H',zR H H'->H' l=some (.lst (((cin t sn bl wd f x st).filterMap (qY fg pl b sn z m pt bl)).map V.int))->Q (.ref l) H'):ju K C (.ref a::([.str (T t),.bl bl]++[])) H Q E:=⟨a,fg,pl,b,sn,z,m,pt,wy,wd,f,x,st,t,bl,rfl,h1,h2,h4,h5,q⟩
theorem GN(g:LN->Option Int)(cs:LL):((cs.map λc=>oV (g c)).filter λv=>decide (v≠.non))=(cs.filterMap g).map V.int:=by
 induction cs with
 |nil=>rfl
 |cons c cs ih=>
  rw[map_cons,filterMap_cons];cases h:g c with
  |none=>rw[filter_cons_of_neg (by simp[oV]),ih]
  |some k=>rw[filter_cons_of_pos (by simp[oV]),ih];rfl
include Z in
theorem xJ:Gx P w K mg base CX0 "numbers_in" [zD] 6 ["self","text","below"] (ju K zD):=by classical
 refine XD Z.bq jx λs H E hr=>⟨_,zA (V2 (cl:=[("self",s.heap.objs.size+1+0),("below",s.heap.objs.size+1+1)]) (fr:=["below","self"]) (is:=[2,0]) (i:=3) jx.nd rfl (Or.inl rfl) rfl rfl rfl ⟨rfl,⟨rfl,trivial⟩⟩ rfl ⟨⟨rfl,rfl,Or.inl rfl⟩,⟨⟨rfl,rfl,Or.inl rfl⟩,trivial⟩⟩ (by decide) (by right) rfl (by right) rfl (pil K (zQ (qw (Z2 Z) in0 :) Z.cC zd hr (pv 0) (sa2 (pw 1) (pw 2)))) (λ_ _ _ _=>xI) (λ_ _ _ _=>zQ (qw (kM Z) in0 :) Z.cC zd hr (pv 2) (sa2 (pw 0) (pw 1)))) (zB (zJ (xH (cl:=[]) (fr:=[]) (is:=[]) rfl rfl trivial rfl trivial (by decide) (by right) rfl (by right) rfl (pil K (pv 3)) (λ_ _ _ _=>JP (pt2 Kp (pw 0) pwn)) (λ_ _ _ _=>pv 0)))),?_⟩
 nofun;rintro _ Q ⟨a,fg,pl,b,sn,z,m,pt,wy,wd,f,x,st,t,bl,rfl,F0,ok,at',ht,q⟩;symm;have ul:=Ki (t:=t) (sn:=sn) (bl:=bl) (f:=f) (x:=x) (st:=st) ok.wd2;have ub:=Ei (t:=t) (bl:=bl) (wd:=wd) (f:=f) (x:=x) (st:=st) ok.sn;left;refine⟨a,fg,pl,b,sn,z,m,pt,wy,wd,f,x,st,t,bl,rfl,F0,ok,ht,λl1 H1 g1 e1=>?_⟩;have F1:=F0.same g1;refine jX (SqL.of e1) (qU (by rw[qJ];omega)) (λi ys H'=>zR H1 H'/\ys=((cin t sn bl wd f x st).take i).map λc=>oV (qY fg pl b sn z m pt bl c)) ⟨zR.refl _,rfl⟩ (λi ys H' hi h=>⟨SqL.of (h.1.at e1),by rw[h.2,length_map,length_take];omega⟩) ?_ ?_
 .rintro i v ys H2 hv hi ⟨g2,rfl⟩;obtain⟨c,hc,rfl⟩:=k8 hv;have F2:=F1.same g2;have cb:=ub c (mem_of_getElem? hc);left;refine K4 F2 ok (cb.2 at') (by omega) λH3 g3=>nxC hi ⟨g2.trans g3,?_⟩;rw[take_succ,hc,map_append];rfl
 .rintro ys H2 ⟨g2,rfl⟩ p2 H3 g3 n3 e3;rw[take_of_length_le (by rw[qJ];exact Nat.le_refl _)]at e3;have g03:=g1.trans (g2.trans g3);left;generalize hks:(cin t sn bl wd f x st).map (λc=>oV (qY fg pl b sn z m pt bl c))=ks at e3;have lk:ks.length<=41:=by rw[<- hks,length_map];exact ul
  refine jX (SqL.of e3) (qU (by omega)) (λi ys H'=>zR H3 H'/\ys=(ks.take i).filter λv=>decide (v≠.non)) ⟨zR.refl _,rfl⟩ (λi ys H' hi h=>⟨SqL.of (h.1.at e3),by rw[h.2];exact le_trans (length_filter_le _ _) (by rw[length_take];omega)⟩) ?_ ?_
  .rintro i v ys H4 hv hi ⟨g4,rfl⟩;have hm:v∈(cin t sn bl wd f x st).map λc=>oV (qY fg pl b sn z m pt bl c):=hks▸mem_of_getElem? hv;obtain⟨c,_,hov⟩:=List.mem_map.mp hm;cases ho:qY fg pl b sn z m pt bl c with
   |none=>
    have hov:V.non=v:=by rw[ho]at hov;exact hov
    subst hov;left;refine⟨rfl,?_⟩;rw[decide_eq_true rfl];left;refine nxC hi ⟨g4,?_⟩;rw[fi hv,filter_cons_of_neg (by simp),filter_nil,append_nil]
   |some k=>
    have hov:V.int k=v:=by rw[ho]at hov;exact hov
    subst hov;left;refine oT ?_;left;refine nxC hi ⟨g4,?_⟩;rw[fi hv,filter_cons_of_pos (by simp),filter_nil]
  .rintro ys H4 ⟨g4,rfl⟩ p4 H5 g5 n5 e5;rw[take_length,<- hks,GN]at e5;exact q _ _ (g03.trans (g4.trans g5)) e5
noncomputable def nks(fg pl b:Int)(sn:Str)(z:Int)(m pt:Nat)(wd:Int)(f:Nat)(x:Str)(st:Bool)(t:LN):List Int:=(cin t sn false wd f x st).filterMap (qY fg pl b sn z m pt false)++(cin t sn true wd f x st).filterMap (qY fg pl b sn z m pt true)
def j6(K:W.Frag)(C:Addr):Sp:=λvs H Q _=>∃(a:Addr)(fg pl b:Int)(sn:Str)(z:Int)(m pt:Nat)(wy:Str)(wd:Int)(f:Nat)(x:Str)(st:Bool)(t:LN),vs=[.ref a,.str (T t)]/\zS K H a C wd f x st (jB fg pl b sn z m pt wy)/\QY fg pl b sn z m pt wy wd f x/\Asc t/\t.length<=300/\∀l H' us ms,zR H H'->H' l=some (.lst us)->ms.Perm (nks fg pl b sn z m pt wd f x st t)->Al (RT H' (b^pl.toNat)) us ms->Q (.ref l) H'
include Z in
theorem xB:Gx P w K mg base CX0 "values_for" [zD] 7 ["self","text"] (j6 K zD):=by classical
 refine XD Z.br jt λs H E hr=>⟨_,zA (zF 2 jt.nd (zU xR (zQ (qw (xJ Z) in0 :) Z.cC zd hr (pv 0) (sa2 (pw 1) pwb)) (zQ (qw (xJ Z) in0 :) Z.cC zd hr (pv 0) (sa2 (pw 1) pwb)))) (zB (zJ (xH (cl:=[("self",s.heap.objs.size+1+0)]) (fr:=["self"]) (is:=[0]) rfl rfl ⟨rfl,trivial⟩ rfl ⟨⟨rfl,rfl,Or.inl rfl⟩,trivial⟩ (by decide) (by right) rfl (by right) rfl (pil K (zL fN Z.aA rfl di (sa1 (pw 2)))) (λ_ _ _ _=>xI) (λ_ _ _ _=>zE (Wx Z :) hr (pa3 (pv 0) (kC (K:=K) rfl (pv 1) rfl) (kC (K:=K) rfl (pv 1) rfl)))))),?_⟩
 nofun;rintro _ Q ⟨a,fg,pl,b,sn,z,m,pt,wy,wd,f,x,st,t,rfl,F0,ok,at',ht,q⟩;symm;have tw:=nY (fg:=fg) (pl:=pl) (b:=b) (z:=z) (m:=m) (pt:=pt) (t:=t) (f:=f) (x:=x) (st:=st) ok.sn ok.wd2;have o3:=ok.pl1;have o4:=ok.pl2;have o5:=ok.b1;have o6:=ok.b2;left;refine XV F0 ok at' ht λl1 H1 g1 e1=>?_;have F1:=F0.same g1;left;refine XV F1 ok at' ht λl2 H2 g2 e2=>?_;have F2:=F1.same g2;have e12:=g2.at e1;generalize hA:(cin t sn false wd f x st).filterMap (qY fg pl b sn z m pt false)=A at *;generalize hB:(cin t sn true wd f x st).filterMap (qY fg pl b sn z m pt true)=Bs at *;left;refine tP e12 e2 (qU (by rw[length_map,length_map];omega)) λl3 H3 g3 e3=>?_;rw[<- map_append]at e3;have F3:=F2.same g3;left;refine pR (SqL.of e3) (by rw[length_append];omega) λms l4 H4 pm ps g4 e4=>?_;have F4:=F3.same g4;have lm:ms.length<=42:=by rw[pm.length_eq,length_append];omega
 refine jX (SqL.of e4) (qU (by rw[length_map];omega)) (λi ys H'=>zR H4 H'/\Al (RT H' (b^pl.toNat)) ys (ms.take i)) ⟨zR.refl _,.nil⟩ (λi ys H' hi h=>⟨SqL.of (h.1.at e4),by rw[h.2.len,length_take];omega⟩) ?_ ?_
 .rintro i v ys H5 hv hi ⟨g5,al⟩;obtain⟨k,hk,rfl⟩:∃k,ms[i]?=some k/\v=.int k:=by
   rw[getElem?_map]at hv;cases hc:ms[i]? with
   |none=>rw[hc]at hv;cases hv
   |some c=>rw[hc]at hv;cases hv;exact⟨c,rfl,rfl⟩
  have F5:=F4.same g5;left;rename_i p6 H6 g6 e6;refine nxC hi ⟨g5.trans g6,?_⟩;rw[take_succ,hk];exact(al.imp λ_ _ h=>h.same g6).app (.one ⟨p6,rfl,e6⟩)
 .rintro ys H5 ⟨g5,al⟩ p6 H6 g6 n6 e6;rw[take_of_length_le (by rw[length_map];exact Nat.le_refl _)]at al;refine q _ _ _ ms (by k_extra "sm") e6 ?_ (al.imp λ_ _ h=>h.same g6);unfold nks;rw[hA,hB];exact pm
variable{X:Cx}
theorem Ds(e:X.K=K):OpR X (compareOp .In) (rIn K false):=e▸YW
def cvs(ns:LL)(t:LN)(wd:Int)(f:Nat)(x:Str)(st:Bool):LL:=ns.filter λn=>decide (n∈ucs t wd f x st)
def jo(K:W.Frag)(C:Addr):Sp:=λvs H Q _=>∃(a L:Addr)(ns:LL)(wd:Int)(f:Nat)(x:Str)(st:Bool)(t:LN),vs=[.ref a,.str (T t)]/\zS K H a C wd f x st (Je L)/\H L=some (.lst (tsV ns))/\ns.length<=40/\Zd x/\0<=wd/\wd<=40/\t.length<=400/\∀l H',zR H H'->H' l=some (.lst (tsV (cvs ns t wd f x st)))->Q (.ref l) H'
include Z in
theorem j8:Gx P w K mg base CX0 "values_for" [zH] 5 ["self","text"] (jo K zH):=by classical
 refine XD Z.bs jv λs H E hr=>⟨_,zA (gZ (i:=2) jv.nd rfl (Or.inr rfl) (zQ (qw (yI Z) in1 :) Z.cI zd hr (pv 0) (sa1 (pw 1)))) (zB (zJ (xH (cl:=[("cores",s.heap.objs.size+1+0)]) (fr:=["cores"]) (is:=[2]) rfl rfl ⟨rfl,trivial⟩ rfl ⟨⟨rfl,rfl,Or.inl rfl⟩,trivial⟩ (by decide) (by right) rfl (by right) rfl (pil K (pfv K (pv 0))) (λ_ _ _ _=>JP (Jr (Ds (K:=K) rfl) (pv 0) (pv 1) (by with_unfolding_all rfl))) (λ_ _ _ _=>pv 0)))),?_⟩
 nofun;rintro _ Q ⟨a,L,ns,wd,f,x,st,t,rfl,F0,e0,nl,hs,w0,w1,ht,q⟩;symm;left;refine Jl (.cho F0) hs ht w0 w1 λl1 H1 g1 e1=>?_;have F1:=F0.same g1;have e01:=g1.at e0;left;refine jX (SqL.of e01) (qU (by rw[qJ];omega)) (λi ys H'=>zR H1 H'/\ys=tsV ((ns.take i).filter λn=>decide (n∈ucs t wd f x st))) ⟨zR.refl _,rfl⟩ (λi ys H' hi h=>⟨SqL.of (h.1.at e01),by rw[h.2,qJ];exact le_trans (length_filter_le _ _) (by rw[length_take];omega)⟩) ?_ ?_
 .rintro i v ys H2 hv hi ⟨g2,rfl⟩;obtain⟨c,hc,rfl⟩:=k8 hv;have e12:=g2.at e1;left
  .rename_i hk;refine nxC hi ⟨g2,?_⟩;rw[fi hc,filter_cons_of_pos (p:=λn=>decide (n∈ucs t wd f x st)) (decide_eq_true hk),<- xv];rfl
  .rename_i hk;refine nxC hi ⟨g2,?_⟩;rw[fi hc,filter_cons_of_neg (p:=λn=>decide (n∈ucs t wd f x st)) (by simpa using hk),filter_nil,append_nil]
 .rintro ys H2 ⟨g2,rfl⟩ p2 H3 g3 n3 e3;rw[take_of_length_le (by rw[qJ];exact Nat.le_refl _)]at e3;exact q _ _ (g1.trans (g2.trans g3)) e3
def wvs(sg:LN)(lo hi:Int)(t:LN)(wd:Int)(f:Nat)(x:Str)(st:Bool):LL:=(ucs t wd f x st).filter λc=>decide (Isw sg lo hi c)
def xS(K:W.Frag)(C:Addr):Sp:=λvs H Q _=>∃(a:Addr)(sg:LN)(lo hi:Int)(wd:Int)(f:Nat)(x:Str)(st:Bool)(t:LN),vs=[.ref a,.str (T t)]/\zS K H a C wd f x st (xn sg lo hi)/\Zd x/\0<=wd/\wd<=40/\t.length<=400/\∀l H' ds,zR H H'->H' l=some (.lst (tsV ds))->ds.Perm (wvs sg lo hi t wd f x st)->Q (.ref l) H'
include Z in
theorem xl:Gx P w K mg base CX0 "values_for" [zG] 5 ["self","text"] (xS K zG):=by classical
 refine XD Z.bt ZX λs H E hr=>⟨_,zB (zJ (zL Wo Z.aA rfl di (pa1 (xH (cl:=[("self",s.heap.objs.size+1+0)]) (fr:=["self"]) (is:=[0]) rfl rfl ⟨rfl,trivial⟩ rfl ⟨⟨rfl,rfl,Or.inl rfl⟩,trivial⟩ (by decide) (by right) rfl (by right) rfl (pil K (zQ (qw (yI Z) in2 :) Z.cF zd hr (pv 0) (sa1 (pw 1)))) (λ_ _ _ _=>JP (z7 (zQ (qw (yr Z) in0 :) Z.cF zd hr (pv 1) (sa1 (pw 0))))) (λ_ _ _ _=>pv 0))))),?_⟩
 nofun;rintro _ Q ⟨a,sg,lo,hi,wd,f,x,st,t,rfl,F0,hs,w0,w1,ht,q⟩;symm;obtain⟨ul,ub⟩:=fU (t:=t) (f:=f) (x:=x) (st:=st) w1;left;refine Jl (.word F0) hs ht w0 w1 λl1 H1 g1 e1=>?_;have F1:=F0.same g1;refine jX (SqL.of e1) (qU (by rw[qJ];omega)) (λi ys H'=>zR H1 H'/\ys=tsV (((ucs t wd f x st).take i).filter λc=>decide (Isw sg lo hi c))) ⟨zR.refl _,rfl⟩ (λi ys H' hi h=>⟨SqL.of (h.1.at e1),by rw[h.2,qJ];exact le_trans (length_filter_le _ _) (by rw[length_take];omega)⟩) ?_ ?_
 .rintro i v ys H2 hv hi' ⟨g2,rfl⟩;obtain⟨c,hc,rfl⟩:=k8 hv;have F2:=F1.same g2;have cb:=(ub c (mem_of_getElem? hc)).1;left
  .rename_i H3 g3 hk;refine nxC hi' ⟨g2.trans g3,?_⟩;rw[fi hc,filter_cons_of_pos (p:=λc=>decide (Isw sg lo hi c)) (by simpa using hk),<- xv];rfl
  .rename_i H3 g3 hk;refine nxC hi' ⟨g2.trans g3,?_⟩;rw[fi hc,filter_cons_of_neg (p:=λc=>decide (Isw sg lo hi c)) (by simpa using hk),filter_nil,append_nil]
 .rintro ys H2 ⟨g2,rfl⟩ p2 H3 g3 n3 e3;rw[take_of_length_le (by rw[qJ];exact Nat.le_refl _)]at e3;left;exact nL e3 (Nat.lt_of_le_of_lt (length_filter_le _ _) (by omega)) λds l4 H4 pm g4 e4=>q _ _ _ (g1.trans (g2.trans (g3.trans g4))) e4 pm
theorem tH(hb:0<b):Int.gcd (Ji t b) (Jp t b)=1:=by
 unfold Ji Jp WP;have e0:(0:Int)<=(Int.gcd t b:Int):=by omega
 rw[if_neg (show ¬b<0 by omega),Int.fdiv_eq_ediv_of_nonneg _ e0,Int.fdiv_eq_ediv_of_nonneg _ e0];exact Int.gcd_ediv_gcd_ediv_gcd (Int.gcd_pos_of_ne_zero_right _ (show b≠0 by omega))
def QI(pl b:Int)(sn:Str)(z:Int)(m pt:Nat)(k:Int):LN:=bdI k.natAbs b pl pt z m++stT sn (decide (k<0))
theorem tZ{n:Int}(o1:1<=fg)(o2:fg<=12)(o3:0<=pl)(o4:pl<=6)(o5:2<=b)(o6:b<=16)(h0:0<=n)(h:Vi fg pl b n):n<1766847064778384329583297500742918515827483896875618958121606201292619776:=by
 unfold Vi at h;have a:=G1 (b:=b) (n:=(fg+pl).toNat) o5 o6 (by omega);have e:((b.toNat^(fg+pl).toNat:Nat):Int)=b^(fg+pl).toNat:=by rw[natCast_pow,Int.toNat_of_nonneg (by omega)]
 omega
inductive VlA(H:Hp)(v:V):Fd->LN->LN->Prop
 |num {p:Addr} {fg pl b:Int} {sn:Str} {z:Int} {m pt:Nat} {wy:Str} {k:Int} (hv:v=.ref p) (hp:H p=some (.tup [.int (Ji k (b^pl.toNat)),.int (Jp k (b^pl.toNat))])) (lim:Vi fg pl b k):VlA H v (.num fg pl b sn z m pt wy) (stL sn (decide (k<0))) (QI pl b sn z m pt k)
 |word {sg:LN} {lo hi:Int} {t:LN} (hv:v=.str (T t)) (iw:Isw sg lo hi t):VlA H v (.word sg lo hi) [] t
 |cho {ns:Ce} {t:LN} (hv:v=.str (T t)) (hm:t∈ns):VlA H v (.cho ns) [] t
variable{rs:LN}
theorem VlA.same{d:Fd}(g:zR H H')(h:VlA H v d ld rs):VlA H' v d ld rs:=by
 cases h with
 |num hv hp lim=>exact .num hv (g.at hp) lim
 |word hv iw=>exact .word hv iw
 |cho hv hm=>exact .cho hv hm
def okS(wd:Int)(f:Nat)(x:Str):Fd->Prop
 |.num fg pl b sn z m pt wy=>QY fg pl b sn z m pt wy wd f x
 |.word sg lo hi=>WdS sg lo hi wd f x
 |.cho ns=>ChS ns wd f x
theorem Yn.okS{d:Fd}(h:Yn K H o cN cW cC wd f x st d):okS wd f x d:=by
 cases h<;>assumption
theorem VlA.ok{d:Fd}(D:okS wd f x d)(h:VlA H v d ld rs):ld.length<=2/\rs.length<=200/\Asc ld/\Asc rs:=by
 cases h with
 |@num q fg pl b sn z m pt wy k hv hp lim=>
  have ok:QY fg pl b sn z m pt wy wd f x:=D;obtain⟨nb,n2,n3,n4⟩:=QC ok lim;have sl:=VP ok.sn (decide (k<0));have sa:=oh ok.sn (decide (k<0));have bs:=gR (z:=z.toNat) (b:=b.toNat) (p:=pl.toNat) (n:=(k.natAbs:Int).toNat) (by have:=ok.b1;omega) (by have:=ok.b2;omega) (by have:=ok.pl2;omega) nb.2.2.2.2.2 ok.pt ok.m;refine⟨by omega,?_,sa.1,?_⟩
  .unfold QI bdI;rw[length_append];have:=bs.2.2;omega
  .unfold QI bdI;exact bs.2.1.app sa.2
 |@word sg lo hi t hv iw=>
  have ok:WdS sg lo hi wd f x:=D;have h1:=iw.1.2;have h2:=ok.hi2;exact⟨by decide,by omega,Asc.nil,λc hc=>ok.sa c (iw.2 c hc)⟩
 |@cho ns t hv hm=>
  have ok:ChS ns wd f x:=D;exact⟨by decide,le_trans (ok.len _ hm).2 (by decide),Asc.nil,ok.ta _ hm⟩
theorem rP{b p pt z:Nat}(h2:2<=b)(h16:b<=16)(hp:p<=6)(h:n<b^(40+p)):IsB b p pt z m (bdy b p pt z m n)/\iA b p z (bdy b p pt z m n)=n:=by
 obtain⟨d1,d2,d3,d4,d5⟩:=JA h2 h16 hp h;have ul:(whl b p n).length=(dgs b p n).length-p:=by unfold whl;rw[length_take];omega
 have rl:(rst b p n).length=p:=by unfold rst;rw[length_drop];omega
 have ur:whl b p n++rst b p n=dgs b p n:=List.take_append_drop _ _;generalize hu:whl b p n=u at *;generalize hr:rst b p n=r at *;generalize dgs b p n=D at *;have key:WE p pt (bdy b p pt z m n)/\j7 p (bdy b p pt z m n)=gr z m u/\JQ p (bdy b p pt z m n)=r:=by
  unfold bdy WE j7 JQ;rw[hu,hr];rcases eq_zero_or_pos p with e|e
  .subst e;rw[if_pos rfl];exact⟨.inl rfl,rfl,(List.length_eq_zero_iff.mp rl).symm⟩
  .rw[if_neg (by omega),if_neg (by omega),if_neg (by omega)];have tl:(gr z m u++[pt]++r).length=(gr z m u).length+1+p:=by rw[length_append,length_append,rl];rfl
   rw[tl];have e1:(gr z m u).length+1+p-p-1=(gr z m u).length:=by omega
   have e2:(gr z m u).length+1+p-p=(gr z m u++[pt]).length:=by rw[length_append,List.length_singleton];omega
   refine⟨.inr ⟨by omega,?_⟩,?_,?_⟩
   .rw[e1,append_assoc,getD_eq_getElem?_getD,List.getElem?_append_right (Nat.le_refl _),Nat.sub_self];rfl
   .rw[e1,append_assoc,take_left]
   .rw[e2,drop_left]
 obtain⟨k1,k2,k3⟩:=key;unfold IsB iA;rw[k2,k3,sT,ur];refine⟨⟨k1,⟨by rw[sT];omega,by rw[sT];omega,by rw[sT]⟩,d1,?_⟩,d2⟩;rintro⟨a,c⟩;have:D.getD 0 0=48:=by rw[<- ur,getD_eq_getElem?_getD,List.getElem?_append_left (by omega),<- getD_eq_getElem?_getD];exact c
 have:=d5 this;omega
theorem nO{B:LN}:bod sn bl (sg sn bl B)=B:=by
 unfold bod sg;rw[length_append,Nat.add_sub_cancel,take_left,drop_left]
theorem yK{pt:Nat}:xN pl b sn z m pt k=stL sn (decide (k<0))++QI pl b sn z m pt k:=by unfold xN sg QI;rw[append_assoc]
theorem iF{pt:Nat}(ok:QY fg pl b sn z m pt wy wd f x)(h:Vi fg pl b k):qY fg pl b sn z m pt (decide (k<0)) (xN pl b sn z m pt k)=some k:=by
 obtain⟨nb,n2,n3,n4⟩:=QC ok h;obtain⟨B,rfl⟩:=eq_ofNat_of_zero_le (show 0<=b by have:=ok.b1;omega);have o5:=ok.b1;have o6:=ok.b2;have o4:=ok.pl2;have o3:=ok.pl1;have nb6:=nb.2.2.2.2.2;rw[toNat_natCast,toNat_natCast]at nb6;obtain⟨i1,i2⟩:=rP (b:=B) (p:=pl.toNat) (pt:=pt) (z:=z.toNat) (m:=m) (n:=k.natAbs) (by omega) (by omega) (by omega) nb6;have eb:bod sn (decide (k<0)) (xN pl B sn z m pt k)=bdy B pl.toNat pt z.toNat m k.natAbs:=by
  unfold xN;rw[nO];unfold bdI;rw[toNat_natCast,toNat_natCast]
 have pe:((B^(fg+pl).toNat:Nat):Int)=(B:Int)^(fg+pl).toNat:=natCast_pow ..;unfold Vi at h;rw[toNat_natCast]at h;unfold qY;rw[eb,i2,if_pos ⟨n2,i1,by omega,λe=>by have:=of_decide_eq_true e;omega⟩];by_cases e:k<0
 .rw[if_pos (decide_eq_true e)];congr 1;omega
 .rw[if_neg (by simpa using e)];congr 1;omega
theorem lO(hf:f<127):Asc (List.replicate n f):=λc hc=>by rw[(List.mem_replicate.mp hc).2];exact hf
theorem lK{t:LN}(h:Asc t)(hf:f<127):Asc (pad t wd f x):=((lO hf).app h).app (lO hf)
theorem Bm(sx:VZ x)(w0:0<=wd)(hw:wd<=40)(hf:f<127)(l1:ld.length<=2)(l2:rs.length<=200)(a1:Asc ld)(a2:Asc rs):Asc (JM ld (ld++rs) wd f x)/\(JM ld (ld++rs) wd f x).length<=250:=by
 unfold JM;split
 .rw[drop_left];have pl:=VR (f:=f) (yb (x:="right") (n:=rs.length) (w:=wd-ld.length) (.inr (.inl rfl)) (by omega) (by omega));have b2:=Jz rs.length (wd-ld.length) (by omega) (by omega);exact⟨a1.app (lK a2 hf),by rw[length_append];omega⟩
 .rename_i hc;have sx':Zd x:=sx.elim id λz=>absurd z hc;have pl:=VR (f:=f) (yb (x:=x) (n:=(ld++rs).length) (w:=wd) sx' (by omega) hw);have b2:=Jz (ld++rs).length wd (by omega) hw;rw[length_append]at pl b2;exact⟨lK (a1.app a2) hf,by omega⟩
def sD(t:LN):PyData:=.str (T t)
def rD(S k:Int):PyData:=.tuple [.int (Ji k S),.int (Jp k S)]
theorem eP{t:LN}(sx:Zd x)(hw:wd<=40){c:LN}:c∈ucs t wd f x st↔pad c wd f x=t/\nwd wd st c=true:=by
 unfold ucs;rw[mem_filter,J3 sx hw]
theorem iQ{pt:Nat}{c:LN}(ok:QY fg pl b sn z m pt wy wd f x)(h:qY fg pl b sn z m pt bl c=some k):Vi fg pl b k/\decide (k<0)=bl/\c=xN pl b sn z m pt k:=by
 have o1:=ok.fg1;have o2:=ok.fg2;have o3:=ok.pl1;have o4:=ok.pl2;have o5:=ok.b1;have o6:=ok.b2;obtain⟨B,rfl⟩:=eq_ofNat_of_zero_le (show 0<=b by omega);unfold qY at h;split at h
 .rename_i a;obtain⟨sd,ib,lt,pos⟩:=a;obtain⟨v0,v1,v2⟩:=sU (b:=B) (p:=pl.toNat) (by omega) (by omega) (by omega) ib;have pe:((B^(fg+pl).toNat:Nat):Int)=(B:Int)^(fg+pl).toNat:=natCast_pow ..;generalize hv:iA (B:Int) pl.toNat z.toNat (bod sn bl c)=v at *;have fin:decide (k<0)=bl/\k.natAbs=v.toNat:=by
   cases bl with
   |true=>
    have p:=pos rfl;rw[if_pos rfl]at h;have:k=-v:=by cases h;rfl
    exact⟨decide_eq_true (by omega),by omega⟩
   |false=>
    rw[if_neg (by decide)]at h;have:k=v:=by cases h;rfl
    exact⟨decide_eq_false (by omega),by omega⟩
  refine⟨by unfold Vi;rw[toNat_natCast,fin.2];omega,fin.1,?_⟩;unfold xN bdI;rw[fin.1,toNat_natCast,toNat_natCast,fin.2,v2];exact sd.2.symm
 .cases h
theorem oP{t:LN}(sx:VZ x)(hw:wd<=40):stL sn bl++rs∈cin t sn bl wd f x st↔JM (stL sn bl) (stL sn bl++rs) wd f x=t/\nwd wd st (stL sn bl++rs)=true:=by
 unfold cin JM;split
 .rw[drop_left,mem_filter];refine and_congr ?_ Iff.rfl;rw[mem_map];unfold dk;constructor
  .rintro⟨r,hr,e⟩;rw[List.append_cancel_left e]at hr;split at hr
   .rename_i ht;rw[J3 (.inr (.inl rfl)) (by omega)]at hr;rw[hr];conv=>rhs;rw[<- List.take_append_drop (stL sn bl).length t,ht]
   .cases hr
  .intro e;refine⟨rs,?_,rfl⟩;rw[if_pos (by rw[<- e,take_left]),J3 (.inr (.inl rfl)) (by omega),<- e,drop_left]
 .rename_i hx;exact eP (sx.elim id λz=>absurd z hx) hw
theorem nF{pt:Nat}{t:LN}(ok:QY fg pl b sn z m pt wy wd f x):k∈nks fg pl b sn z m pt wd f x st t↔Vi fg pl b k/\nwd wd st (xN pl b sn z m pt k)=true/\JM (stL sn (decide (k<0))) (xN pl b sn z m pt k) wd f x=t:=by
 have half:∀bl,k∈(cin t sn bl wd f x st).filterMap (qY fg pl b sn z m pt bl)↔decide (k<0)=bl/\Vi fg pl b k/\nwd wd st (xN pl b sn z m pt k)=true/\JM (stL sn (decide (k<0))) (xN pl b sn z m pt k) wd f x=t:=λbl=>by
  rw[List.mem_filterMap];constructor
  .rintro⟨c,hc,hn⟩;obtain⟨l,e,rfl⟩:=iQ ok hn;rw[yK,e]at hc;have:=(oP ok.x ok.wd2).mp hc;rw[<- e,<- yK]at this;exact⟨e,l,this.2,this.1⟩
  .rintro⟨e,l,h1,h2⟩;refine⟨xN pl b sn z m pt k,?_,by rw[<- e];exact iF ok l⟩;rw[yK,e];refine(oP ok.x ok.wd2).mpr ?_;rw[<- e,<- yK];exact⟨h2,h1⟩
 unfold nks;rw[List.mem_append,half,half];constructor
 .rintro(h|h)<;>exact h.2
 .intro h;cases e:decide (k<0)
  .rw[e]at h;exact .inl ⟨rfl,h⟩
  .rw[e]at h;exact .inr ⟨rfl,h⟩
theorem Al.map{α β:Type}{R:V->β->Prop}{g:α->β}{as:List α}(h:Al (λv a=>R v (g a)) vs as):Al R vs (as.map g):=by
 induction h with
 |nil=>exact .nil
 |cons h _ ih=>exact .cons h ih
theorem gv{c:LN}:nwd wd st c=true↔(st&&decide (wd<(c.length:Int)))=false:=by
 unfold nwd;cases (st&&decide (wd<(c.length:Int)))<;>simp
inductive Vc where
 |n (k:Int)
 |t (t:LN)
def VcN(H:Hp)(v:V):Fd->Vc->Prop
 |.num _ pl b _ _ _ _ _,.n k=>∃p,v=.ref p/\H p=some (.tup [.int (Ji k (b^pl.toNat)),.int (Jp k (b^pl.toNat))])
 |.word _ _ _,.t t=>v=.str (T t)
 |.cho _,.t t=>v=.str (T t)
 |_,_=>False
def Vok:Fd->Vc->Prop
 |.num fg pl b _ _ _ _ _,.n k=>Vi fg pl b k
 |.word sg lo hi,.t t=>Isw sg lo hi t
 |.cho ns,.t t=>t∈ns
 |_,_=>False
def pr:Fd->Vc->LN×LN
 |.num _ pl b sn z m pt _,.n k=>(stL sn (decide (k<0)),QI pl b sn z m pt k)
 |_,.t t=>([],t)
 |_,_=>([],[])
def Tld(wd:Int)(f:Nat)(x:Str)(st:Bool)(t:LN)(d:Fd)(c:Vc):Prop:=Vok d c/\(st&&decide (wd<(((pr d c).1++(pr d c).2).length:Int)))=false/\JM (pr d c).1 ((pr d c).1++(pr d c).2) wd f x=t
theorem VcN.same{d:Fd}{c:Vc}(g:zR H H')(h:VcN H v d c):VcN H' v d c:=by
 cases d<;>cases c<;>first|exact h|(obtain⟨p,e,k⟩:=h;exact⟨p,e,g.at k⟩)
theorem VcN.vl{d:Fd}{c:Vc}(h:VcN H v d c)(o:Vok d c):VlA H v d (pr d c).1 (pr d c).2:=by
 cases d with
 |num fg pl b sn z m pt wy=>cases c with
  |n k=>obtain⟨p,e,hp⟩:=h;exact .num e hp o
  |t t=>exact h.elim
 |word sg lo hi=>cases c with
  |n k=>exact h.elim
  |t t=>exact .word h o
 |cho ns=>cases c with
  |n k=>exact h.elim
  |t t=>exact .cho h o
theorem Vok.ok{d:Fd}{c:Vc}(D:okS wd f x d)(o:Vok d c):(pr d c).1.length<=2/\(pr d c).2.length<=200/\Asc (pr d c).1/\Asc (pr d c).2:=by
 cases d with
 |num fg pl b sn z m pt wy=>cases c with
  |n k=>exact VlA.ok (H:=λ_=>some (.tup [.int (Ji k (b^pl.toNat)),.int (Jp k (b^pl.toNat))])) (v:=.ref default) D (.num rfl rfl o)
  |t t=>exact o.elim
 |word sg lo hi=>cases c with
  |n k=>exact o.elim
  |t t=>exact VlA.ok (H:=λ_=>none) (v:=.str (T t)) D (.word rfl o)
 |cho ns=>cases c with
  |n k=>exact o.elim
  |t t=>exact VlA.ok (H:=λ_=>none) (v:=.str (T t)) D (.cho rfl o)
structure Ii(wd:Int)(f:Nat)(x:Str)(st:Bool)(t:LN)(d:Fd)(cs:List Vc):Prop where
 mem:∀c,c∈cs↔Tld wd f x st t d c
 len:cs.length<=42
theorem AY{d:Fd}{t:LN}{tt:TA}(F:Yn K H o cN cW cC wd f x st d)(at':Asc t)(tl:t.length<=300)
  (hta:∀Q':VK,Q' (.ref o) H->ta σ H Q') (ht:∀Q':List V->Hp->Prop,Q' [.str (T t)] H->tt σ H Q') (q:∀l H' us cs,zR H H'->H' l=some (.lst us)->Al (λv c=>VcN H' v d c) us cs->Ii wd f x st t d cs->Q (.ref l) H'):
  sE (VN cN "values_for" (j6 K cN) [] E ta tt) (sE (VN cW "values_for" (xS K cW) [] E ta tt) (VN cC "values_for" (jo K cC) [] E ta tt)) σ H Q:=by
 obtain⟨_,_,_,sx,w0,w1⟩:=F.bd;cases F with
 |@num fg pl b sn z m pt wy F ok=>
  refine JX (Vb (hta _ (Zx (eH F (by right) (by right)) (ht _ ?_))));refine⟨o,_,_,_,_,_,_,_,_,_,_,_,_,_,rfl,F,ok,at',tl,λl H' us ms g e pm al=>?_⟩;have hl:ms.length<=42:=by
   have:=nY (fg:=fg) (pl:=pl) (b:=b) (z:=z) (m:=m) (pt:=pt) (t:=t) (f:=f) (x:=x) (st:=st) ok.sn ok.wd2;rw[pm.length_eq];unfold nks;rw[length_append];exact this
  refine q l H' us (ms.map .n) g e (Al.map al) ⟨λc=>?_,by rw[length_map];exact hl⟩
  .rw[mem_map];constructor
   .rintro⟨k,hk,rfl⟩;obtain⟨l1,l2,l3⟩:=(nF ok).mp (pm.mem_iff.mp hk);have nc:=yK (pl:=pl) (b:=b) (sn:=sn) (z:=z) (m:=m) (pt:=pt) (k:=k);exact⟨l1,by show(st&&decide (wd<((stL sn (decide (k<0))++QI pl b sn z m pt k).length:Int)))=false;rw[<- nc];exact gv.mp l2,by show JM (stL sn (decide (k<0))) (stL sn (decide (k<0))++QI pl b sn z m pt k) wd f x=t;rw[<- nc];exact l3⟩
   .rintro⟨h1,h2,h3⟩;cases c with
    |t t=>exact h1.elim
    |n k=>
     have nc:=yK (pl:=pl) (b:=b) (sn:=sn) (z:=z) (m:=m) (pt:=pt) (k:=k);have h2:(st&&decide (wd<((stL sn (decide (k<0))++QI pl b sn z m pt k).length:Int)))=false:=h2;have h3:JM (stL sn (decide (k<0))) (stL sn (decide (k<0))++QI pl b sn z m pt k) wd f x=t:=h3;rw[<- nc]at h2 h3;exact⟨k,pm.mem_iff.mpr ((nF ok).mpr ⟨h1,gv.mpr h2,h3⟩),rfl⟩
 |@word sg lo hi F ok=>
  refine kB (JX (Vb (hta _ (Zx (fO F (by right) (by right) (by right) (by right)) (ht _ ?_)))));refine⟨o,_,_,_,_,_,_,_,_,rfl,F,ok.x,w0,w1,by omega,λl H' ds g e pm=>?_⟩;have mi:∀c,c∈ds↔(pad c wd f x=t/\nwd wd st c=true)/\Isw sg lo hi c:=λc=>by
   rw[pm.mem_iff];unfold wvs;rw[mem_filter,eP ok.x w1,decide_eq_true_iff]
  have hl:ds.length<=42:=by
   have:=(fU (t:=t) (f:=f) (x:=x) (st:=st) w1).1;rw[pm.length_eq];exact le_trans (length_filter_le _ _) (by omega)
  have nx:=Ks ok.x;refine q l H' _ (ds.map .t) g e ?_ ⟨λc=>?_,by rw[length_map];exact hl⟩
  .refine Al.map ?_;clear pm hl mi e;induction ds with
   |nil=>exact .nil
   |cons c ds ih=>exact .cons rfl ih
  .rw[mem_map];constructor
   .rintro⟨c,hc,rfl⟩;obtain⟨⟨h1,h2⟩,h3⟩:=(mi _).mp hc;exact⟨h3,gv.mp h2,by show JM [] c wd f x=t;unfold JM;rw[if_neg nx];exact h1⟩
   .rintro⟨h1,h2,h3⟩;cases c with
    |n k=>exact h1.elim
    |t c=>
     have h3:JM [] c wd f x=t:=h3;unfold JM at h3;rw[if_neg nx]at h3;exact⟨c,(mi c).mpr ⟨⟨h3,gv.mpr h2⟩,h1⟩,rfl⟩
 |@cho L ns F e0 ok=>
  refine kB (kB (Vb (hta _ (Zx (d8 F (by right) (by right)) (ht _ ?_)))));refine⟨o,_,_,_,_,_,_,_,rfl,F,e0,by have:=ok.n2;omega,ok.x,w0,w1,by omega,λl H' g e=>?_⟩;have nx:=Ks ok.x;have mi:∀c,c∈cvs ns t wd f x st↔c∈ns/\(pad c wd f x=t/\nwd wd st c=true):=λc=>by
   unfold cvs;rw[mem_filter,decide_eq_true_iff,eP ok.x w1]
  have hl:(cvs ns t wd f x st).length<=42:=le_trans (length_filter_le _ _) (by have:=ok.n2;omega);refine q l H' _ ((cvs ns t wd f x st).map .t) g e ?_ ⟨λc=>?_,by rw[length_map];exact hl⟩
  .refine Al.map ?_;clear hl mi e;generalize cvs ns t wd f x st=ds;induction ds with
   |nil=>exact .nil
   |cons c ds ih=>exact .cons rfl ih
  .rw[mem_map];constructor
   .rintro⟨c,hc,rfl⟩;obtain⟨h3,h1,h2⟩:=(mi _).mp hc;exact⟨h3,gv.mp h2,by show JM [] c wd f x=t;unfold JM;rw[if_neg nx];exact h1⟩
   .rintro⟨h1,h2,h3⟩;cases c with
    |n k=>exact h1.elim
    |t c=>
     have h3:JM [] c wd f x=t:=h3;unfold JM at h3;rw[if_neg nx]at h3;exact⟨c,(mi c).mpr ⟨h1,h3,gv.mpr h2⟩,rfl⟩
def Wr(K:W.Frag)(C:Addr)(H:Hp)(a:Addr)(Z3:LL):Prop:=∃(dx L:Addr)(ws:LL)(n:Nat),H a=some (.ins C dx (wfs L n))/\H L=some (.lst (tsV ws))/\n<=ws.length/\ws.drop n=Z3/\ws.length<=100
theorem Wr.same{a:Addr}{Z3:LL}(g:zR H H')(h:Wr K C H a Z3):Wr K C H' a Z3:=let⟨d,L,ws,n,e1,e2,e3,e4,e5⟩:=h;⟨d,L,ws,n,g.at e1,g.at e2,e3,e4,e5⟩
structure SBW(a:Addr)(H H':Hp):Prop where
 oth:SB a H H'
 own:∀C dx L n,H a=some (.ins C dx (wfs L n))->∃n',H' a=some (.ins C dx (wfs L n'))
section
variable{H H' F:Hp}{a p C L dx:Addr}{n:Nat}{Z3:LL}
theorem SBW.trans(s:SBW a H H')(t:SBW a H' F):SBW a H F:=⟨s.oth.trans t.oth,λC dx L n e=>let⟨n1,e1⟩:=s.own C dx L n e;t.own C dx L n1 e1⟩
theorem SBW.of(g:zR H H'):SBW a H H':=⟨SB.of g,λC dx L n e=>⟨n,g.at e⟩⟩
theorem SBW.then(s:SBW a H H')(g:zR H' F):SBW a H F:=s.trans (.of g)
theorem SBW.refl:SBW a H H:=⟨SB.refl,λC dx L n e=>⟨n,e⟩⟩
theorem SBW.tup{xs:List V}(s:SBW a H H')(w:Wr K C H a Z3)(h:H p=some (.tup xs)):H' p=some (.tup xs):=let⟨_,_,_,_,e1,_⟩:=w;s.oth p _ (λz=>by subst z;rw[e1]at h;cases h) h
theorem SBW.lst{xs:List V}(s:SBW a H H')(w:Wr K C H a Z3)(h:H p=some (.lst xs)):H' p=some (.lst xs):=let⟨_,_,_,_,e1,_⟩:=w;s.oth p _ (λz=>by subst z;rw[e1]at h;cases h) h
theorem fT{L':Addr}{n':Nat}(h:wfs L n=wfs L' n'):L=L':=by
 unfold wfs at h;simp only[List.cons.injEq,Prod.mk.injEq,V.ref.injEq,and_true,true_and]at h;exact h.1
theorem SBW.step(e:H a=some (.ins C dx (wfs L n))):SBW a H (upd H a (.ins C dx (wfs L m))):=⟨λb o nb e'=>by rw[zu nb];exact e',λC' dx' L' n' e'=>by
 rw[e]at e';simp only[Option.some.injEq,HO.ins.injEq]at e';obtain⟨rfl,rfl,e3⟩:=e';rw[fT e3];exact⟨m,zO⟩⟩
end
local macro_rules|`(tactic|walk_at "rdc")=>`(tactic|first|(with_reducible refine oT ?_)|fail "k51 stops")
local macro_rules|`(tactic|walk_at "fld2")=>`(tactic|first|assumption|(refine jj.same (by assumption) ?_;walk_at "fld2"))
def Jn(K:W.Frag)(C:Addr):Sp:=λvs H Q _=>∃(a dx L:Addr),vs=[.ref a,.ref L]/\H a=some (.ins C dx [])/\Q .non (upd H a (.ins C dx (wfs L 0)))
def JB(K:W.Frag)(C:Addr):Sp:=λvs H Q _=>∃(a:Addr)(t:LN)(r:LL),vs=[.ref a]/\Wr K C H a (t::r)/\Q (.str (T t)) H
def ZU(K:W.Frag)(C:Addr):Sp:=λvs H Q _=>∃(a:Addr)(t:LN)(r:LL),vs=[.ref a,.bl true]/\Wr K C H a (t::r)/\∀H',SBW a H H'->Wr K C H' a r->Q .non H'
def yP(K:W.Frag)(C:Addr):Sp:=λvs H Q _=>∃(a:Addr)(k:LN)(r:LL),vs=[.ref a,.str (T k)]/\Wr K C H a r/\(∀r',r=k::r'->∀H',SBW a H H'->Wr K C H' a r'->Q (.bl true) H')/\(r.head?≠some k->Q (.bl false) H)
variable{r:LL}
theorem VA{a:Addr}{t:LN}(h:Wr K C H a (t::r))(q:Q (.str (T t)) H):JB K C (.ref a::([]++[])) H Q E:=⟨a,t,r,rfl,h,q⟩
theorem DC{a:Addr}{t:LN}(h:Wr K C H a (t::r))(q:∀H',SBW a H H'->Wr K C H' a r->Q .non H'):ZU K C (.ref a::([.bl true]++[])) H Q E:=⟨a,t,r,rfl,h,q⟩
theorem pK{a:Addr}{m:Str}(h:Wr K C H a r)(h1:m≠"words")(h2:m≠"at"):tG H a C m:=let⟨dx,L,ws,n,e,_⟩:=h;⟨dx,_,e,CQ h1 h2⟩
include Z in
theorem X0:Gx P w K mg base CX0 "__init__" [zP] 1 ["self","words"] (Jn K zP):=by
 have cl:Cls K zP:=Z.cL;have na:qd K zP ["words","at"]:=Z.cM;refine XD Z.bu Jx λs H E hr=>⟨_,zA (jq (pv 0) (pv 1) rfl) (zB (jq (pv 0) zK rfl)),?_⟩
 nofun;rintro _ Q ⟨a,dx,L,rfl,e0,q⟩;symm;left;refine jm e0 cl (na.at (by right)) (by decide) ?_;rw[qb];left;refine jm zO cl (na.at (by right)) (by show 1<1000;decide) ?_;rw[qr,zf (by right),qb];left;exact q
include Z in
theorem jr:Gx P w K mg base CX0 "peek" [zP] 1 ["self"] (JB K zP):=by
 have cl:Cls K zP:=Z.cL;have na:qd K zP ["words","at"]:=Z.cM;refine XD Z.bv Kg λs H E hr=>⟨_,zA (zb (zX qD (pfv K (pv 0)) (zL (lnN K) Z.am rfl qE (pa1 (pfv K (pv 0))))) (zB xF) zM) (zB (zJ (zc (ixl K) (pfv K (pv 0)) (pfv K (pv 0))))),?_⟩
 nofun;rintro _ Q ⟨a,t,r,rfl,W,q⟩;symm;obtain⟨dx,L,ws,n,e,hl0,hn,hd,hz⟩:=W;have hl:SqL K H L (tsV ws):=SqL.of hl0;have lt:n<ws.length:=by
  rcases lt_or_ge n ws.length with z|z
  .exact z
  .rw[List.drop_eq_nil_of_le z]at hd;cases hd
 have fA:jj K H a "at" (.int n):=⟨zP,dx,_,e,cl,na.at (by right),sj⟩
 have fW:jj K H a "words" (.ref L):=⟨zP,dx,_,e,cl,na.at (by right),Kf⟩
 have e2:(ws.getD n [])=t:=by
  rw[List.drop_eq_getElem_cons lt,List.cons.injEq]at hd;rw[getD_eq_getElem?_getD,getElem?_eq_getElem lt];exact hd.1
 have tl:(tsV ws).length=ws.length:=length_map _;left;rw[toNat_natCast,e2];exact q
include Z in
theorem jK:Gx P w K mg base CX0 "go_past" [zP] 1 ["self","can_stand"] (ZU K zP):=by
 have cl:Cls K zP:=Z.cL;have na:qd K zP ["words","at"]:=Z.cM;refine XD Z.bw YJ λs H E hr=>⟨_,zA (zb (qx (z7 (pv 1))) (zB xF) zM) (zB (jq (pv 0) (zU zm (pfv K (pv 0)) zK) rfl)),?_⟩
 nofun;rintro _ Q ⟨a,t,r,rfl,W,q⟩;symm;obtain⟨dx,L,ws,n,e,hl0,hn,hd,hz⟩:=W;have hl:SqL K H L (tsV ws):=SqL.of hl0;have lt:n<ws.length:=by
  rcases lt_or_ge n ws.length with z|z
  .exact z
  .rw[List.drop_eq_nil_of_le z]at hd;cases hd
 have fA:jj K H a "at" (.int n):=⟨zP,dx,_,e,cl,na.at (by right),sj⟩
 left;refine jm e cl (na.at (by right)) (by show 2<1000;decide) ?_;rw[show((n:Int)+1)=((n+1:Nat):Int)from by omega,AB];left;refine q _ (SBW.step e) ⟨dx,L,ws,n+1,zO,(by rw[zu (λz=>by subst z;rw[e]at hl0;cases hl0)];exact hl0),lt,?_,hz⟩;rw[List.drop_eq_getElem_cons lt,List.cons.injEq]at hd;exact hd.2
include Z in
theorem zj:Gx P w K mg base CX0 "has_clause" [zP] 2 ["self","word"] (yP K zP):=by classical
 have cl:Cls K zP:=Z.cL;have na:qd K zP ["words","at"]:=Z.cM;refine XD Z.bx Qs λs H E hr=>⟨_,zA (zb (PW.pt (kE (zX qD (pfv K (pv 0)) (zL (lnN K) Z.am rfl qE (pa1 (pfv K (pv 0))))) (jc (zX ZV (qR (qw (jr Z) in0 :) Z.cL zd hr (pv 0)) (pv 1))))) (zB (zJ QK)) zM) (zA (jq (pv 0) (zU zm (pfv K (pv 0)) zK) rfl) (zB (zJ QK))),?_⟩
 nofun;rintro _ Q ⟨a,k,r,rfl,W,q1,q2⟩;symm;have W0:=W;obtain⟨dx,L,ws,n,e,hl0,hn,hd,hz⟩:=W;have hl:SqL K H L (tsV ws):=SqL.of hl0;have fA:jj K H a "at" (.int n):=⟨zP,dx,_,e,cl,na.at (by right),sj⟩
 have fW:jj K H a "words" (.ref L):=⟨zP,dx,_,e,cl,na.at (by right),Kf⟩
 have tl:(tsV ws).length=ws.length:=length_map _;left
 .rename_i hc;refine q2 ?_;have:n=ws.length:=by omega
  rw[<- hd,this,List.drop_length];intro z;cases z
 .rename_i hc;have lt:n<ws.length:=by omega
  have hd':=hd;rw[List.drop_eq_getElem_cons lt]at hd';rw[<- hd']at W0;refine Zx (pK W0 (by right) (by right)) ?_;left;refine VA W0 ?_;left
  .rename_i hk;refine jm e cl (na.at (by right)) (by show 2<1000;decide) ?_;rw[show((n:Int)+1)=((n+1:Nat):Int)from by omega,AB];left;have hk':ws[n]=k:=by
    first|exact hk|exact Classical.not_not.mp hk
   refine q1 (ws.drop (n+1)) (by rw[<- hd',hk']) _ (SBW.step e) ⟨dx,L,ws,n+1,zO,(by rw[zu (λz=>by subst z;rw[e]at hl0;cases hl0)];exact hl0),lt,rfl,hz⟩
  .rename_i hk;refine q2 ?_;rw[<- hd',head?_cons];intro z;exact hk (Option.some.inj z)
local macro_rules|`(tactic|walk_at "ins")=>`(tactic|exact pK (by k_extra "wr") (by decide +kernel) (by decide +kernel))
def dw(n:Int):LN:=yh 10 n.toNat
def QS(K:W.Frag):Sp:=λvs H Q _=>∃n:Int,vs=[.str (T (dw n))]/\0<=n/\n<=40/\Q (.int n) H
theorem Ef{n:Int}(h0:0<=n)(h1:n<=40)(q:Q (.int n) H):QS K ([.str (T (dw n))]++[]) H Q E:=⟨n,rfl,h0,h1,q⟩
theorem G0{n:Int}(h0:0<=n):yF 10 (dw n)/\val 10 (dw n)=n/\1<=(dw n).length:=by
 obtain⟨a,b,c,_⟩:=Vh (b:=10) (by decide) (by decide) n.toNat n.toNat (Nat.le_refl _);refine⟨a,?_,YL (by decide)⟩;unfold dw;rw[show((10:Int))=((10:Nat):Int)from rfl,b];omega
def x8(K:W.Frag)(C:Addr):Sp:=λvs H Q _=>∃(a:Addr)(lo hi n:Int)(r:LL),vs=[.ref a,.int lo,.int hi]/\Wr K C H a (dw n::r)/\lo<=n/\n<=hi/\0<=n/\n<=40/\∀H',SBW a H H'->Wr K C H' a r->Q (.int n) H'
theorem XN{a:Addr}{n:Int}(h:Wr K C H a (dw n::r))(h1:lo<=n)(h2:n<=hi)(h3:0<=n)(h4:n<=40)(q:∀H',SBW a H H'->Wr K C H' a r->Q (.int n) H'):x8 K C (.ref a::([.int lo,.int hi]++[])) H Q E:=⟨a,lo,hi,n,r,rfl,h,h1,h2,h3,h4,q⟩
def sw(c:Nat):LN:=if c=32 then Lt "blank" else[c]
def y3(K:W.Frag)(C:Addr):Sp:=λvs H Q _=>∃(a:Addr)(c:Nat)(r:LL),vs=[.ref a]/\Wr K C H a (sw c::r)/\∀H',SBW a H H'->Wr K C H' a r->Q (.str (T [c])) H'
theorem eQ{a:Addr}{c:Nat}(h:Wr K C H a (sw c::r))(q:∀H',SBW a H H'->Wr K C H' a r->Q (.str (T [c])) H'):y3 K C (.ref a::([]++[])) H Q E:=⟨a,c,r,rfl,h,q⟩
def x9(K:W.Frag)(C:Addr):Sp:=λvs H Q _=>∃(a p:Addr)(t:LN)(ts r:LL),vs=[.ref a,.ref p]/\Wr K C H a (t::r)/\(SqL K H p (tsV ts)\/SqT K H p (tsV ts))/\t∈ts/\∀H',SBW a H H'->Wr K C H' a r->Q (.str (T t)) H'
variable{ts:LL}
theorem V5{a:Addr}{t:LN}(h:Wr K C H a (t::r))(h1:SqL K H p (tsV ts)\/SqT K H p (tsV ts))(h2:t∈ts)(q:∀H',SBW a H H'->Wr K C H' a r->Q (.str (T t)) H'):x9 K C (.ref a::([.ref p]++[])) H Q E:=⟨a,p,t,ts,r,rfl,h,h1,h2,q⟩
theorem Gh{k:Nat}{ps:List Str}{sp:Sp}(h:rS P w K mg base x k ps sp):Bj P w K mg base x k ps sp:=let⟨f,fd,o,r⟩:=h;⟨f,fd,o.of2,r⟩
include Z in
theorem Kb:Has P w K mg base "told_number" 2 ["word"] (QS K):=by
 have kx:Nm K "NoFigures" zg:=Z.cy;have xf:W.exmOne K (.ref zg) (.ref zg)=some true:=Z.cX;refine jZ Z.kn Z.bz Qh λs H E hr=>⟨_,zA (lx rfl rfl (λ_ _ _=>zB (zF 1 Qh.nd (K5 (Gh (Y6 Z)) hr rfl (sa2 (pw 0) pwi)))) (A7 rfl Z.ac (λ_=>zB (zJ Xo)) DR)) (zB (zJ (jN (zX qD (zE (XY Z :) hr (sa2 (pw 1) pwi)) (pv 0)) (pv 1) Xo))),?_⟩
 nofun;rintro _ Q ⟨n,rfl,h0,h1,q⟩;symm;obtain⟨f1,f2,f3⟩:=G0 h0;have f4:(dw n).length<=240:=JL (by decide) (by omega);left;refine uM [some (.str (T (dw n))),none] ?_;left;refine⟨dw n,10,rfl,f1.asc,f3,f4,by decide,by decide,λ_=>?_,λh=>absurd f1 h⟩;rw[f2];left
 .exact q
 .rename_i l' el' f1' f2' f3' f4' f5' hc;exact absurd el' hc
include Z in
theorem zr:Gx P w K mg base CX0 "take_number" [zP] 3 ["self","least","most"] (x8 K zP):=by
 refine XD Z.bA x6 λs H E hr=>⟨_,zA (zF 3 x6.nd (zE (Kb Z :) hr (pa1 (qR (qw (jr Z) in0 :) Z.cL zd hr (pv 0))))) (zA (qO (zQ (qw (jK Z) in0 :) Z.cL zd hr (pv 0) (pa1 (XX (pc2 Kp (pw 3) pwn) (QZ (gH Vf Vf (pv 1) (pv 3) (pv 2))))))) (zB (zJ (pv 3)))),?_⟩
 nofun;rintro _ Q ⟨a,lo,hi,n,r,rfl,W,h1,h2,h3,h4,q⟩;symm;left;refine VA W ?_;left;refine Ef h3 h4 ?_;left;rw[decide_eq_true h2];refine DC W λH1 s1 W1=>?_;left;exact q _ s1 W1
include Z in
theorem xZ:Gx P w K mg base CX0 "take_sign" [zP] 2 ["self"] (y3 K zP):=by
 refine XD Z.bB yx λs H E hr=>⟨_,zA (zF 1 yx.nd (qR (qw (jr Z) in0 :) Z.cL zd hr (pv 0))) (zA (qO (zQ (qw (jK Z) in0 :) Z.cL zd hr (pv 0) (pa1 (CO (pc2 qD (pw 1) (pwl [98,108,97,110,107])) (QZ (jT qD (zL za Z.am rfl qE (sa1 (pw 1))) zK)))))) (zB (zJ (jN (pt2 qD (pw 1) (pwl [98,108,97,110,107])) (zW [32]) (pv 1))))),?_⟩
 nofun;rintro _ Q ⟨a,c,r,rfl,W,q⟩;symm;by_cases z:c=32
 .subst z;rw[show sw 32=[98,108,97,110,107]from by right]at W;left;refine VA W ?_;left;refine DC W λH1 s1 W1=>?_;left;exact q _ s1 W1
 .rw[show sw c=[c]from if_neg z]at W;left;refine VA W ?_;have nb:[c]≠[98,108,97,110,107]:=λh=>by have:=congrArg List.length h;simp at this
  left;rw[show decide ((([c].length:Nat):Int)=1)=true from rfl];refine DC W λH1 s1 W1=>?_;left;exact q _ s1 W1
include Z in
theorem jA:Gx P w K mg base CX0 "take_one_of" [zP] 2 ["self","choices"] (x9 K zP):=by
 refine XD Z.bC x5 λs H E hr=>⟨_,zA (zF 2 x5.nd (qR (qw (jr Z) in0 :) Z.cL zd hr (pv 0))) (zA (qO (zQ (qw (jK Z) in0 :) Z.cL zd hr (pv 0) (pa1 (ki YW (pv 2) (pv 1) (by with_unfolding_all rfl))))) (zB (zJ (pv 2)))),?_⟩
 nofun;rintro _ Q ⟨a,p,t,ts,r,rfl,W,hs,ht,q⟩;symm;left;refine VA W ?_;left;refine⟨p,_,rfl,hs,rfl,d6 ts,?_⟩;rw[show(if false=true then !inV (.str (T t)) (tsV ts)else inV (.str (T t)) (tsV ts))=true from by rw[if_neg (by decide),o0];exact decide_eq_true ht];left;refine DC W λH1 s1 W1=>?_;left;exact q _ s1 W1
def Ris(l:LN):Prop:=∀i,i+1<l.length->l.getD i 0<l.getD (i+1) 0
def XO(K:W.Frag):Sp:=λvs H Q _=>∃l:LN,vs=[.str (T l)]/\1<=l.length/\l.length<=200/\Ris l/\∀H',zR H H'->Q (.bl true) H'
theorem pZ{l:LN}(h1:1<=l.length)(h2:l.length<=200)(h3:Ris l)(q:∀H',zR H H'->Q (.bl true) H'):XO K ([.str (T l)]++[]) H Q E:=⟨l,rfl,h1,h2,h3,q⟩
theorem Ai{a b:Nat}(h:a<b):ltT [a] [b]=true:=decide_eq_true (List.cons_lt_cons_iff.mpr (.inl h))
local macro_rules|`(tactic|walk_at "rdc")=>`(tactic|(with_reducible refine Gc ?_))
include Z in
theorem fK:Has P w K mg base "is_rising" 1 ["signs"] (XO K):=by
 refine jZ Z.kn Z.bD Wg λs H E hr=>⟨_,zB (zJ (zL (VU rfl) Z.az rfl oO (pa1 (xH (cl:=[("signs",s.heap.objs.size+1+0)]) (fr:=["signs"]) (is:=[0]) rfl rfl ⟨rfl,trivial⟩ rfl ⟨⟨rfl,rfl,Or.inl rfl⟩,trivial⟩ (by decide) (by right) rfl (by right) rfl (jW rfl Z.an (pa1 (zU jP (zL za Z.am rfl qE (sa1 (pw 0))) zK))) (λ_ _ _ _=>xI) (λ_ _ _ _=>jT FW (pi2 jY (pw 1) (pw 0)) (zc jY (pv 1) (po2 zm (pw 0) pwi))))))),?_⟩
 nofun;rintro _ Q ⟨l,rfl,h1,h2,hr,q⟩;symm;left;refine gQ (by omega) (by omega) (Nat.le_of_lt (qu (by omega))) (λi ys H'=>H'=H/\ys=(List.replicate i true).map V.bl) ⟨rfl,rfl⟩ (λi ys H' _ h=>by rw[h.2];simp) ?_ ?_
 .rintro i ys H' hi ⟨rfl,rfl⟩;have hlt:=hr i (by omega);left;rw[show(0+(i:Int)).toNat=i by omega,show(0+(i:Int)+1).toNat=i+1 by omega,Ai hlt];exact nxC hi ⟨rfl,by rw[List.replicate_succ',map_append];rfl⟩
 .rintro ys H' ⟨rfl,rfl⟩ p1 H1 g1 e1;left;rw[show(List.replicate ((l.length:Int)-1).toNat true).all id=true from by simp];exact q _ g1
def SgW(wd sg:LN):Prop:=(∃n v:Str,X7 n v/\wd=Lt n/\sg=Lt v)\/(wd=61::sg/\1<=sg.length/\sg.length<=200/\Ris sg)
def JY(K:W.Frag):Sp:=λvs H Q _=>∃wd sg:LN,vs=[.str (T wd)]/\SgW wd sg/\∀H',zR H H'->Q (.str (T sg)) H'
theorem rT{wd sg:LN}(h:SgW wd sg)(q:∀H',zR H H'->Q (.str (T sg)) H'):JY K ([.str (T wd)]++[]) H Q E:=⟨wd,sg,rfl,h,q⟩
include Z in
theorem aM:Has P w K mg base "told_signs" 2 ["word"] (JY K):=by
 have ss:Wu w K z6:=Z.ss;refine jZ Z.kn Z.bE JR λs H E hr=>⟨_,zA (zb (Jr DW (pv 0) (qg rfl Z.aF (v:=.ref z6) rfl) (by with_unfolding_all rfl)) (zB (zJ (zc lM (qg rfl Z.aF (v:=.ref z6) rfl) (pv 0)))) zM) (zA (zF 1 JR.nd (zx xk (pv 0) (zt zK) qm)) (zA (zb (PW.pt (kE (qx (z7 (pbk K PySem.F.plainAttrs_str PySem.F.slot_str_startswith PySem.F.type_str_startswith QX (pv 0) (sa1 (pwl [61]))))) (jc (pt2 qD (pw 1) (pwl []))))) (zB (zJ Xo)) zM) (zB (zJ (jN (z7 (zE (fK Z :) hr (sa1 (pw 1)))) (pv 1) Xo))))),?_⟩
 nofun;rintro _ Q ⟨wd,sg,rfl,h,q⟩;symm;rcases h with⟨n,v,hk,rfl,rfl⟩|⟨rfl,l1,l2,hr⟩
 .rw[XR]at *;left;refine EI (ss.has n v hk) ?_;left;refine oz (ss.get n v hk) ?_;exact q _ (zR.refl _)
 .left;refine EI (ss.no sg) ?_;left
  .rename_i c1 c2;have c3:sg=[]:=of_decide_eq_true c2;rw[c3]at l1;exact absurd l1 (by decide)
  .refine pZ (l:=sg) l1 l2 hr λH1 g1=>?_;left;exact q _ g1
  .rename_i c1;exact absurd rfl c1
def yM(K:W.Frag)(C:Addr):Sp:=λvs H Q _=>∃(a:Addr)(wd sg:LN)(r:LL),vs=[.ref a]/\Wr K C H a (wd::r)/\SgW wd sg/\∀H',SBW a H H'->Wr K C H' a r->Q (.str (T sg)) H'
theorem Fe{a:Addr}{wd sg:LN}(h:Wr K C H a (wd::r))(h1:SgW wd sg)(q:∀H',SBW a H H'->Wr K C H' a r->Q (.str (T sg)) H'):yM K C (.ref a::([]++[])) H Q E:=⟨a,wd,sg,r,rfl,h,h1,q⟩
def yo(K:W.Frag)(C:Addr):Sp:=λvs H Q _=>∃(a L:Addr)(t:LN)(ns r:LL),vs=[.ref a,.ref L]/\Wr K C H a (t::r)/\SqL K H L (tsV ns)/\1<=t.length/\t.length<=12/\t∉ns/\∀H',SBW a H H'->Wr K C H' a r->Q (.str (T t)) H'
theorem CY{a L:Addr}{t:LN}{ns:LL}(h:Wr K C H a (t::r))(h1:SqL K H L (tsV ns))(h2:1<=t.length)(h3:t.length<=12)(h4:t∉ns)(q:∀H',SBW a H H'->Wr K C H' a r->Q (.str (T t)) H'):yo K C (.ref a::([.ref L]++[])) H Q E:=⟨a,L,t,ns,r,rfl,h,h1,h2,h3,h4,q⟩
theorem A6{z:Str}(q:Q (.bl true) H):Cn (.str z) .non H Q:=⟨rfl,by rw[decide_eq_false (λz=>nomatch z)];exact q⟩
include Z in
theorem Jb:Gx P w K mg base CX0 "take_signs" [zP] 3 ["self"] (yM K zP):=by
 refine XD Z.bF yT λs H E hr=>⟨_,zA (zF 1 yT.nd (zE (aM Z :) hr (pa1 (qR (qw (jr Z) in0 :) Z.cL zd hr (pv 0))))) (zA (qO (zQ (qw (jK Z) in0 :) Z.cL zd hr (pv 0) (pa1 (pc2 Kp (pw 1) pwn)))) (zB (zJ (pv 1)))),?_⟩
 nofun;rintro _ Q ⟨a,wd,sg,r,rfl,W,h1,q⟩;symm;left;refine VA W ?_;left;refine rT h1 λH1 g1=>?_;have W1:=W.same g1;left;refine A6 ?_;left;refine DC W1 λH2 s2 W2=>?_;left;exact q _ ((SBW.of g1).trans s2) W2
include Z in
theorem J0:Gx P w K mg base CX0 "take_name" [zP] 2 ["self","names"] (yo K zP):=by
 refine XD Z.bG y6 λs H E hr=>⟨_,zA (zF 2 y6.nd (qR (qw (jr Z) in0 :) Z.cL zd hr (pv 0))) (zA (qO (zQ (qw (jK Z) in0 :) Z.cL zd hr (pv 0) (pa1 (XX (gH Vf Vf zK (zL za Z.am rfl qE (sa1 (pw 2))) zK) (QZ (ki Xl (pv 2) (pv 1) (by with_unfolding_all rfl))))))) (zB (zJ (pv 2)))),?_⟩
 nofun;rintro _ Q ⟨a,L,t,ns,r,rfl,W,hL,h2,h3,h4,q⟩;symm;left;refine VA W ?_;left;rw[decide_eq_false h4];refine DC W λH1 s1 W1=>?_;left;exact q _ s1 W1
abbrev yZ:LN:=[98,97,115,101]
abbrev yu:LN:=[115,105,103,110]
abbrev qo:LN:=[103,114,111,117,112,115]
abbrev xh:LN:=[112,111,105,110,116]
abbrev YU:LN:=[119,97,121]
abbrev x4:LN:=[119,105,100,116,104]
abbrev jV:LN:=[102,105,108,108]
abbrev xO:LN:=[115,105,100,101]
abbrev jI:LN:=[115,116,114,105,99,116]
abbrev jH:LN:=[110,117,109,98,101,114]
def opt(c:Bool)(l:LL):LL:=if c=true then l else[]
theorem B5{l:LL}:opt true l=l:=rfl
theorem Y3{l:LL}:opt false l=[]:=rfl
theorem yc{c:Bool}{k:LN}{l:LL}{x:LN}(h1:x≠k)(h2:r.head?≠some x):(opt c (k::l)++r).head?≠some x:=by
 cases c with
 |true=>rw[B5,cons_append,head?_cons];intro z;exact h1 (Option.some.inj z).symm
 |false=>rw[Y3,nil_append];exact h2
theorem Vj{a:Addr}{k:LN}{c:Bool}{l:LL}(h:Wr K C H a (opt c (k::l)++r))(hr:r.head?≠some k)(q1:c=true->∀H',SBW a H H'->Wr K C H' a (l++r)->Q (.bl true) H')(q2:c=false->Wr K C H a r->Q (.bl false) H):yP K C (.ref a::([.str (T k)]++[])) H Q E:=by
 cases c with
 |true=>exact⟨a,k,_,rfl,h,λr' e H' s w=>q1 rfl H' s (by rw[B5,cons_append,List.cons.injEq]at e;rw[e.2];exact w),λz=>absurd (by rw[B5,cons_append,head?_cons]) z⟩
 |false=>exact⟨a,k,_,rfl,h,λr' e H' s w=>absurd (by rw[Y3,nil_append]at e;rw[e,head?_cons]) hr,λ_=>q2 rfl h⟩
def Wj(K:W.Frag)(C:Addr):Sp:=λvs H Q _=>∃(a p:Addr)(ss:LL)(d x:Str)(wd:Int)(f:Nat)(cf cs st:Bool),vs=[.ref a,.ref p,.str d]/\SqT K H p (tsV ss)/\0<=wd/\wd<=40/\Lt x∈ss/\(cf=false->f=32)/\(cs=false->x=d) /\
 Wr K C H a (opt (decide (0<wd)) [x4,dw wd]++(opt cf [jV,sw f]++(opt cs [xO,Lt x]++(opt st [jI]++[]))))/\∀p H',SBW a H H'->Wr K C H' a []->H' p=some (.tup [.int wd,.str (T [f]),.str x,.bl st])->Q (.ref p) H'
variable{xs:List V}
theorem WS{a:Addr}(s:SBW a H H')(w:Wr K C H a r)(h:SqT K H p xs):SqT K H' p xs:=by
 obtain⟨d,L,ws,n,e1,_⟩:=w;rcases h with(h|⟨o,h⟩)|h
 .exact .inl (.inl (s.oth p _ (λz=>by subst z;rw[e1]at h;cases h) h))
 .exact .inl (.inr ⟨o,s.oth p _ (λz=>by subst z;rw[e1]at h;cases h) h⟩)
 .exact .inr h
include Z in
theorem Qu:Has P w K mg base "read_last" 4 ["words","sides","side"] (Wj K zP):=by classical
 refine jZ Z.kn Z.bH yp λs H E hr=>⟨_,zA (zF 3 yp.nd (jN (z7 (zQ (qw (zj Z) in0 :) Z.cL zd hr (pv 0) (sa1 (pwl [119,105,100,116,104])))) (zQ (qw (zr Z) in0 :) Z.cL zd hr (pv 0) (sa2 pwi pwi)) zK)) (zA (zF 4 yp.nd (jN (z7 (zQ (qw (zj Z) in0 :) Z.cL zd hr (pv 0) (sa1 (pwl [102,105,108,108])))) (qR (qw (xZ Z) in0 :) Z.cL zd hr (pv 0)) (zW [32]))) (zA (zb (z7 (zQ (qw (zj Z) in0 :) Z.cL zd hr (pv 0) (sa1 (pwl [115,105,100,101])))) (zB (zF 2 yp.nd (zQ (qw (jA Z) in0 :) Z.cL zd hr (pv 0) (sa1 (pw 1))))) zM) (zB (zJ (zY (pa4 (pv 3) (pv 4) (pv 2) (zQ (qw (zj Z) in0 :) Z.cL zd hr (pv 0) (sa1 (pwl [115,116,114,105,99,116]))))))))),?_⟩
 nofun;rintro _ Q ⟨a,p,ss,d,x,wd,f,cf,cs,st,rfl,hp,h0,h1,hx,e1,e2,W,q⟩;symm;have n0:∀k:LN,([]:LL).head?≠some k:=λk z=>by cases z
 have n1:∀k:LN,k≠jI->(opt st [jI]++[]).head?≠some k:=λk h=>yc h (n0 k);have n2:∀k:LN,k≠jI->k≠xO->(opt cs [xO,Lt x]++(opt st [jI]++[])).head?≠some k:=λk h h'=>yc h' (n1 k h);have n3:∀k:LN,k≠jI->k≠xO->k≠jV->(opt cf [jV,sw f]++(opt cs [xO,Lt x]++(opt st [jI]++[]))).head?≠some k:=λk h h' h''=>yc h'' (n2 k h h');refine qV (λσ' H'=>σ'=[some (.ref a),some (.ref p),some (.str d),some (.int wd),none]/\SBW a H H'/\SqT K H' p (tsV ss)/\Wr K zP H' a (opt cf [jV,sw f]++(opt cs [xO,Lt x]++(opt st [jI]++[])))) (λσ1 H1 h=>?_) (λR hR=>?_)
 .obtain⟨rfl,s1,hp1,W1⟩:=h;clear W;refine qV (λσ' H'=>σ'=[some (.ref a),some (.ref p),some (.str d),some (.int wd),some (.str (T [f]))]/\SBW a H H'/\SqT K H' p (tsV ss)/\Wr K zP H' a (opt cs [xO,Lt x]++(opt st [jI]++[]))) (λσ2 H2 h=>?_) (λR hR=>?_)
  .obtain⟨rfl,s2,hp2,W2⟩:=h;clear W1 s1 hp1;refine qV (λσ' H'=>σ'=[some (.ref a),some (.ref p),some (.str x),some (.int wd),some (.str (T [f]))]/\SBW a H H'/\Wr K zP H' a (opt st [jI]++[])) (λσ3 H3 h=>?_) (λR hR=>?_)
   .obtain⟨rfl,s3,W3⟩:=h;clear W2 s2 hp2;left;refine Vj W3 (n0 _) (λhc H4 s4 W4=>?_) (λhc W4=>?_)
    .left;rename_i p5 H5 g5 e5;subst hc;exact q _ _ ((s3.trans s4).then g5) (W4.same g5) e5
    .left;rename_i p5 H5 g5 e5;subst hc;exact q _ _ (s3.then g5) (W4.same g5) e5
   .left;refine Vj W2 (n1 _ (by decide)) (λhc H4 s4 W4=>?_) (λhc W4=>?_)
    .left;refine V5 W4 (.inr (WS s4 W2 hp2)) hx λH5 s5 W5=>?_;rw[XR];left;exact hR _ _ ⟨rfl,s2.trans (s4.trans s5),W5⟩
    .left;have:=e2 hc;subst this;exact hR _ _ ⟨rfl,s2,W4⟩
  .left;refine Vj W1 (n2 _ (by decide) (by decide)) (λhc H2 s2 W2=>?_) (λhc W2=>?_)
   .left;refine eQ W2 λH3 s3 W3=>?_;left;exact hR _ _ ⟨rfl,s1.trans (s2.trans s3),WS s3 W2 (WS s2 W1 hp1),W3⟩
   .left;have:=e1 hc;subst this;exact hR _ _ ⟨rfl,s1,hp1,W2⟩
 .left;refine Vj W (n3 _ (by decide) (by decide) (by decide)) (λhc H1 s1 W1=>?_) (λhc W1=>?_)
  .left;refine XN W1 (by have:=of_decide_eq_true hc;omega) h1 h0 h1 λH2 s2 W2=>?_;left;exact hR _ _ ⟨rfl,s1.trans s2,WS s2 W1 (WS s1 W hp),W2⟩
  .left;have w0:wd=0:=by have:=of_decide_eq_false hc;omega
   subst w0;exact hR _ _ ⟨rfl,SBW.refl,hp,W1⟩
def Vm(K:W.Frag)(C:Addr):Sp:=λvs H Q _=>∃(a:Addr)(z:Int)(m:Nat)(r:LL),vs=[.ref a]/\0<=z/\z<=9/\Wr K C H a (opt (decide (0<z)) [qo,dw z,sw m]++r)/\r.head?≠some qo/\∀p m' H',SBW a H H'->Wr K C H' a r->H' p=some (.tup [.int z,.str (T [m'])])->(0<z->m'=m)->(m'=m\/m'=44)->Q (.ref p) H'
theorem Bx(h:VZ x):Lt x∈[Lt "left",Lt "right",Lt "middle",Lt "inside"]:=by
 rcases h with(rfl|rfl|rfl)|rfl
 .exact mem_cons_self ..
 .exact mem_cons_of_mem _ (mem_cons_self ..)
 .exact mem_cons_of_mem _ (mem_cons_of_mem _ (mem_cons_self ..))
 .exact mem_cons_of_mem _ (mem_cons_of_mem _ (mem_cons_of_mem _ (mem_cons_self ..)))
include Z in
theorem Ku:Has P w K mg base "read_groups" 4 ["words"] (Vm K zP):=by
 refine jZ Z.kn Z.bI QV λs H E hr=>⟨_,zA (zb (qx (z7 (zQ (qw (zj Z) in0 :) Z.cL zd hr (pv 0) (sa1 (pwl [103,114,111,117,112,115]))))) (zB (zJ (zY (sa2 pwi (pwl [44]))))) zM) (zA (zF 1 QV.nd (zQ (qw (zr Z) in0 :) Z.cL zd hr (pv 0) (sa2 pwi pwi))) (zB (zJ (zY (pa2 (pv 1) (qR (qw (xZ Z) in0 :) Z.cL zd hr (pv 0))))))),?_⟩
 nofun;rintro _ Q ⟨a,z,m,r,rfl,h0,h1,W,hh,q⟩;symm;left;refine Vj W hh (λhc H1 s1 W1=>?_) (λhc W1=>?_)
 .left;refine XN W1 (by have:=of_decide_eq_true hc;omega) h1 h0 (by omega) λH2 s2 W2=>?_;left;refine eQ W2 λH3 s3 W3=>?_;left;rename_i p4 H4 g4 e4;exact q _ _ _ ((s1.trans (s2.trans s3)).then g4) (W3.same g4) e4 (λ_=>rfl) (.inl rfl)
 .left;rename_i p4 H4 g4 e4;have z0:z=0:=by have:=of_decide_eq_false hc;omega
  subst z0;exact q _ _ _ (SBW.of g4) (W1.same g4) e4 (λh=>absurd h (by omega)) (.inr rfl)
def y8(K:W.Frag)(C:Addr):Sp:=λvs H Q _=>∃(o:Addr)(sg:LN)(lo hi wd:Int)(f:Nat)(x:Str)(st:Bool),vs=[.ref o]/\zS K H o C wd f x st (xn sg lo hi)/\WdS sg lo hi wd f x/\∀t:LN,(t.length:Int)=lo->Q (.str (T t)) H
def yQ(K:W.Frag)(C:Addr):Sp:=λvs H Q _=>∃(o L:Addr)(ns:LL)(wd:Int)(f:Nat)(x:Str)(st:Bool),vs=[.ref o]/\zS K H o C wd f x st (Je L)/\SqL K H L (tsV ns)/\ChS ns wd f x/\∀t:LN,t∈ns->(∀u∈ns,t.length<=u.length)->Q (.str (T t)) H
include Z in
theorem kP:Gx P w K mg base CX0 "shortest_core" [zG] 1 ["self"] (y8 K zG):=by
 refine XD Z.bJ kF λs H E hr=>⟨_,zB (zJ (zU Zu (Xb jY (pfv K (pv 0))) (pfv K (pv 0)))),?_⟩
 nofun;rintro _ Q ⟨o,sg,lo,hi,wd,f,x,st,rfl,F0,ok,q⟩;symm;have o1:=ok.s1;have o2:=ok.s2;have o3:=ok.lo1;have o4:=ok.lo2;have o5:=ok.hi2;left;exact q _ (by rw[List.length_replicate];omega)
include Z in
theorem yi:Gx P w K mg base CX0 "shortest_core" [zH] 1 ["self"] (yQ K zH):=by
 refine XD Z.bK yG λs H E hr=>⟨_,zB (zJ (lW rfl rfl Z.ar rfl Z.am (pa1 (pfv K (pv 0))))),?_⟩
 nofun;rintro _ Q ⟨o,L,ns,wd,f,x,st,rfl,F0,hL,ok,q⟩;symm;left;exact⟨_,rfl,L,ns,rfl,hL,(by have:=ok.n1;intro h;rw[h]at this;simp at this),λt ht=>by have:=(ok.len t ht).2;omega,λt ht hm=>q t ht hm⟩
def yJ(K:W.Frag)(C:Addr):Sp:=λvs H Q _=>∃(o:Addr)(fg pl b:Int)(sn:Str)(z:Int)(m pt:Nat)(wy:Str)(wd:Int)(f:Nat)(x:Str)(st:Bool),vs=[.ref o]/\zS K H o C wd f x st (jB fg pl b sn z m pt wy)/\QY fg pl b sn z m pt wy wd f x/\∀H',zR H H'->Q (.str (T (xN pl b sn z m pt 0))) H'
theorem Ft{P:Int}(hP:0<P):hG wy 0 1 P=0:=by
 unfold hG;simp
include Z in
theorem yg:Gx P w K mg base CX0 "shortest_core" [zD] 5 ["self"] (yJ K zD):=by
 refine XD Z.bL yW λs H E hr=>⟨_,zB (zJ (zQ (qw (ka Z) in0 :) Z.cC zd hr (pv 0) (pa1 (zY (sa2 pwi pwi))))),?_⟩
 nofun;rintro _ Q ⟨o,fg,pl,b,sn,z,m,pt,wy,wd,f,x,st,rfl,F0,ok,q⟩;symm;left;rename_i p1 H1 g1 e1;refine AM (F0.same g1) ok e1 ⟨by right,by right,by decide,by right⟩ (by decide) (Ft (Int.pow_pos (by have:=ok.b1;omega))) (show Vi fg pl b 0 from Nat.pow_pos (by have:=ok.b1;omega)) λH2 g2=>?_;exact q _ (g1.trans g2)
def kf(K:W.Frag)(CN CW CC:Addr):Sp:=λvs H Q _=>(∃(o:Addr)(fg pl b:Int)(sn:Str)(z:Int)(m pt:Nat)(wy:Str)(wd:Int)(f:Nat)(x:Str)(st:Bool),vs=[.ref o]/\zS K H o CN wd f x st (jB fg pl b sn z m pt wy)/\QY fg pl b sn z m pt wy wd f x/\(st&&decide (wd<((xN pl b sn z m pt 0).length:Int)))=false/\∀H',zR H H'->Q (.bl true) H') \/
 (∃(o:Addr)(sg:LN)(lo hi wd:Int)(f:Nat)(x:Str)(st:Bool),vs=[.ref o]/\zS K H o CW wd f x st (xn sg lo hi)/\WdS sg lo hi wd f x/\(st=true->lo<=wd)/\Q (.bl true) H) \/
 (∃(o L:Addr)(ns:LL)(wd:Int)(f:Nat)(x:Str)(st:Bool),vs=[.ref o]/\zS K H o CC wd f x st (Je L)/\SqL K H L (tsV ns)/\ChS ns wd f x/\(st=true->∃t∈ns,(t.length:Int)<=wd)/\Q (.bl true) H)
theorem gI{n:Int}(h:st=true->n<=wd):(st&&decide (wd<n))=false:=by
 cases st with
 |false=>rfl
 |true=>rw[Bool.true_and];exact decide_eq_false (by have:=h rfl;omega)
include Z in
theorem xy:Gx P w K mg base CX0 "puts_some" [zD,zG,zH] 6 ["self"] (kf K zD zG zH):=by classical
 refine Gv Z.bM (l1N (by intros;rfl)) λfq fd F=>?_;refine F.ok J1 (λvs H Q E h=>?_) (λ_ _ _ s H vs Q E hr h=>?_)
 .obtain⟨o,fg,pl,b,sn,z,m,pt,wy,wd,f,x,st,rfl,F0,ok,hs,q⟩|⟨o,sg,lo,hi,wd,f,x,st,rfl,F0,ok,hs,q⟩|⟨o,L,ns,wd,f,x,st,rfl,F0,hL,ok,hs,q⟩:=h
  all_goals rfl
 refine⟨_,zB (zJ (u6 (xQ (zQ (qw (zk Z) in0 :) Z.cC zd hr (pv 0) (pa1 (qR (qw (yg Z) in0 :) Z.cC zd hr (pv 0)))) (xQ (zQ (qw (zk Z) in1 :) Z.cF zd hr (pv 0) (pa1 (qR (qw (kP Z) in0 :) Z.cF zd hr (pv 0)))) (zQ (qw (zk Z) in2 :) Z.cI zd hr (pv 0) (pa1 (qR (qw (yi Z) in0 :) Z.cI zd hr (pv 0)))))))),?_⟩;k_extra "hz";obtain⟨o,fg,pl,b,sn,z,m,pt,wy,wd,f,x,st,rfl,F0,ok,hs,q⟩|⟨o,sg,lo,hi,wd,f,x,st,rfl,F0,ok,hs,q⟩|⟨o,L,ns,wd,f,x,st,rfl,F0,hL,ok,hs,q⟩:=h
 all_goals symm
 .obtain⟨nb,n2,n3,n4⟩:=QC (k:=0) ok (by show 0<b.toNat^(fg+pl).toNat;exact Nat.pow_pos (by have:=ok.b1;omega));left;refine JX ?_;left;refine⟨o,fg,pl,b,sn,z,m,pt,wy,wd,f,x,st,rfl,F0,ok,λH1 g1=>?_⟩;have F1:=F0.same g1;left;skip;rw[hs];exact q _ g1
 .have o1:=ok.lo2;have o2:=ok.hi2;left;refine kB (JX ?_);left;refine⟨o,sg,lo,hi,wd,f,x,st,rfl,F0,ok,λt ht=>?_⟩;left;skip;rw[ht,gI hs];exact q
 .left;refine kB (kB ?_);left;refine⟨o,L,ns,wd,f,x,st,rfl,F0,hL,ok,λt ht hm=>?_⟩;left;refine V6 F0 (by have:=(ok.len t ht).2;omega) ⟨_,rfl,?_⟩;rw[gI (n:=t.length) (λz=>by obtain⟨u,hu,hw⟩:=hs z;have:=hm u hu;omega)];exact q
abbrev JF:LN:=[119,111,114,100]
abbrev yD:LN:=[99,104,111,105,99,101]
abbrev J8:LN:=[98,108,97,110,107]
def jk(wd:Int)(f:Nat)(x:Str)(cf cs st:Bool):LL:=opt (decide (0<wd)) [x4,dw wd]++(opt cf [jV,sw f]++(opt cs [xO,Lt x]++(opt st [jI]++[])))
theorem Bo{cf cs:Bool}{k:LN}(h1:k≠x4)(h2:k≠jV)(h3:k≠xO)(h4:k≠jI):(jk wd f x cf cs st).head?≠some k:=
 yc h1 (yc h2 (yc h3 (yc h4 (by intro z;cases z))))
theorem BF(h:Zd x):Lt x∈[Lt "left",Lt "right",Lt "middle"]:=by
 rcases h with rfl|rfl|rfl
 .exact mem_cons_self ..
 .exact mem_cons_of_mem _ (mem_cons_self ..)
 .exact mem_cons_of_mem _ (mem_cons_of_mem _ (mem_cons_self ..))
def sgB(cb:Bool)(sg:LN):LN:=if cb=true then 32::sg else sg
def XE(K:W.Frag)(CW CF:Addr):Sp:=λvs H Q _=>∃(a:Addr)(w sg:LN)(cb:Bool)(lo hi wd:Int)(f:Nat)(x:Str)(cf cs st:Bool),vs=[.ref a]/\SgW w sg/\WdS (sgB cb sg) lo hi wd f x/\(cf=false->f=32)/\(cs=false->x="left") /\
 Wr K CW H a (w::dw lo::dw hi::(opt cb [J8]++jk wd f x cf cs st))/\∀o H',SBW a H H'->Wr K CW H' a []->zS K H' o CF wd f x st (xn (sgB cb sg) lo hi)->Q (.ref o) H'
include Z in
theorem X3:Has P w K mg base "read_word_form" 5 ["words"] (XE K zP zG):=by classical
 have cl:Cls K zG:=Z.cF;have na:qd K zG (bns++wns):=Z.cG;have hS:SqM K jU (tsV [Lt "left",Lt "right",Lt "middle"]):=Z.hS;refine jZ Z.kn Z.bN qX λs H E hr=>⟨_,zA (zF 1 qX.nd (qR (qw (Jb Z) in0 :) Z.cL zd hr (pv 0))) (zA (zF 2 qX.nd (zQ (qw (zr Z) in0 :) Z.cL zd hr (pv 0) (sa2 pwi pwi))) (zA (zF 3 qX.nd (zQ (qw (zr Z) in0 :) Z.cL zd hr (pv 0) (sa2 (pw 2) pwi))) (zA (zb (z7 (zQ (qw (zj Z) in0 :) Z.cL zd hr (pv 0) (sa1 (pwl [98,108,97,110,107])))) (zB (zF 1 qX.nd (po2 qA (pwl [32]) (pw 1)))) zM) (zA (zF 4 qX.nd (zE (Qu Z :) hr (pa3 (pv 0) (qg rfl Z.aG (v:=.ref jU) rfl) qi))) (zB (zJ (YO (Fw (Qr Z) Z.cH) zd hr rfl Z.aj (zV (pv 1) (zV (pv 2) (zV (pv 3) (zV (pii (ixt K) (pw 4)) (zV (pii (ixt K) (pw 4)) (zV (pii (ixt K) (pw 4)) (zV (pii (ixt K) (pw 4)) ZS qB) qB) qB) qB) qT) qT) qT)))))))),?_⟩
 nofun;rintro _ Q ⟨a,w,sg,cb,lo,hi,wd,f,x,cf,cs,st,rfl,hw,ok,i1,i2,W,q⟩;symm;have o1:=ok.lo1;have o2:=ok.lo2;have o3:=ok.hi2;have o4:=ok.wd1;have o5:=ok.wd2;left;refine Fe W hw λH1 s1 W1=>?_;left;refine XN W1 o1 (by omega) o1 (by omega) λH2 s2 W2=>?_;left;refine XN W2 o2 o3 (by omega) (by omega) λH3 s3 W3=>?_;have sA:=s1.trans (s2.trans s3);left;have l200:sg.length<=200:=by have:=ok.s2;unfold sgB at this;split at this<;>(try rw[length_cons]at this)<;>omega
 refine Vj W3 (Bo (by decide) (by decide) (by decide) (by decide)) (λhc H4 s4 W4=>?_) (λhc W4=>?_)
 .subst hc;left;refine⟨a,jU,_,"left",x,wd,f,cf,cs,st,rfl,hS _,o4,o5,BF ok.x,i1,i2,W4,λp H6 s6 W6 e6=>?_⟩;left;intro o dx no nd ne;refine⟨o,dx,(32::sg),lo,hi,wd,f,x,st,rfl,zO,?_⟩;have F0:zS K (upd (upd (upd H6 dx (.own o)) o (.ins zG dx [])) o (.ins zG dx (bfs wd f x st (xn (32::sg) lo hi)))) o zG wd f x st (xn (32::sg) lo hi):=⟨⟨dx,zO⟩,cl,na⟩
  have g7:zR H6 (upd (upd (upd H6 dx (.own o)) o (.ins zG dx [])) o (.ins zG dx (bfs wd f x st (xn (32::sg) lo hi)))):=zw (zw (zw (zR.refl _) nd) no) no;generalize upd (upd (upd H6 dx (.own o)) o (.ins zG dx [])) o (.ins zG dx (bfs wd f x st (xn (32::sg) lo hi)))=H7 at F0 g7 ⊢;exact⟨rfl,q o H7 (((sA.trans s4).trans s6).then g7) (W6.same g7) F0⟩
 .subst hc;left;refine⟨a,jU,_,"left",x,wd,f,cf,cs,st,rfl,hS _,o4,o5,BF ok.x,i1,i2,W4,λp H6 s6 W6 e6=>?_⟩;left;intro o dx no nd ne;refine⟨o,dx,sg,lo,hi,wd,f,x,st,rfl,zO,?_⟩;have F0:zS K (upd (upd (upd H6 dx (.own o)) o (.ins zG dx [])) o (.ins zG dx (bfs wd f x st (xn sg lo hi)))) o zG wd f x st (xn sg lo hi):=⟨⟨dx,zO⟩,cl,na⟩
  have g7:zR H6 (upd (upd (upd H6 dx (.own o)) o (.ins zG dx [])) o (.ins zG dx (bfs wd f x st (xn sg lo hi)))):=zw (zw (zw (zR.refl _) nd) no) no;generalize upd (upd (upd H6 dx (.own o)) o (.ins zG dx [])) o (.ins zG dx (bfs wd f x st (xn sg lo hi)))=H7 at F0 g7 ⊢;exact⟨rfl,q o H7 ((sA.trans s6).then g7) (W6.same g7) F0⟩
def Qv(K:W.Frag)(CW CF:Addr):Sp:=λvs H Q _=>∃(a:Addr)(ns:LL)(wd:Int)(f:Nat)(x:Str)(cf cs st:Bool),vs=[.ref a]/\ChS ns wd f x/\(cf=false->f=32)/\(cs=false->x="left") /\
 Wr K CW H a (dw ns.length::(ns++jk wd f x cf cs st))/\∀o L H',SBW a H H'->Wr K CW H' a []->zS K H' o CF wd f x st (Je L)->H L=none->H' L=some (.lst (tsV ns))->Q (.ref o) H'
theorem uX{a l L dx:Addr}{o:HO}(w:Wr K C H a r)(e:H a=some (.ins C dx (wfs L n)))(h1:a≠l)(h2:L≠l):Wr K C (upd H l o) a r:=by
 obtain⟨d,L',ws,n',e1,e2,e3,e4,e5⟩:=w;rw[e]at e1;simp only[Option.some.injEq,HO.ins.injEq,true_and]at e1;have eL:=fT e1.2;subst eL;exact⟨d,L,ws,n',by rw[zu h1,e,e1.1,e1.2],by rw[zu h2];exact e2,e3,e4,e5⟩
include Z in
theorem Jc:Has P w K mg base "read_choice_form" 5 ["words"] (Qv K zP zH):=by classical
 have cl:Cls K zH:=Z.cI;have na:qd K zH (bns++cns):=Z.cJ;have hS:SqM K jU (tsV [Lt "left",Lt "right",Lt "middle"]):=Z.hS;refine jZ Z.kn Z.bO qZ λs H E hr=>⟨_,zA (zF 1 qZ.nd (zQ (qw (zr Z) in0 :) Z.cL zd hr (pv 0) (sa2 pwi pwi))) (zA (zF 2 qZ.nd (ze ZS)) (zA (kQ PassesOwn.never rfl (jW rfl Z.an (sa1 (pw 1))) (zh 3 qZ.nd) (zB (qO (pbk K PySem.F.plainAttrs_list PySem.F.slot_list_append PySem.F.type_list_append xE (pv 2) (pa1 (zQ (qw (J0 Z) in0 :) Z.cL zd hr (pv 0) (sa1 (pw 2)))))))) (zA (zF 4 qZ.nd (zE (Qu Z :) hr (pa3 (pv 0) (qg rfl Z.aG (v:=.ref jU) rfl) qi))) (zB (zJ (YO (Fw (Z9 Z) Z.cK) zd hr rfl Z.ak (zV (pv 2) (pa4 (pii (ixt K) (pw 4)) (pii (ixt K) (pw 4)) (pii (ixt K) (pw 4)) (pii (ixt K) (pw 4)))))))))),?_⟩
 nofun;rintro _ Q ⟨a,ns,wd,f,x,cf,cs,st,rfl,ok,i1,i2,W,q⟩;symm;have o1:=ok.n1;have o2:=ok.n2;have o4:=ok.wd1;have o5:=ok.wd2;left;refine XN W (by omega) (by omega) (by omega) (by omega) λH1 s1 W1=>?_;refine me ?_;refine fF (rz (oa (pP (Kj (by decide) λl hl=>?_))));have W1':=W1;obtain⟨dx,L,ws,n0,ea,eL,_⟩:=W1';have nal:a≠l:=λz=>by rw[<- z,ea]at hl;cases hl
 have nLl:L≠l:=λz=>by rw[<- z,eL]at hl;cases hl
 left;refine Ql (by omega) (by omega) (λi σ H'=>(∀b o,b≠a->b≠l->H1 b=some o->H' b=some o)/\(∃n',H' a=some (.ins zP dx (wfs L n')))/\Wr K zP H' a (ns.drop i++jk wd f x cf cs st)/\H' l=some (.lst (tsV (ns.take i)))/\∃r:Option V,σ=[some (.ref a),some (.int ns.length),some (.ref l),r,none])
  ⟨λb o h1 h2 e=>by rw[zu h2];exact e,⟨n0,by rw[zu nal];exact ea⟩,uX W1 ea nal nLl,zO,none,rfl⟩ ?_ ?_
 .rintro i σ H2 hlt ⟨k1,⟨n1,ea1⟩,W2,el,r,rfl⟩;have hi:i<ns.length:=by omega
  have mem:ns[i]∈ns:=getElem_mem hi;rw[List.drop_eq_getElem_cons hi,cons_append]at W2;have nin:ns[i]∉ns.take i:=λh=>by
   obtain⟨j,hj,ej⟩:=List.mem_iff_getElem.mp h;rw[length_take]at hj;rw[List.getElem_take]at ej;exact(List.pairwise_iff_getElem.mp ok.nd) j i (by omega) hi (by omega) ej
  left;refine CY W2 (SqL.of el) (ok.len _ mem).1 (ok.len _ mem).2 nin λH3 s3 W3=>?_;have el3:=s3.lst W2 el;obtain⟨n3,ea3⟩:=s3.own _ _ _ _ ea1;left;refine y2 el3 (qu (by rw[show(tsV (ns.take i)).length=(ns.take i).length from length_map _,length_take];omega)) ?_;left;refine⟨λb o h1 h2 e=>by rw[zu h2];exact s3.oth b o h1 (k1 b o h1 h2 e),⟨n3,by rw[zu nal];exact ea3⟩,uX W3 ea3 nal nLl,?_,_,rfl⟩;rw[zO,List.take_succ_eq_append_getElem hi];unfold tsV;rw[map_append];rfl
 .rintro σ H2 ⟨k1,⟨n1,ea1⟩,W2,el,r,rfl⟩;rw[toNat_natCast]at W2 el;rw[List.drop_length,nil_append]at W2;rw[take_length]at el;have s12:SBW a H1 H2:=⟨λb o hb e=>k1 b o hb (λz=>by rw[z,hl]at e;cases e) e,λC d L' n' e=>by
   rw[ea]at e;simp only[Option.some.injEq,HO.ins.injEq]at e;obtain⟨rfl,rfl,e3⟩:=e;rw[<- fT e3];exact⟨n1,ea1⟩⟩
  left;refine⟨a,jU,_,"left",x,wd,f,cf,cs,st,rfl,hS _,o4,o5,BF ok.x,i1,i2,W2,λp H3 s3 W3 e3=>?_⟩;have el3:=s3.lst W2 el;have s13:=(s1.trans s12).trans s3;left;intro o dx' no nd ne;have g4:zR H3 (upd (upd H3 dx' (.own o)) o (.ins zH dx' [])):=zw (zw (zR.refl _) nd) no;refine⟨o,dx',l,ns,wd,f,x,st,rfl,zO,g4.at el3,λL' H4 s4 n4 e4 e4'=>?_⟩;have g5:zR H3 H4:=λb u e=>s4 b u (λz=>by rw[z,no]at e;cases e) (g4.at e);have nL':H3 L'=none:=by
   cases hL':H3 L' with
   |none=>rfl
   |some u=>rw[g4.at hL']at n4;cases n4
  have nL0:H L'=none:=by
   cases hL':H L' with
   |none=>rfl
   |some u=>
    by_cases z:L'=a
    .subst z;obtain⟨_,_,_,_,ea3,_⟩:=W3;rw[ea3]at nL';cases nL'
    .rw[s13.oth L' u z hL']at nL';cases nL'
  exact⟨rfl,q o L' H4 (s13.then g5) (W3.same g5) ⟨⟨dx',e4'⟩,cl,na⟩ nL0 e4⟩
def dn(wy:Str)(cw:Bool)(r:LL):LL:=opt cw [YU,Lt wy]++r
def yH(pt:Nat)(cp:Bool)(r:LL):LL:=opt cp [xh,sw pt]++r
def jl(z:Int)(m:Nat)(r:LL):LL:=opt (decide (0<z)) [qo,dw z,sw m]++r
def Jo(sn:Str)(cg:Bool)(r:LL):LL:=opt cg [yu,Lt sn]++r
def Yw(b:Int)(cb:Bool)(r:LL):LL:=opt cb [yZ,dw b]++r
section
variable{wd:Int}{f:Nat}{x:Str}{cf cs st:Bool}{k:LN}{r:LL}
theorem cZ(h1:k≠x4)(h2:k≠jV)(h3:k≠xO)(h4:k≠jI):(jk wd f x cf cs st).head?≠some k:=yc h1 (yc h2 (yc h3 (yc h4 (λz=>by cases z))))
theorem rY{cw:Bool}(h1:k≠YU)(h2:r.head?≠some k):(dn wy cw r).head?≠some k:=yc h1 h2
theorem eI{pt:Nat}{cp:Bool}(h1:k≠xh)(h2:r.head?≠some k):(yH pt cp r).head?≠some k:=yc h1 h2
theorem ft(h1:k≠qo)(h2:r.head?≠some k):(jl z m r).head?≠some k:=yc h1 h2
theorem ER{cg:Bool}(h1:k≠yu)(h2:r.head?≠some k):(Jo sn cg r).head?≠some k:=yc h1 h2
end
theorem Fj(h:yj x):Lt x∈[Lt "minus",Lt "plus",Lt "blank",Lt "brackets",Lt "behind"]:=by
 rcases h with rfl|rfl|rfl|rfl|rfl<;>simp
theorem EX(h:Way x):Lt x∈[Lt "down",Lt "up",Lt "cut",Lt "near",Lt "even"]:=by
 rcases h with rfl|rfl|rfl|rfl|rfl<;>simp
theorem B2(l:List Str):l.map V.str=tsV (l.map Lt):=by
 unfold tsV;rw[List.map_map];exact List.map_congr_left λz _=>by show V.str z=V.str (T (Lt z));rw[XR]
def Qx(K:W.Frag)(CW CN:Addr):Sp:=λvs H Q _=>∃(a:Addr)(fg pl b:Int)(sn:Str)(z:Int)(m pt:Nat)(wy:Str)(wd:Int)(f:Nat)(x:Str)(cb cg cp cw cf cs st:Bool),vs=[.ref a]/\QY fg pl b sn z m pt wy wd f x/\(cb=false->b=10)/\(cg=false->sn="minus")/\(cp=false->pt=46)/\(cw=false->wy="near")/\(cf=false->f=32)/\(cs=false->x="right") /\
 Wr K CW H a (dw fg::dw pl::Yw b cb (Jo sn cg (jl z m (yH pt cp (dn wy cw (jk wd f x cf cs st))))))/\∀o m' H',SBW a H H'->Wr K CW H' a []->zS K H' o CN wd f x st (jB fg pl b sn z m' pt wy)->(0<z->m'=m)->m'<127->Q (.ref o) H'
include Z in
theorem Q5:Has P w K mg base "read_number_form" 5 ["words"] (Qx K zP zD):=by classical
 have cl:Cls K zD:=Z.cC;have na:qd K zD (bns++nns):=Z.cD;have stk:KDs w K jg ["minus","plus","blank","brackets","behind"]:=Z.cO;have hW:SqM K Xn (tsV [Lt "down",Lt "up",Lt "cut",Lt "near",Lt "even"]):=Z.hW;have hS:SqM K jU (tsV [Lt "left",Lt "right",Lt "middle"]):=Z.hS;refine jZ Z.kn Z.bP zl λs H E hr=>⟨_,zA (zF 1 zl.nd (zQ (qw (zr Z) in0 :) Z.cL zd hr (pv 0) (sa2 pwi pwi))) (zA (zF 2 zl.nd (zQ (qw (zr Z) in0 :) Z.cL zd hr (pv 0) (sa2 pwi pwi))) (zA (zF 3 zl.nd (jN (z7 (zQ (qw (zj Z) in0 :) Z.cL zd hr (pv 0) (sa1 (pwl [98,97,115,101])))) (zQ (qw (zr Z) in0 :) Z.cL zd hr (pv 0) (sa2 pwi pwi)) zK)) (zA (zF 4 zl.nd (jN (z7 (zQ (qw (zj Z) in0 :) Z.cL zd hr (pv 0) (sa1 (pwl [115,105,103,110])))) (zQ (qw (jA Z) in0 :) Z.cL zd hr (pv 0) (pa1 (zo (eo rfl) rfl Z.ax lJ (pa1 (qg rfl Z.aC (v:=.ref jg) rfl))))) qi)) (zA (zF 5 zl.nd (zE (Ku Z :) hr (sa1 (pw 0)))) (zA (zF 6 zl.nd (jN (z7 (zQ (qw (zj Z) in0 :) Z.cL zd hr (pv 0) (sa1 (pwl [112,111,105,110,116])))) (qR (qw (xZ Z) in0 :) Z.cL zd hr (pv 0)) (zW [46]))) (zA (zF 7 zl.nd (jN (z7 (zQ (qw (zj Z) in0 :) Z.cL zd hr (pv 0) (sa1 (pwl [119,97,121])))) (zQ (qw (jA Z) in0 :) Z.cL zd hr (pv 0) (pa1 (qg rfl Z.aH (v:=.ref Xn) rfl))) qi)) (zA (zF 8 zl.nd (zE (Qu Z :) hr (pa3 (pv 0) (zU (oct K) (qg rfl Z.aG (v:=.ref jU) rfl) (zY (sa1 pws))) qi))) (zB (zJ (YO (Fw (Zh Z) Z.cE) zd hr rfl Z.ai (zV (pv 1) (zV (pv 2) (zV (pv 3) (zV (pv 4) (zV (pii (ixt K) (pw 5)) (zV (pii (ixt K) (pw 5)) (zV (pv 6) (zV (pv 7) (zV (pii (ixt K) (pw 8)) (zV (pii (ixt K) (pw 8)) (zV (pii (ixt K) (pw 8)) (zV (pii (ixt K) (pw 8)) ZS qB) qB) qB) qB) qT) qT) qB) qB) qT) qT) qT) qT))))))))))),?_⟩
 nofun;rintro _ Q ⟨a,fg,pl,b,sn,z,m,pt,wy,wd,f,x,cb,cg,cp,cw,cf,cs,st,rfl,ok,i1,i2,i3,i4,i5,i6,W,q⟩;symm;have o1:=ok.fg1;have o2:=ok.fg2;have o3:=ok.pl1;have o4:=ok.pl2;have o5:=ok.b1;have o6:=ok.b2;have o7:=ok.z1;have o8:=ok.z2;have o9:=ok.wd1;have o10:=ok.wd2;refine qV (λσ' H'=>σ'=[some (.ref a),some (.int fg),none,none,none,none,none,none,none]/\SBW a H H'/\Wr K zP H' a (dw pl::Yw b cb (Jo sn cg (jl z m (yH pt cp (dn wy cw (jk wd f x cf cs st))))))) (λσ1 H1 h=>?_) (λR hR=>?_)
 .obtain⟨rfl,s1,W1⟩:=h;clear W;refine qV (λσ' H'=>σ'=[some (.ref a),some (.int fg),some (.int pl),none,none,none,none,none,none]/\SBW a H H'/\Wr K zP H' a (Yw b cb (Jo sn cg (jl z m (yH pt cp (dn wy cw (jk wd f x cf cs st))))))) (λσ2 H2 h=>?_) (λR hR=>?_)
  .obtain⟨rfl,s2,W2⟩:=h;clear W1 s1;refine qV (λσ' H'=>σ'=[some (.ref a),some (.int fg),some (.int pl),some (.int b),none,none,none,none,none]/\SBW a H H'/\Wr K zP H' a (Jo sn cg (jl z m (yH pt cp (dn wy cw (jk wd f x cf cs st)))))) (λσ3 H3 h=>?_) (λR hR=>?_)
   .obtain⟨rfl,s3,W3⟩:=h;clear W2 s2;refine qV (λσ' H'=>σ'=[some (.ref a),some (.int fg),some (.int pl),some (.int b),some (.str sn),none,none,none,none]/\SBW a H H'/\Wr K zP H' a (jl z m (yH pt cp (dn wy cw (jk wd f x cf cs st))))) (λσ4 H4 h=>?_) (λR hR=>?_)
    .obtain⟨rfl,s4,W4⟩:=h;clear W3 s3;refine qV (λσ' H'=>∃g m',σ'=[some (.ref a),some (.int fg),some (.int pl),some (.int b),some (.str sn),some (.ref g),none,none,none]/\SBW a H H'/\Wr K zP H' a (yH pt cp (dn wy cw (jk wd f x cf cs st)))/\H' g=some (.tup [.int z,.str (T [m'])])/\(0<z->m'=m)/\(m'=m\/m'=44)) (λσ5 H5 h=>?_) (λR hR=>?_)
     .obtain⟨g,m',rfl,s5,W5,e5,hz,hm⟩:=h;clear W4 s4;refine qV (λσ' H'=>σ'=[some (.ref a),some (.int fg),some (.int pl),some (.int b),some (.str sn),some (.ref g),some (.str (T [pt])),none,none]/\SBW a H H'/\Wr K zP H' a (dn wy cw (jk wd f x cf cs st))/\H' g=some (.tup [.int z,.str (T [m'])])) (λσ6 H6 h=>?_) (λR hR=>?_)
      .obtain⟨rfl,s6,W6,e6⟩:=h;clear W5 s5 e5;refine qV (λσ' H'=>σ'=[some (.ref a),some (.int fg),some (.int pl),some (.int b),some (.str sn),some (.ref g),some (.str (T [pt])),some (.str wy),none]/\SBW a H H'/\Wr K zP H' a (jk wd f x cf cs st)/\H' g=some (.tup [.int z,.str (T [m'])])) (λσ7 H7 h=>?_) (λR hR=>?_)
       .obtain⟨rfl,s7,W7,e7⟩:=h;clear W6 s6 e6;left;rename_i p8 H8 g8 e8;refine⟨jU,p8,_,_,rfl,rfl,hS _,SqT.of e8,(by intro h;cases h),qU (by show 3+1<=1000;decide),(λh=>by cases h),λ_ p9 n9=>?_⟩;have g9:zR H8 (upd H8 p9 (.tup (tsV [Lt "left",Lt "right",Lt "middle"]++[.str "inside"]))):=zw (zR.refl _) n9;have e9:(upd H8 p9 (.tup (tsV [Lt "left",Lt "right",Lt "middle"]++[.str "inside"]))) p9=some (.tup (tsV [Lt "left",Lt "right",Lt "middle",Lt "inside"])):=by
         rw[zO];show some (HO.tup [.str (T (Lt "left")),.str (T (Lt "right")),.str (T (Lt "middle")),.str "inside"])=some (HO.tup [.str (T (Lt "left")),.str (T (Lt "right")),.str (T (Lt "middle")),.str (T (Lt "inside"))]);rw[XR "inside"]
        generalize upd H8 p9 (.tup (tsV [Lt "left",Lt "right",Lt "middle"]++[.str "inside"]))=H9 at *;have g79:=g8.trans g9;left;refine⟨a,p9,_,"right",x,wd,f,cf,cs,st,rfl,SqT.of e9,o9,o10,Bx ok.x,i5,i6,W7.same g79,λp H10 s10 W10 e10=>?_⟩;have e7':=s10.tup (W7.same g79) (g79.at e7);have mb:m'<127:=by
         rcases hm with h|h
         .rw[h];exact ok.m
         .omega
        left;intro o dx no nd ne;refine⟨o,dx,fg,pl,b,sn,z,m',pt,wy,wd,f,x,st,rfl,zO,?_⟩;have F0:zS K (upd (upd (upd H10 dx (.own o)) o (.ins zD dx [])) o (.ins zD dx (bfs wd f x st (jB fg pl b sn z m' pt wy)))) o zD wd f x st (jB fg pl b sn z m' pt wy):=⟨⟨dx,zO⟩,cl,na⟩
        have g11:zR H10 (upd (upd (upd H10 dx (.own o)) o (.ins zD dx [])) o (.ins zD dx (bfs wd f x st (jB fg pl b sn z m' pt wy)))):=zw (zw (zw (zR.refl _) nd) no) no;generalize upd (upd (upd H10 dx (.own o)) o (.ins zD dx [])) o (.ins zD dx (bfs wd f x st (jB fg pl b sn z m' pt wy)))=H11 at F0 g11 ⊢;exact⟨rfl,q o m' H11 (((s7.then g79).trans s10).then g11) (W10.same g11) F0 hz mb⟩
       .left;refine Vj W6 (cZ (by decide) (by decide) (by decide) (by decide)) (λhc H7 s7 W7=>?_) (λhc W7=>?_)
        .left;refine V5 W7 (.inr (hW _)) (EX ok.wy) λH8 s8 W8=>?_;rw[XR];left;exact hR _ _ ⟨rfl,s6.trans (s7.trans s8),W8,s8.tup W7 (s7.tup W6 e6)⟩
        .left;have:=i4 hc;subst this;exact hR _ _ ⟨rfl,s6,W7,e6⟩
      .left;refine Vj W5 (rY (by decide) (cZ (by decide) (by decide) (by decide) (by decide))) (λhc H6 s6 W6=>?_) (λhc W6=>?_)
       .left;refine eQ W6 λH7 s7 W7=>?_;left;exact hR _ _ ⟨rfl,s5.trans (s6.trans s7),W7,s7.tup W6 (s6.tup W5 e5)⟩
       .left;have:=i3 hc;subst this;exact hR _ _ ⟨rfl,s5,W6,e5⟩
     .left;refine⟨a,z,m,_,rfl,o7,o8,W4,eI (by decide) (rY (by decide) (cZ (by decide) (by decide) (by decide) (by decide))),λp m' H5 s5 W5 e5 hz hm=>?_⟩;left;exact hR _ _ ⟨p,m',rfl,s4.trans s5,W5,e5,hz,hm⟩
    .left;refine Vj W3 (ft (by decide) (eI (by decide) (rY (by decide) (cZ (by decide) (by decide) (by decide) (by decide))))) (λhc H4 s4 W4=>?_) (λhc W4=>?_)
     .left;refine su stk λl5 H5 g5 n5 e5=>?_;rw[B2]at e5;left;refine V5 (W4.same g5) (.inl (SqL.of e5)) (Fj ok.sn) λH6 s6 W6=>?_;rw[XR];left;exact hR _ _ ⟨rfl,s3.trans (((s4.then g5)).trans s6),W6⟩
     .left;have:=i2 hc;subst this;exact hR _ _ ⟨rfl,s3,W4⟩
   .left;refine Vj W2 (ER (by decide) (ft (by decide) (eI (by decide) (rY (by decide) (cZ (by decide) (by decide) (by decide) (by decide)))))) (λhc H3 s3 W3=>?_) (λhc W3=>?_)
    .left;refine XN W3 o5 o6 (by omega) (by omega) λH4 s4 W4=>?_;left;exact hR _ _ ⟨rfl,s2.trans (s3.trans s4),W4⟩
    .left;have:=i1 hc;subst this;exact hR _ _ ⟨rfl,s2,W3⟩
  .left;refine XN W1 o3 o4 o3 (by omega) λH2 s2 W2=>?_;left;exact hR _ _ ⟨rfl,s1.trans s2,W2⟩
 .left;refine XN W o1 o2 (by omega) (by omega) λH1 s1 W1=>?_;left;exact hR _ _ ⟨rfl,s1,W1⟩
def GJ(w:LN)(cb:Bool)(lo hi wd:Int)(f:Nat)(x:Str)(cf cs st:Bool):LL:=JF::w::dw lo::dw hi::(opt cb [J8]++jk wd f x cf cs st)
def BD(ns:LL)(wd:Int)(f:Nat)(x:Str)(cf cs st:Bool):LL:=yD::dw ns.length::(ns++jk wd f x cf cs st)
def Am(fg pl b:Int)(sn:Str)(z:Int)(m pt:Nat)(wy:Str)(wd:Int)(f:Nat)(x:Str)(cb cg cp cw cf cs st:Bool):LL:=jH::dw fg::dw pl::Yw b cb (Jo sn cg (jl z m (yH pt cp (dn wy cw (jk wd f x cf cs st)))))
inductive Wds(wd:Int)(f:Nat)(x:Str)(st:Bool):LL->Fd->Prop
 |num {fg pl b:Int} {sn:Str} {z:Int} {m pt:Nat} {wy:Str} {cb cg cp cw cf cs:Bool} (ok:QY fg pl b sn z m pt wy wd f x) (i1:cb=false->b=10) (i2:cg=false->sn="minus") (i3:cp=false->pt=46) (i4:cw=false->wy="near") (i5:cf=false->f=32) (i6:cs=false->x="right"):Wds wd f x st (Am fg pl b sn z m pt wy wd f x cb cg cp cw cf cs st) (.num fg pl b sn z m pt wy)
 |word {w sg:LN} {cb:Bool} {lo hi:Int} {cf cs:Bool} (hw:SgW w sg) (ok:WdS (sgB cb sg) lo hi wd f x) (i1:cf=false->f=32) (i2:cs=false->x="left"):Wds wd f x st (GJ w cb lo hi wd f x cf cs st) (.word (sgB cb sg) lo hi)
 |cho {ns:LL} {cf cs:Bool} (ok:ChS ns wd f x) (i1:cf=false->f=32) (i2:cs=false->x="left"):Wds wd f x st (BD ns wd f x cf cs st) (.cho ns)
inductive Lik:Fd->Fd->Prop
 |num {fg pl b:Int} {sn:Str} {z:Int} {m m' pt:Nat} {wy:Str} (h:0<z->m'=m) (l:m'<127):Lik (.num fg pl b sn z m pt wy) (.num fg pl b sn z m' pt wy)
 |word {sg:LN} {lo hi:Int}:Lik (.word sg lo hi) (.word sg lo hi)
 |cho {ns:Ce}:Lik (.cho ns) (.cho ns)
def K0(K:W.Frag)(CW CN CF CC:Addr):Sp:=λvs H Q _=>∃(a:Addr)(ws:LL)(wd:Int)(f:Nat)(x:Str)(st:Bool)(d:Fd),vs=[.ref a]/\Wds wd f x st ws d/\Wr K CW H a ws/\∀o d' H',SBW a H H'->Wr K CW H' a []->Yn K H' o CN CF CC wd f x st d'->Lik d d'->Q (.ref o) H'
include Z in
theorem WZ:Has P w K mg base "read_words" 6 ["words"] (K0 K zP zD zG zH):=by classical
 refine jZ Z.kn Z.bQ JS λs H E hr=>⟨_,zA (zF 1 JS.nd (zQ (qw (jA Z) in0 :) Z.cL zd hr (pv 0) (pa1 (zY (sa3 (pwl [110,117,109,98,101,114]) (pwl [119,111,114,100]) (pwl [99,104,111,105,99,101])))))) (zA (zb (pt2 qD (pw 1) (pwl [110,117,109,98,101,114])) (zB (zJ (zE (Q5 Z :) hr (sa1 (pw 0))))) zM) (zA (zb (pt2 qD (pw 1) (pwl [119,111,114,100])) (zB (zJ (zE (X3 Z :) hr (sa1 (pw 0))))) zM) (zB (zJ (zE (Jc Z :) hr (sa1 (pw 0))))))),?_⟩
 nofun;rintro _ Q ⟨a,ws,wd,f,x,st,d,rfl,T0,W,q⟩;symm;left;rename_i p1 H1 g1 e1;cases T0 with
 |@num fg pl b sn z m pt wy cb cg cp cw cf cs ok i1 i2 i3 i4 i5 i6=>
  refine V5 (ts:=[[110,117,109,98,101,114],[119,111,114,100],[99,104,111,105,99,101]]) (W.same g1) (.inr (SqT.of e1)) (mem_cons_self ..) λH2 s2 W2=>?_;left;exact⟨a,fg,pl,b,sn,z,m,pt,wy,wd,f,x,cb,cg,cp,cw,cf,cs,st,rfl,ok,i1,i2,i3,i4,i5,i6,W2,λo m' H3 s3 W3 F3 hz hm=>q _ _ _ (((SBW.of g1).trans s2).trans s3) W3 (.num F3 { ok with m:=hm }) (.num hz hm)⟩
 |@word w sg cb lo hi cf cs hw ok i1 i2=>
  refine V5 (ts:=[[110,117,109,98,101,114],[119,111,114,100],[99,104,111,105,99,101]]) (W.same g1) (.inr (SqT.of e1)) (mem_cons_of_mem _ (mem_cons_self ..)) λH2 s2 W2=>?_;left;exact⟨a,w,sg,cb,lo,hi,wd,f,x,cf,cs,st,rfl,hw,ok,i1,i2,W2,λo H3 s3 W3 F3=>q _ _ _ (((SBW.of g1).trans s2).trans s3) W3 (.word F3 ok) .word⟩
 |@cho ns cf cs ok i1 i2=>
  refine V5 (ts:=[[110,117,109,98,101,114],[119,111,114,100],[99,104,111,105,99,101]]) (W.same g1) (.inr (SqT.of e1)) (mem_cons_of_mem _ (mem_cons_of_mem _ (mem_cons_self ..))) λH2 s2 W2=>?_;left;exact⟨a,ns,wd,f,x,cf,cs,st,rfl,ok,i1,i2,W2,λo L H3 s3 W3 F3 n3 e3=>q _ _ _ (((SBW.of g1).trans s2).trans s3) W3 (.cho F3 e3 ok) .cho⟩
def Sgn(c:Nat):Prop:=c=32\/c∈Lt Ve
def io(K:W.Frag):Sp:=λvs H Q _=>∃t:LN,vs=[.str (T t)]/\(∀c∈t,Sgn c)/\t.length<=1000/\∀H',zR H H'->Q (.bl true) H'
theorem Bp{c:Nat}{z:Str}(q:Q (.bl (decide (c∈Lt z))) H):Dd (.str (T [c])) (.str z) H Q:=by
 have e:z=T (Lt z):=(XR z).symm;rw[e,YN]at *;exact AR q
include Z in
theorem lF:Has P w K mg base "is_text" 1 ["thing"] (io K):=by
 have ss:Wu w K z6:=Z.ss;refine jZ Z.kn Z.bR iu λs H E hr=>⟨_,zA (zb (qx (z7 (zL yC Z.ao rfl qK (pa2 (pv 0) (Qt rfl Z.ap jz (v:=.ty "str") rfl))))) (zB (zJ QK)) zM) (zB (zJ (zL (VU rfl) Z.az rfl oO (pa1 (xH (cl:=[]) (fr:=[]) (is:=[]) rfl rfl trivial rfl trivial (by decide) (by right) rfl (by right) rfl (d7 (pv 0)) (λ_ _ _ _=>xI) (λ_ _ _ _=>CO (pc2 qD (pw 0) (pwl [32])) (QZ (ki KP (pv 0) (zc (Af (w:=w) (K:=K) rfl rfl) (qg rfl Z.aF (v:=.ref z6) rfl) qi) (by with_unfolding_all rfl))))))))),?_⟩
 nofun;rintro _ Q ⟨t,rfl,ht,hl,q⟩;symm;left;refine ff (qU hl) (λi ys H'=>H'=H/\ys=(List.replicate i true).map V.bl) ⟨rfl,rfl⟩ (λi ys H' _ h=>by rw[h.2];simp) ?_ ?_
 .rintro i c ys H' hc hi ⟨rfl,rfl⟩;have sc:=ht c (mem_of_getElem? hc);left
  .refine nxC hi ⟨rfl,by rw[List.replicate_succ',map_append];rfl⟩
  .rename_i hne;refine oz (ss.get "all" Ve (.inr (.inr (.inr ⟨rfl,rfl⟩)))) (Bp ?_);have mem:c∈Lt Ve:=by
    rcases sc with h|h
    .exact absurd (by rw[h]) hne
    .exact h
   rw[decide_eq_true mem];refine nxC hi ⟨rfl,by rw[List.replicate_succ',map_append];rfl⟩
 .rintro ys H' ⟨rfl,rfl⟩ p1 H1 g1 e1;left;rw[show(List.replicate t.length true).all id=true from by simp];exact q _ g1
def Pst(wd:Int)(st:Bool):Fd->Prop
 |.num _ pl b sn z _ pt _=>∀m',m'<127->(st&&decide (wd<((xN pl b sn z m' pt 0).length:Int)))=false
 |.word _ lo _=>st=true->lo<=wd
 |.cho ns=>st=true->∃t∈ns,(t.length:Int)<=wd
variable{d':Fd}
theorem Ee{CN CF CC:Addr}{d:Fd}(P:Pst wd st d)(L:Lik d d')(F:Yn K H o CN CF CC wd f x st d')(q:∀H',zR H H'->Q (.bl true) H'):kf K CN CF CC [.ref o] H Q E:=by
 cases L with
 |num hz l=>cases F with
  |num F ok=>exact .inl ⟨o,_,_,_,_,_,_,_,_,_,_,_,_,rfl,F,ok,P _ l,q⟩
 |word=>cases F with
  |word F ok=>exact .inr (.inl ⟨o,_,_,_,_,_,_,_,rfl,F,ok,P,q _ (zR.refl _)⟩)
 |cho=>cases F with
  |cho F e ok=>exact .inr (.inr ⟨o,_,_,_,_,_,_,rfl,F,SqL.of e,ok,P,q _ (zR.refl _)⟩)
def Xg(K:W.Frag)(CN CF CC:Addr):Sp:=λvs H Q _=>∃(ws:LL)(wd:Int)(f:Nat)(x:Str)(st:Bool)(d:Fd),vs=[.str (T (jn [32] ws))]/\Wds wd f x st ws d/\(∀t∈ws,32∉t)/\(∀c∈jn [32] ws,Sgn c)/\(jn [32] ws).length<=1000/\ws.length<=100/\Pst wd st d/\∀o d' H',zR H H'->Yn K H' o CN CF CC wd f x st d'->Lik d d'->Q (.ref o) H'
local macro_rules|`(tactic|walk_at "rdc")=>`(tactic|first|(with_reducible refine B7 ?_)|(with_reducible refine Dv ?_)|fail "k52h stops")
include Z in
theorem VL:Has P w K mg base "read_form" 7 ["text"] (Xg K zD zG zH):=by classical
 have clW:Cls K zP:=Z.cL;have naW:qd K zP ["words","at"]:=Z.cM;refine jZ Z.kn Z.bS Zn λs H E hr=>⟨_,zA (zb (qx (z7 (zE (lF Z :) hr (sa1 (pw 0))))) (zB xF) zM) (zA (zF 1 Zn.nd (YO (Fw (X0 Z) Z.cN) zd hr rfl Z.al (pa1 (pbk K PySem.F.plainAttrs_str PySem.F.slot_str_split PySem.F.type_str_split nv (pv 0) (sa1 (pwl [32])))))) (zA (zF 2 Zn.nd (zE (WZ Z :) hr (sa1 (pw 1)))) (zA (zb (qx (z7 (xQ (qR (qw (xy Z) in0 :) Z.cC zd hr (pv 2)) (xQ (qR (qw (xy Z) in1 :) Z.cF zd hr (pv 2)) (qR (qw (xy Z) in2 :) Z.cI zd hr (pv 2)))))) (zB xF) zM) (zA (zb (zX Vl (pfv K (pv 1)) (zL (lnN K) Z.am rfl qE (pa1 (pfv K (pv 1))))) (zB xF) zM) (zB (zJ (pv 2))))))),?_⟩
 nofun;rintro _ Q ⟨ws,wd,f,x,st,d,rfl,T0,fr,sgn,l1,l2,hs,q⟩;symm;have ne0:ws≠[]:=by cases T0<;>(intro h;cases h)
 left;refine⟨_,rfl,sgn,l1,λH1 g1=>?_⟩;left;refine sv ne0 fr (by omega) (by omega) λl H2 g2 n2 e2=>?_;left;intro a dx no nd ne;refine⟨a,dx,l,rfl,zO,rfl,?_⟩;have na2:l≠a:=qI e2 no;have nd2:l≠dx:=qI e2 nd;have W:Wr K zP (upd (upd (upd H2 dx (.own a)) a (.ins zP dx [])) a (.ins zP dx (wfs l 0))) a ws:=
  ⟨dx,l,_,0,zO,(by rw[zu na2,zu na2,zu nd2];exact e2),zero_le _,rfl,l2⟩
 have g3:zR H2 (upd (upd (upd H2 dx (.own a)) a (.ins zP dx [])) a (.ins zP dx (wfs l 0))):=zw (zw (zw (zR.refl _) nd) no) no;have nn2:∀c u,H c=some u->c≠a:=λc u e z=>by subst z;have:=g2.at (g1.at e);rw[no]at this;cases this
 generalize upd (upd (upd H2 dx (.own a)) a (.ins zP dx [])) a (.ins zP dx (wfs l 0))=H3 at W g3 ⊢;left;refine⟨a,ws,wd,f,x,st,d,rfl,T0,W,λo d' H4 s4 W4 F4 L4=>?_⟩;have g4:zR H H4:=λc u e=>s4.oth c u (nn2 c u e) (g3.at (g2.at (g1.at e)));left;refine or3 (vs:=[]) F4 (by right) (λQ' h=>by left; exact h) (λQ' h=>by left; exact h) (uS (Ee hs L4 F4 λH5 g5=>?_));obtain⟨dx5,L5,ws5,n5,e5,hl5,hn5,hd5,hz5⟩:=W4.same g5;have nn:n5=ws5.length:=by
  rcases lt_or_ge n5 ws5.length with q'|q'
  .rw[List.drop_eq_getElem_cons q']at hd5;cases hd5
  .omega
 have fA:jj K H5 a "at" (.int n5):=⟨zP,dx5,_,e5,clW,naW.at (by right),sj⟩
 have fW:jj K H5 a "words" (.ref L5):=⟨zP,dx5,_,e5,clW,naW.at (by right),Kf⟩
 have tl:(tsV ws5).length=ws5.length:=length_map _;left;exact q o d' H5 (g4.trans g5) (F4.same g5) L4
local macro_rules|`(tactic|walk_at "rdc")=>`(tactic|((with_reducible refine' mw ?hz ?_);(case hz=>exact qU (by simp only [length_cons,length_nil];decide));intro p' H' g' e'))
local macro_rules|`(tactic|walk_at "rd1")=>`(tactic|((with_reducible refine' mw ?hz ?_);(case hz=>exact qU (by simp only [length_cons,length_nil];decide));intro p' H' g' e'))
theorem VS{c:Nat}(h:Sgn c):c<127:=by
 rcases h with rfl|h
 .decide
 .exact(show ∀c∈Lt Ve,c<127 by right) c h
def xw(K:W.Frag):Sp:=λvs H Q _=>vs=[]/\∀l:LN,l=32::Lt Ve->l.length=94->(∀c∈l,Sgn c)->l.Pairwise (· < ·)->(∀c∈l.drop 1,c≠32)->Q (.str (T l)) H
theorem A2(q:∀l:LN,l.length=94->(∀c∈l,Sgn c)->l.Pairwise (· < ·)->(∀c∈l.drop 1,c≠32)->Q (.str (T l)) H):xw K ([]++[]) H Q E:=⟨rfl,λl _=>q l⟩
theorem rN(q:Q (.str (T (32::Lt Ve))) H):xw K ([]++[]) H Q E:=⟨rfl,λl e _ _ _ _=>by rw[e];exact q⟩
local macro_rules|`(tactic|walk_at "rdk")=>`(tactic|((with_reducible refine A2 ?_);intro l' hl' al' pl' bl'))
def kb(K:W.Frag):Sp:=λvs H Q _=>∃n t:Int,vs=[.int n,.int t]/\0<=t/\∀c:Nat,Sgn c->Q (.str (T [c])) H
theorem FH{n:Int}(h1:0<=t)(q:∀c:Nat,Sgn c->Q (.str (T [c])) H):kb K ([.int n,.int t]++[]) H Q E:=⟨n,t,rfl,h1,q⟩
local macro_rules|`(tactic|walk_at "rdk")=>`(tactic|((with_reducible refine' FH ?h1 ?_);(case h1=>omega);intro c' hc'))
def Qj(H:Hp)(p:Addr)(fg pl b:Int)(sn:Str)(z:Int)(m pt:Nat)(wy:Str)(wd:Int)(f:Nat)(x:Str)(st:Bool):Prop:=H p=some (.tup [.str "number",.int fg,.int pl,.int b,.str sn,.int z,.str (T [m]),.str (T [pt]),.str wy,.int wd,.str (T [f]),.str x,.bl st])
def Sg3(m pt f:Nat):Prop:=Sgn m/\Sgn pt/\Sgn f
def Q8(K:W.Frag):Sp:=λvs H Q _=>∃(c o:Int),vs=[.int c,.int o,.int 0]/\∀p H' fg pl b sn z m pt wy wd f x st,zR H H'->QY fg pl b sn z m pt wy wd f x->Sg3 m pt f->Qj H' p fg pl b sn z m pt wy wd f x st->Q (.ref p) H'
include Z in
theorem j9:Has P w K mg base "_law_all_signs" 1 [] (xw K):=by
 refine jZ Z.kn Z.bT YE λs H E hr=>⟨_,zB (zJ qi),?_⟩
 nofun;rintro _ Q ⟨rfl,q⟩;symm;left;have q':=q (Lt " !\"#$&'()*+,-./0123456789:;<=>?@ABCDEFGHIJKLMNOPQRSTUVWXYZ[\\]^_`abcdefghijklmnopqrstuvwxyz{|}~") (by right) (by right) (by
  have:∀c∈Lt " !\"#$&'()*+,-./0123456789:;<=>?@ABCDEFGHIJKLMNOPQRSTUVWXYZ[\\]^_`abcdefghijklmnopqrstuvwxyz{|}~",c=32\/c∈Lt Ve:=by right
  exact this) (by right) (by right)
 rw[XR]at q';exact q'
include Z in
theorem jC:Has P w K mg base "_law_drawn_sign" 2 ["_law_cell","_law_salt"] (kb K):=by
 refine jZ Z.kn Z.bU kZ λs H E hr=>⟨_,zA (zF 2 kZ.nd qi) (zA (zb (zX kz (zE (zN Z :) hr (sa3 (pw 0) (pw 1) pwi)) zK) (zB (zJ (zc jY (pv 2) (zE (zN Z :) hr (pa3 (pv 0) (po2 zm (pw 1) pwi) (zL za Z.am rfl qE (sa1 (pw 2)))))))) zM) (zB (zJ (zc jY (kH (j9 Z) hr rfl) (zE (zN Z :) hr (pa3 (pv 0) (po2 zm (pw 1) pwi) zK)))))),?_⟩
 nofun;rintro _ Q ⟨n,t,rfl,h0,q⟩;symm;have l13:(Lt " 0-+(1*)_,.9f").length=13:=by right
 have a1:∀c∈Lt " 0-+(1*)_,.9f",c=32\/c∈Lt Ve:=by right
 left
 .rename_i c' hc';exact q _ (a1 _ hc')
 .rename_i l' hl' al' pl' bl' v' h0' h1';refine q _ (al' _ ?_);rw[getD_eq_getElem?_getD,getElem?_eq_getElem (by omega)];exact getElem_mem _
include Z in
theorem Jt:Has P w K mg base "_law_number_spec" 3 ["_law_cell","_law_other","_law_small"] (Q8 K):=by classical
 refine jZ Z.kn Z.bV zZ λs H E hr=>⟨_,zA (zF 3 zZ.nd (zU zm zK (zE (zN Z :) hr (pa3 (pv 0) zK (zc (ixl K) (ze (sa2 pwi pwi)) (pv 2)))))) (zA (zF 4 zZ.nd (zE (zN Z :) hr (pa3 (pv 0) zK (zc (ixl K) (ze (sa2 pwi pwi)) (pv 2))))) (zA (zF 5 zZ.nd (zc (ixl K) (ze (pa4 zK zK (zc (ixl K) (ze (sa2 pwi pwi)) (pv 2)) (zc (ixl K) (ze (pa2 (zU zm zK (zE (zN Z :) hr (sa3 (pw 0) pwi pwi))) zK)) (pv 2)))) (zE (zN Z :) hr (sa3 (pw 0) pwi pwi)))) (zA (zF 6 zZ.nd (zc (ixl K) (ze (zV qi (sa4 pws (pwl [98,108,97,110,107]) pws pws))) (zE (zN Z :) hr (sa3 (pw 0) pwi pwi)))) (zA (zF 7 zZ.nd (zc (ixl K) (ze (pa3 zK zK (zU zm zK (zE (zN Z :) hr (sa3 (pw 0) pwi pwi))))) (zE (zN Z :) hr (sa3 (pw 0) pwi pwi)))) (zA (zF 8 zZ.nd (zc (ixl K) (ze (zV qi (sa4 pws pws pws pws))) (zE (zN Z :) hr (sa3 (pw 0) pwi pwi)))) (zA (zF 9 zZ.nd (zY (pa3 (zE (jC Z :) hr (sa2 (pw 1) pwi)) (zE (jC Z :) hr (sa2 (pw 1) pwi)) (zE (jC Z :) hr (sa2 (pw 1) pwi))))) (zA (zF 10 zZ.nd (ze (pa3 zK (zU zm zK (zE (zN Z :) hr (pa3 (pv 1) zK (zc (ixl K) (ze (sa2 pwi pwi)) (pv 2))))) (zU zm zK (zE (zN Z :) hr (pa3 (pv 1) zK (zc (ixl K) (ze (sa2 pwi pwi)) (pv 2)))))))) (zA (zF 11 zZ.nd (zc (ixl K) (pv 10) (zE (zN Z :) hr (sa3 (pw 1) pwi pwi)))) (zA (zF 12 zZ.nd (zc (ixl K) (ze (sa4 pws pws pws pws)) (zE (zN Z :) hr (sa3 (pw 1) pwi pwi)))) (zA (zF 13 zZ.nd (jT qD (zE (zN Z :) hr (sa3 (pw 1) pwi pwi)) zK)) (zB (zJ (zY (zV (zW [110,117,109,98,101,114]) (zV (pv 3) (zV (pv 4) (zV (pv 5) (zV (pv 6) (zV (pv 7) (zV (pii (ixt K) (pw 9)) (zV (pii (ixt K) (pw 9)) (zV (pv 8) (zV (pv 11) (zV (pii (ixt K) (pw 9)) (zV (pv 12) (zV (pv 13) ZS qT) qT) qB) qT) qT) qB) qB) qT) qT) qT) qT) qT) Yu)))))))))))))),?_⟩
 nofun;rintro _ Q ⟨c,o,rfl,q⟩;symm;left;rename_i p4 H4 g4 e4 v3 h03 h13 p3 H3 g3 e3 v2 h02 h12 p2 H2 g2 e2 v1 h01 h11 p1 H1 g1 e1 p0 H0 g0 e0 v0 h00 h10;refine jF (SqL.of e0) (by omega) (by show _<(4:Int);omega) λx hx=>?_;have hm:=mem_of_getElem? hx;simp only[mem_cons,not_mem_nil,or_false]at hm;have hx:∃b:Int,x=.int b/\2<=b/\b<=16:=by
  rcases hm with rfl|rfl|rfl|rfl
  .exact⟨_,rfl,by omega,by omega⟩
  .exact⟨_,rfl,by omega,by omega⟩
  .exact⟨_,rfl,by omega,by omega⟩
  .exact⟨_,rfl,by omega,by omega⟩
 obtain⟨b,rfl,b1,b2⟩:=hx;have gA:zR H H0:=by k_extra "sm"
 clear hm e0 e1 e2 e3 e4;left;rename_i p5 H5 g5 e5 v5 h05 h15;refine jF (SqL.of e5) (by omega) (by show _<(5:Int);omega) λx hx=>?_;have hm:=mem_of_getElem? hx;simp only[mem_cons,not_mem_nil,or_false]at hm;have hx:∃sn:Str,x=.str sn/\yj sn:=by
  rcases hm with rfl|rfl|rfl|rfl|rfl
  .exact⟨_,rfl,.inl rfl⟩
  .exact⟨_,rfl,.inr (.inl rfl)⟩
  .exact⟨_,rfl,.inr (.inr (.inl rfl))⟩
  .exact⟨_,rfl,.inr (.inr (.inr (.inl rfl)))⟩
  .exact⟨_,rfl,.inr (.inr (.inr (.inr rfl)))⟩
 obtain⟨sn,rfl,hsn⟩:=hx;clear hm e5;left;rename_i v6 h06 h16 p7 H7 g7 e7 v7 h07 h17;refine jF (SqL.of e7) (by omega) (by show _<(3:Int);omega) λx hx=>?_;have hm:=mem_of_getElem? hx;simp only[mem_cons,not_mem_nil,or_false]at hm;have hx:∃z:Int,x=.int z/\0<=z/\z<=9:=by
  rcases hm with rfl|rfl|rfl
  .exact⟨_,rfl,by omega,by omega⟩
  .exact⟨_,rfl,by omega,by omega⟩
  .exact⟨_,rfl,by omega,by omega⟩
 obtain⟨z,rfl,z1,z2⟩:=hx;clear hm e7;left;rename_i p8 H8 g8 e8 v8 h08 h18;refine jF (SqL.of e8) (by omega) (by show _<(5:Int);omega) λx hx=>?_;have hm:=mem_of_getElem? hx;simp only[mem_cons,not_mem_nil,or_false]at hm;have hx:∃wy:Str,x=.str wy/\Way wy:=by
  rcases hm with rfl|rfl|rfl|rfl|rfl
  .exact⟨_,rfl,.inl rfl⟩
  .exact⟨_,rfl,.inr (.inl rfl)⟩
  .exact⟨_,rfl,.inr (.inr (.inl rfl))⟩
  .exact⟨_,rfl,.inr (.inr (.inr (.inl rfl)))⟩
  .exact⟨_,rfl,.inr (.inr (.inr (.inr rfl)))⟩
 obtain⟨wy,rfl,hwy⟩:=hx;clear hm e8;left;rename_i c3 hc3 c2 hc2 c1 hc1 pA HA gA1 eA pB HB gB eB v9 h09 h19 pC HC gC eC v10 h010 h110 pD HD gD eD v11 h011 h111;refine jF (SqL.of eD) (by omega) (by show _<(3:Int);omega) λx hx=>?_;have hm:=mem_of_getElem? hx;simp only[mem_cons,not_mem_nil,or_false]at hm;have hx:∃wd:Int,x=.int wd/\0<=wd/\wd<=40:=by
  rcases hm with rfl|rfl|rfl
  .exact⟨_,rfl,by omega,by omega⟩
  .exact⟨_,rfl,by omega,by omega⟩
  .exact⟨_,rfl,by omega,by omega⟩
 obtain⟨wd,rfl,w1,w2⟩:=hx;clear hm eD eC eB;left;rename_i pE HE gE eE v12 h012 h112;refine jF (SqL.of eE) (by omega) (by show _<(4:Int);omega) λx hx=>?_;have hm:=mem_of_getElem? hx;simp only[mem_cons,not_mem_nil,or_false]at hm;have hx:∃y:Str,x=.str y/\VZ y:=by
  rcases hm with rfl|rfl|rfl|rfl
  .exact⟨_,rfl,.inl (.inr (.inl rfl))⟩
  .exact⟨_,rfl,.inl (.inl rfl)⟩
  .exact⟨_,rfl,.inl (.inr (.inr rfl))⟩
  .exact⟨_,rfl,.inr rfl⟩
 obtain⟨y,rfl,hy⟩:=hx;clear hm eE;left;rename_i v13 h013 h113 pF HF gF eF;exact q _ _ _ _ _ _ _ _ _ _ _ _ _ _ (by k_extra "sm") ⟨by omega,by omega,by omega,by omega,b1,b2,hsn,z1,z2,VS (by assumption),VS (by assumption),hwy,w1,w2,VS (by assumption),hy⟩ ⟨by assumption,by assumption,by assumption⟩ eF
theorem nB{a:LN}(ha:a.Pairwise (· < ·)){s st:Int}(h0:0<=s)(h1:s<a.length)(h2:1<=st):(Vo (T a) (some s) none st).Pairwise (· < ·):=by
 have e:Builtin.Str.strSliceIndices (some s) none st (T a).length=(List.range (((a.length:Int)-s+st-1)/st).toNat).map λk:Nat=>(s+st*(k:Int)).toNat:=by
  have l:((T a).length:Int)=a.length:=rfl;unfold Builtin.Str.strSliceIndices;dsimp only;rw[l,if_neg (show ¬s<0 by omega),if_pos (show st>0 by omega),if_pos (show st>0 by omega),Int.min_eq_left (by omega),Int.max_eq_right h0];unfold sliceRange;rw[if_pos (show st>0 by omega),if_pos h1]
 unfold Vo;rw[e,YN,List.pairwise_filterMap,List.pairwise_map];refine List.Pairwise.imp ?_ List.pairwise_lt_range;intro i j hij b hb c hc;obtain⟨hi,rfl⟩:=List.getElem?_eq_some_iff.mp hb;obtain⟨hj,rfl⟩:=List.getElem?_eq_some_iff.mp hc;refine(List.pairwise_iff_getElem.mp ha) _ _ hi hj ?_;have:st*(i:Int)<st*(j:Int):=Int.mul_lt_mul_of_pos_left (by omega) (by omega);have p0:0<=st*(i:Int):=Int.mul_nonneg (by omega) (by omega);omega
def YC(H:Hp)(p:Addr)(sg:LN)(lo hi wd:Int)(f:Nat)(x:Str)(st:Bool):Prop:=H p=some (.tup [.str "word",.str (T sg),.int lo,.int hi,.int wd,.str (T [f]),.str x,.bl st])
structure SgD(sg:LN):Prop where
 s1:1<=sg.length
 s2:sg.length<=200
 up:sg.Pairwise (· < ·)
 sgn:∀c∈sg,Sgn c
structure WdR(lo hi wd:Int)(f:Nat)(x:Str):Prop where
 lo1:0<=lo
 lo2:lo<=hi
 hi2:hi<=24
 wd1:0<=wd
 wd2:wd<=40
 f:Sgn f
 x:Zd x
def Xx(K:W.Frag):Sp:=λvs H Q _=>∃(c o:Int),vs=[.int c,.int o,.int 0]/\∀p H' sg lo hi wd f x st,zR H H'->SgD sg->WdR lo hi wd f x->YC H' p sg lo hi wd f x st->Q (.ref p) H'
include Z in
theorem VG:Has P w K mg base "_law_word_spec" 3 ["_law_cell","_law_other","_law_small"] (Xx K):=by classical
 refine jZ Z.kn Z.bW z8 λs H E hr=>⟨_,zA (zF 3 z8.nd (zE (zN Z :) hr (sa3 (pw 0) pwi pwi))) (zA (zF 4 z8.nd (zU zm zK (zE (zN Z :) hr (sa3 (pw 0) pwi pwi)))) (zA (zF 5 z8.nd (zx xk (nS (kH (j9 Z) hr rfl) (zt (pv 3)) qm (pv 4)) qm (zt (zU zm zK (zE (zN Z :) hr (pa3 (pv 0) zK (zc (ixl K) (ze (sa2 pwi pwi)) (pv 2)))))))) (zA (zF 6 z8.nd (zE (zN Z :) hr (pa3 (pv 1) zK (zc (ixl K) (ze (sa2 pwi pwi)) (pv 2))))) (zA (zF 7 z8.nd (zL (QA rfl) Z.ar rfl dO (pa2 zK (zU zm (pv 6) (zE (zN Z :) hr (pa3 (pv 1) zK (zc (ixl K) (ze (sa2 pwi pwi)) (pv 2)))))))) (zA (zF 8 z8.nd (zc (ixl K) (ze (pa3 (pii jY (pw 5)) (zE (jC Z :) hr (sa2 (pw 1) pwi)) (zc jY (pv 5) (Zl xi zK)))) (zE (zN Z :) hr (sa3 (pw 1) pwi pwi)))) (zA (zF 9 z8.nd (zc (ixl K) (ze (pa3 zK (zU zm zK (zE (zN Z :) hr (pa3 (pv 1) zK (zc (ixl K) (ze (sa2 pwi pwi)) (pv 2))))) (pv 7))) (zE (zN Z :) hr (sa3 (pw 1) pwi pwi)))) (zA (zF 10 z8.nd (zc (ixl K) (ze (sa3 pws pws pws)) (zE (zN Z :) hr (sa3 (pw 1) pwi pwi)))) (zB (zJ (zY (zV (zW [119,111,114,100]) (zV (pv 5) (zV (pv 6) (zV (pv 7) (zV (pv 9) (zV (pv 8) (zV (pv 10) (zV (jT qD (zE (zN Z :) hr (sa3 (pw 1) pwi pwi)) zK) ZS iW) qT) qT) qT) qT) qT) qT) Yu))))))))))),?_⟩
 nofun;rintro _ Q ⟨c,o,rfl,q⟩;symm;left;rename_i v1 h01 h11 v0 h00 h10 l hl al pl bl;have pa:=nB pl (s:=v1) (st:=1+v0) h01 (by omega) (by omega);obtain⟨p1,p2,p3⟩:=iN (a:=l) (s:=v1) (st:=1+v0) h01 (by omega) (by omega);refine⟨T l,rfl,by omega,by show l.length<=sizeLine;rw[hl];decide,Nat.le_of_lt (qu (by omega)),λy hy=>?_⟩;have hy':∃z:LN,y=T z/\0<z.length/\z.length<=200/\(∀c∈z,Sgn c)/\z.Pairwise (· < ·):=by
  rcases hy with rfl|⟨_,rfl⟩
  .exact⟨_,rfl,List.length_pos_iff.mpr p1,by omega,λc hc=>al c (p2 c hc),pa⟩
  .exact⟨l,rfl,by omega,by omega,al,pl⟩
 obtain⟨z,rfl,z1,z2,z3,z4⟩:=hy';clear hy p1 p2 p3 pa;left;rename_i q3 H3 g3 e3 v3 h03 h13 q2 H2 g2 e2 v2 h02 h12 q1 H1 g1 e1 v9 h09 h19 k0 hk0 c0 hc0 qf Hf gf ef vf hf0 hf1;have s1:0<(z.take (1+v3).toNat).length:=by rw[length_take];omega
 have s2:(z.take (1+v3).toNat).length<=200:=by rw[length_take];omega
 have s3:∀c∈z.take (1+v3).toNat,Sgn c:=λc hc=>z3 c (mem_of_mem_take hc);have s4:(z.take (1+v3).toNat).Pairwise (· < ·):=List.Pairwise.sublist (List.take_sublist _ _) z4;generalize z.take (1+v3).toNat=sg at ef s1 s2 s3 s4 ⊢;have sm:∀k,k<sg.length->Sgn (sg.getD k 0):=λk hk=>s3 _ (by rw[getD_eq_getElem?_getD,getElem?_eq_getElem hk];exact getElem_mem _);refine jF (SqL.of ef) (by omega) (by show _<(3:Int);omega) λx hx=>?_;have hm:=mem_of_getElem? hx;simp only[mem_cons,not_mem_nil,or_false]at hm;have hx:∃f:Nat,x=.str (T [f])/\Sgn f:=by
  rcases hm with rfl|rfl|rfl
  .exact⟨_,rfl,sm _ s1⟩
  .exact⟨_,rfl,hc0⟩
  .exact⟨_,rfl,sm _ (by omega)⟩
 obtain⟨f,rfl,hf⟩:=hx;clear hm ef;left;rename_i q8 H8 g8 e8 v8 h08 h18 q7 H7 g7 e7 v7 h07 h17;refine jF (SqL.of e7) (by omega) (by show _<(3:Int);omega) λx hx=>?_;have hm:=mem_of_getElem? hx;simp only[mem_cons,not_mem_nil,or_false]at hm;have hx:∃wd:Int,x=.int wd/\0<=wd/\wd<=40:=by
  rcases hm with rfl|rfl|rfl
  .exact⟨_,rfl,by omega,by omega⟩
  .exact⟨_,rfl,by omega,by omega⟩
  .exact⟨_,rfl,by omega,by omega⟩
 obtain⟨wd,rfl,hw0,hw1⟩:=hx;clear hm e7;left;rename_i q6 H6 g6 e6 v6 h06 h16;refine jF (SqL.of e6) (by omega) (by show _<(3:Int);omega) λx hx=>?_;have hm:=mem_of_getElem? hx;simp only[mem_cons,not_mem_nil,or_false]at hm;have hx:∃y:Str,x=.str y/\Zd y:=by
  rcases hm with rfl|rfl|rfl
  .exact⟨_,rfl,.inl rfl⟩
  .exact⟨_,rfl,.inr (.inl rfl)⟩
  .exact⟨_,rfl,.inr (.inr rfl)⟩
 obtain⟨y,rfl,hy⟩:=hx;clear hm e6;left;rename_i v5 h05 h15 q5 H5 g5 e5;exact q _ _ sg v2 k0 wd f y _ (by k_extra "sm") ⟨s1,s2,s4,s3⟩ ⟨h02,by omega,by omega,hw0,hw1,hf,hy⟩ e5
local macro_rules|`(tactic|walk_at "rdk")=>`(tactic|((with_reducible refine' Cz ?h1 ?h2 ?_);(case h1|h2=>omega);intro h0' h1'))
def Sg1(c:Nat):Prop:=c∈Lt Ve
structure Nms(ns:LL):Prop where
 len:∀t∈ns,1<=t.length/\t.length<=12
 sgn:∀t∈ns,∀c∈t,Sg1 c
 nd:ns.Nodup
def kg(K:W.Frag):Sp:=λvs H Q _=>∃(c n:Int),vs=[.int c,.int n]/\1<=n/\n<=12/\∀p ns H',zR H H'->(ns.length:Int)=n->Nms ns->H' p=some (.lst (tsV ns))->Q (.ref p) H'
theorem fl1:∀cs:LN,(cs.map λc=>[c]).flatten=cs
 |[]=>rfl
 |c::cs=>by rw[map_cons,flatten_cons,fl1 cs];rfl
def Kr(way mn sz st v:Int)(S B:LN)(k:Nat):LN:=if way=0 then B.take (k+1)else if way=1 then B.take mn.toNat++[S.getD ((v+k*st)%93).toNat 0]++(B.take sz.toNat).drop (mn+1).toNat else B.take k++[48]
theorem rh(h0:0<=i)(h1:i<=xs.length):iz xs (some i) none=xs.drop i.toNat:=by
 obtain⟨k,rfl⟩:=eq_ofNat_of_zero_le h0;unfold iz;rw[HT.sIx_nat,HT.sIx_none,Nat.min_eq_left (by omega),take_of_length_le (by rw[length_drop];omega)];rfl
theorem pj(h0:0<=i)(h1:i<=xs.length):iz xs none (some i)=xs.take i.toNat:=by
 obtain⟨k,rfl⟩:=eq_ofNat_of_zero_le h0;unfold iz;rw[HT.sIx_nat,HT.sIx_none,Nat.min_eq_left (by omega)];rfl
section
variable{way mn sz st v:Int}{S B:LN}(hS:S.length=93)(hB:B.length=12)(sg:∀c∈S,Sg1 c)(bs:∀c∈B,c∈S)(up:S.Pairwise (· < ·))(m0:0<=mn)(m1:mn<sz)(z1:sz<=12)(t0:1<=st)(t1:st<=8)
include hB m0 m1 z1 in
theorem EV{k:Nat}(hk:k<12):1<=(Kr way mn sz st v S B k).length/\(Kr way mn sz st v S B k).length<=12:=by
 unfold Kr;split
 .rw[length_take,hB];omega
 .split
  .simp only[length_append,length_take,length_drop,length_cons,length_nil,hB];omega
  .simp only[length_append,length_take,length_cons,length_nil,hB];omega
include hS sg bs in
theorem Ew{k:Nat}:∀c∈Kr way mn sz st v S B k,Sg1 c:=by
 have s48:Sg1 48:=by unfold Sg1;right
 have sB:∀c∈B,Sg1 c:=λc hc=>sg c (bs c hc);have a0:=emod_nonneg (v+(k:Int)*st) (show(93:Int)≠0 by decide);have a1:=emod_lt_of_pos (v+(k:Int)*st) (show(0:Int)<93 by decide);intro c hc;unfold Kr at hc;split at hc
 .exact sB c (mem_of_mem_take hc)
 .split at hc
  .rcases List.mem_append.mp hc with hc|hc
   .rcases List.mem_append.mp hc with hc|hc
    .exact sB c (mem_of_mem_take hc)
    .rw[List.mem_singleton.mp hc,getD_eq_getElem?_getD,getElem?_eq_getElem (by omega)];exact sg _ (getElem_mem _)
   .exact sB c (mem_of_mem_take (List.mem_of_mem_drop hc))
  .rcases List.mem_append.mp hc with hc|hc
   .exact sB c (mem_of_mem_take hc)
   .rw[List.mem_singleton.mp hc];exact s48
include hS hB up t0 t1 in
theorem mV{i j:Nat}(hij:i<j)(hj:j<12):Kr way mn sz st v S B i≠Kr way mn sz st v S B j:=by
 intro e;unfold Kr at e;split at e
 .have:=congrArg List.length e;rw[length_take,length_take,hB]at this;omega
 .split at e
  .rw[append_assoc,append_assoc]at e;have e2:=(List.cons.injEq ..▸List.append_cancel_left e:_/\_).1;have a0:=emod_nonneg (v+(i:Int)*st) (show(93:Int)≠0 by decide);have a1:=emod_lt_of_pos (v+(i:Int)*st) (show(0:Int)<93 by decide);have b0:=emod_nonneg (v+(j:Int)*st) (show(93:Int)≠0 by decide);have b1:=emod_lt_of_pos (v+(j:Int)*st) (show(0:Int)<93 by decide);have ne:(v+(i:Int)*st)%93≠(v+(j:Int)*st)%93:=by
    obtain⟨d,rfl⟩:∃d:Nat,j=i+d:=⟨j-i,by omega⟩
    have ed:((i+d:Nat):Int)*st=(i:Int)*st+(d:Int)*st:=by rw[Int.natCast_add,Int.add_mul]
    have d1:1*1<=(d:Int)*st:=mul_le_mul (by omega) t0 (by decide) (by omega);have d2:(d:Int)*st<=11*8:=mul_le_mul (by omega) t1 (by omega) (by decide);rw[ed];omega
   generalize(v+(i:Int)*st)%93=a at *;generalize(v+(j:Int)*st)%93=b at *;rw[getD_eq_getElem?_getD,getElem?_eq_getElem (show a.toNat<S.length by omega),getD_eq_getElem?_getD,getElem?_eq_getElem (show b.toNat<S.length by omega)]at e2;have e3:S[a.toNat]'(by omega)=S[b.toNat]'(by omega):=e2;have pw:=List.pairwise_iff_getElem.mp up;rcases Nat.lt_trichotomy a.toNat b.toNat with h|h|h
   .have:=pw a.toNat b.toNat (by omega) (by omega) h;omega
   .omega
   .have:=pw b.toNat a.toNat (by omega) (by omega) h;omega
  .have:=congrArg List.length e;simp only[length_append,length_take,length_cons,length_nil,hB]at this;omega
end
include Z in
theorem YF:Has P w K mg base "_law_near_names" 2 ["_law_cell","_law_many"] (kg K):=by classical
 refine jZ Z.kn Z.bX zi λs H E hr=>⟨_,zA (gZ (i:=2) zi.nd rfl (Or.inr rfl) (zx xk (kH (j9 Z) hr rfl) (zt zK) qm)) (zA (zF 3 zi.nd (pbk K PySem.F.plainAttrs_str PySem.F.slot_str_join PySem.F.type_str_join (jnT K) (zW []) (pa1 (xH (cl:=[("_law_signs",s.heap.objs.size+1+1),("_law_cell",s.heap.objs.size+1+0)]) (fr:=["_law_cell","_law_signs"]) (is:=[0,2]) rfl rfl ⟨rfl,⟨rfl,trivial⟩⟩ rfl ⟨⟨rfl,rfl,Or.inl rfl⟩,⟨⟨rfl,rfl,Or.inl rfl⟩,trivial⟩⟩ (by decide) (by right) rfl (by right) rfl (jW rfl Z.an (sa1 pwi)) (λ_ _ _ _=>xI) (λ_ _ _ _=>zc jY (pv 2) (zE (zN Z :) hr (pa3 (pv 1) (po2 zm pwi (pw 0)) zK))))))) (zA (zF 4 zi.nd (zE (zN Z :) hr (sa3 (pw 0) pwi pwi))) (zA (zF 5 zi.nd (zE (zN Z :) hr (sa3 (pw 0) pwi pwi))) (zA (zF 6 zi.nd (zU zm zK (zE (zN Z :) hr (sa3 (pw 0) pwi pwi)))) (zA (zF 7 zi.nd (zc (ixl K) (ze (zV zK (zV zK (sa4 pwi pwi pwi pwi)))) (zE (zN Z :) hr (sa3 (pw 0) pwi pwi)))) (zA (zF 8 zi.nd (ze ZS)) (zA (kQ PassesOwn.never rfl (jW rfl Z.an (sa1 (pw 1))) (zh 9 zi.nd) (zA (zF 10 zi.nd (zc jY (pv 2) (zU z9 (zU zm (zE (zN Z :) hr (sa3 (pw 0) pwi pwi)) (po2 qt (pw 9) (pw 7))) zK))) (zB (zb (pt2 qD (pw 4) pwi) (zB (qO (pbk K PySem.F.plainAttrs_list PySem.F.slot_list_append PySem.F.type_list_append xE (pv 8) (pa1 (zx xk (pv 3) qm (zt (po2 zm (pw 9) pwi))))))) (zB (zb (pt2 qD (pw 4) pwi) (zB (qO (pbk K PySem.F.plainAttrs_list PySem.F.slot_list_append PySem.F.type_list_append xE (pv 8) (pa1 (zU qA (zU qA (zx xk (pv 3) qm (zt (zL (QA rfl) Z.ar rfl dO (pa2 (pv 5) (po2 jP (pw 6) pwi))))) (pv 10)) (zx xk (pv 3) (zt (zU zm (zL (QA rfl) Z.ar rfl dO (pa2 (pv 5) (po2 jP (pw 6) pwi))) zK)) (zt (pv 6)))))))) (zB (qO (pbk K PySem.F.plainAttrs_list PySem.F.slot_list_append PySem.F.type_list_append xE (pv 8) (pa1 (zU qA (zx xk (pv 3) qm (zt (pv 9))) (zW [48])))))))))))) (zA (zF 11 zi.nd (zE (zN Z :) hr (sa3 (pw 0) pwi (pw 1)))) (zB (zJ (zU xR (zx (sll K) (pv 8) (zt (pv 11)) qm) (zx (sll K) (pv 8) qm (zt (pv 11)))))))))))))),?_⟩
 nofun;rintro _ Q ⟨c,n,rfl,h1,h2,q⟩;symm;left;rename_i l hl al pl bl;have hd:(l.drop (Int.toNat 1)).length=93:=by rw[length_drop,hl];rfl
 have sg1:∀c∈l.drop (Int.toNat 1),Sg1 c:=λc hc=>(al c (List.mem_of_mem_drop hc)).elim (λz=>absurd z (bl c hc)) id;have pd:(l.drop (Int.toNat 1)).Pairwise (· < ·):=List.Pairwise.sublist (List.drop_sublist _ _) pl;generalize l.drop (Int.toNat 1)=S at *;clear al pl bl hl;refine gQ (by decide) (by decide) (qU (by decide)) (λi ys H'=>H'=H/\∃cs:LN,cs.length=i/\(∀c∈cs,c∈S)/\ys=tsV (cs.map λc=>[c])) ⟨rfl,[],rfl,(by intro c h;cases h),rfl⟩ (λi ys H' _ zz=>by obtain⟨_,cs,h,_,e⟩:=zz;rw[e,length_map,length_map];omega) ?_ ?_
 .rintro i ys H' hi ⟨rfl,cs,l1,l2,rfl⟩;left;rename_i h0' h1';refine nxC hi ⟨rfl,cs++[S.getD (pk c (70+(0+(i:Int))) 93).toNat 0],by rw[length_append,l1];rfl,λc hc=>?_,?_⟩
  .rcases List.mem_append.mp hc with hc|hc
   .exact l2 c hc
   .rw[List.mem_singleton.mp hc,getD_eq_getElem?_getD,getElem?_eq_getElem (by omega)];exact getElem_mem _
  .unfold tsV;rw[map_append,map_append];rfl
 .rintro ys H' ⟨rfl,B,l1,l2,rfl⟩ p H2 g2 e2;have lB:B.length=12:=l1;left;refine Z6 e2 (by rw[fl1,length_map];show B.length+B.length*0<=_;omega) ?_;rw[show Lt (T [])=[]from rfl,mO,fl1];left;rename_i w0 w1 a0 a1 z0 z1 p3 H3 g3 e3 s0 s1;refine jF (SqL.of e3) s0 (by show _<(6:Int);omega) λy hy=>?_;have hm:=mem_of_getElem? hy;simp only[mem_cons,not_mem_nil,or_false]at hm;have hx:∃st:Int,y=.int st/\1<=st/\st<=8:=by
   rcases hm with rfl|rfl|rfl|rfl|rfl|rfl
   all_goals exact⟨_,rfl,by decide,by decide⟩
  obtain⟨st,rfl,st1,st2⟩:=hx;clear hm e3 hy;refine me ?_;refine fF (rz (oa (pP (Kj (by decide) λL hL=>?_))));generalize hway:pk c 83 3=way at *;generalize hat:pk c 84 12=at0 at *;generalize hsz:1+pk c 85 12=sz at *;have z2:1<=sz/\sz<=12:=by omega
  obtain⟨mn,hmn⟩:∃mn:Int,mn=if sz-1<at0 then sz-1 else at0:=⟨_,rfl⟩
  have mn0:0<=mn/\mn<sz:=by rw[hmn];split<;>omega
  left;refine Ql (by omega) (by omega) (λi σ H'=>H'=upd H3 L (.lst (tsV ((List.range i).map (Kr way mn sz st (pk c 87 93) S B))))/\∃r1 r2:Option V,σ=[some (.int c),some (.int n),some (.str (T S)),some (.str (T B)),some (.int way),some (.int at0),some (.int sz),some (.int st),some (.ref L),r1,r2,none]) ⟨rfl,none,none,rfl⟩ ?_ ?_
  .rintro i σ H4 hlt ⟨rfl,r1,r2,rfl⟩;have il:(i:Int)<n:=by omega
   have nn:=emod_nonneg (pk c 87 93+(i:Int)*st) (show(93:Int)≠0 by decide);have nn2:=emod_lt_of_pos (pk c 87 93+(i:Int)*st) (show(0:Int)<93 by decide);left
   .rename_i v0 v1 hc;refine y2 zO (qu (by unfold tsV;rw[length_map,length_map,length_range];omega)) ?_;rw[qr];left;refine⟨?_,_,_,rfl⟩;have e:Kr way mn sz st (pk c 87 93) S B i=B.take (0+(i:Int)+1).toNat:=by
     unfold Kr;rw[if_pos hc,show(0+(i:Int)+1).toNat=i+1 by omega]
    rw[range_succ,map_append];unfold tsV;rw[map_append,map_cons,map_cons,map_nil,map_nil,e]
   .rename_i v0 v1 hc hc2 k1 hk1 k2 hk2;refine y2 zO (qu (by unfold tsV;rw[length_map,length_map,length_range];omega)) ?_;rw[qr];left;refine⟨?_,_,_,rfl⟩;have e:Kr way mn sz st (pk c 87 93) S B i=B.take k1.toNat++[S.getD ((pk c 87 93+(0+(i:Int))*st)%93).toNat 0]++(B.take sz.toNat).drop (k2+1).toNat:=by
     unfold Kr;rw[if_neg hc,if_pos hc2,show k1=mn by rw[hmn];split<;>omega,show k2=mn by rw[hmn];split<;>omega,show(0:Int)+(i:Int)=(i:Int)by omega]
    rw[range_succ,map_append];unfold tsV;rw[map_append,map_cons,map_cons,map_nil,map_nil,e]
   .rename_i v0 v1 hc hc2;refine y2 zO (qu (by unfold tsV;rw[length_map,length_map,length_range];omega)) ?_;rw[qr];left;refine⟨?_,_,_,rfl⟩;have e:Kr way mn sz st (pk c 87 93) S B i=B.take (0+(i:Int)).toNat++[48]:=by
     unfold Kr;rw[if_neg hc,if_neg hc2,show(0+(i:Int)).toNat=i by omega]
    rw[range_succ,map_append];unfold tsV;rw[map_append,map_cons,map_cons,map_nil,map_nil,e]
  .rintro σ H4 ⟨rfl,r1,r2,rfl⟩;left;rename_i t0 t1 p5 H5 g5 e5 p6 H6 g6 e6;generalize pk c 88 n=tn at *;have ll:(tsV ((List.range n.toNat).map (Kr way mn sz st (pk c 87 93) S B))).length=n.toNat:=by unfold tsV;rw[length_map,length_map,length_range]
   rw[rh t0 (by omega)]at e5;rw[pj t0 (by omega)]at e6;have okN:Nms ((List.range n.toNat).map (Kr way mn sz st (pk c 87 93) S B)):=by
    refine⟨λt ht=>?_,λt ht=>?_,?_⟩
    .obtain⟨k,hk,rfl⟩:=List.mem_map.mp ht;exact EV lB mn0.1 mn0.2 z2.2 (by have:=List.mem_range.mp hk;omega)
    .obtain⟨k,hk,rfl⟩:=List.mem_map.mp ht;exact Ew hd sg1 l2
    .unfold List.Nodup;rw[List.pairwise_map];refine List.Pairwise.imp_of_mem ?_ List.pairwise_lt_range;intro i j hi hj hij;exact mV hd lB pd st1 st2 hij (by have:=List.mem_range.mp hj;omega)
   have lN:((List.range n.toNat).map (Kr way mn sz st (pk c 87 93) S B)).length=n.toNat:=by rw[length_map,length_range]
   generalize(List.range n.toNat).map (Kr way mn sz st (pk c 87 93) S B)=N at *;have e5':H5 p5=some (.lst (tsV (N.drop tn.toNat))):=by rw[e5];unfold tsV;rw[List.map_drop]
   have e6':H6 p6=some (.lst (tsV (N.take tn.toNat))):=by rw[e6];unfold tsV;rw[List.map_take]
   have gA:zR H3 (upd H3 L (.lst (tsV N))):=zw (zR.refl _) hL;refine tP (g6.at e5') e6' (qU (by unfold tsV;rw[length_map,length_map,length_drop,length_take];omega)) λp7 H7 g7 e7=>?_;have pm:(N.drop tn.toNat++N.take tn.toNat).Perm N:=List.perm_append_comm.trans (by rw[List.take_append_drop]);refine q p7 (N.drop tn.toNat++N.take tn.toNat) H7 (g2.trans (g3.trans (gA.trans (g5.trans (g6.trans g7))))) (by rw[pm.length_eq,lN];omega) ⟨λt ht=>okN.len t (pm.mem_iff.mp ht),λt ht=>okN.sgn t (pm.mem_iff.mp ht),pm.nodup_iff.mpr okN.nd⟩ ?_;rw[e7];unfold tsV;rw[map_append]
theorem Fn{n:Int}(h1:1<=n)(h2:n<=12)(q:∀p ns H',zR H H'->(ns.length:Int)=n->Nms ns->H' p=some (.lst (tsV ns))->Q (.ref p) H'):kg K ([.int c,.int n]++[]) H Q E:=⟨c,n,rfl,h1,h2,q⟩
local macro_rules|`(tactic|walk_at "rdk")=>`(tactic|((with_reducible refine' oS ?h1 ?h2 ?_);(case h1|h2=>omega);intro v' h0' h1'))
def WF(H:Hp)(p L:Addr)(wd:Int)(f:Nat)(x:Str)(st:Bool):Prop:=H p=some (.tup [.str "choice",.ref L,.int wd,.str (T [f]),.str x,.bl st])
structure WdC(wd:Int)(f:Nat)(x:Str):Prop where
 wd1:0<=wd
 wd2:wd<=40
 f:Sgn f
 x:Zd x
def JO(K:W.Frag):Sp:=λvs H Q _=>∃(c o:Int),vs=[.int c,.int o,.int 0]/\∀p L ns H' wd f x st,zR H H'->Nms ns->1<=ns.length->ns.length<=12->WdC wd f x->WF H' p L wd f x st->H' L=some (.lst (tsV ns))->Q (.ref p) H'
include Z in
theorem Ju:Has P w K mg base "_law_choice_spec" 3 ["_law_cell","_law_other","_law_small"] (JO K):=by classical
 refine jZ Z.kn Z.bY qh λs H E hr=>⟨_,zA (zF 3 qh.nd (zE (YF Z :) hr (pa2 (pv 0) (zU zm zK (zE (zN Z :) hr (pa3 (pv 1) zK (zc (ixl K) (ze (sa2 pwi pwi)) (pv 2)))))))) (zA (zF 4 qh.nd (zc (ixl K) (ze (pa3 (zc jY (pii (ixl K) (pw 3)) (Zl xi zK)) (zE (jC Z :) hr (sa2 (pw 1) pwi)) (zW [48]))) (zE (zN Z :) hr (sa3 (pw 1) pwi pwi)))) (zA (zF 5 qh.nd (zc (ixl K) (ze (pa3 zK (zU zm zK (zE (zN Z :) hr (pa3 (pv 1) zK (zc (ixl K) (ze (sa2 pwi pwi)) (pv 2))))) (zU zm (zL za Z.am rfl qE (pa1 (zc (ixl K) (pv 3) (Zl xi zK)))) zK))) (zE (zN Z :) hr (sa3 (pw 1) pwi pwi)))) (zA (zF 6 qh.nd (zc (ixl K) (ze (sa3 pws pws pws)) (zE (zN Z :) hr (sa3 (pw 1) pwi pwi)))) (zB (zJ (zY (zV (zW [99,104,111,105,99,101]) (zV (pv 3) (pa4 (pv 5) (pv 4) (pv 6) (jT qD (zE (zN Z :) hr (sa3 (pw 1) pwi pwi)) zK)))))))))),?_⟩
 nofun;rintro _ Q ⟨c,o,rfl,q⟩;symm;left;rename_i p1 H1 g1 e1 v1 a0 a1;refine Fn (by omega) (by omega) λL ns H2 g2 l2 ok e2=>?_;have n1:1<=ns.length:=by omega
 have n12:ns.length<=12:=by omega
 have m0:ns.getD 0 []∈ns:=by rw[getD_eq_getElem?_getD,getElem?_eq_getElem (by omega)];exact getElem_mem _
 have mL:ns.getD (ns.length-1) []∈ns:=by rw[getD_eq_getElem?_getD,getElem?_eq_getElem (by omega)];exact getElem_mem _
 have k0:=ok.len _ m0;have kL:=ok.len _ mL;have tl:(tsV ns).length=ns.length:=length_map _;left;have sL:Sgn ((ns.getD 0 []).getD ((ns.getD 0 []).length-1) 0):=.inr (ok.sgn _ m0 _ (by rw[getD_eq_getElem?_getD (l:=ns.getD 0 []),getElem?_eq_getElem (by omega)];exact getElem_mem _));left;rename_i c5 s5 p3 H3 g3 e3 v3 b0 b1;refine jF (SqL.of e3) b0 (by show _<(3:Int);omega) λy hy=>?_;have hm:=mem_of_getElem? hy;simp only[mem_cons,not_mem_nil,or_false]at hm;have hx:∃f:Nat,y=.str (T [f])/\Sgn f:=by
  rcases hm with rfl|rfl|rfl
  .exact⟨_,rfl,sL⟩
  .exact⟨_,rfl,s5⟩
  .exact⟨_,rfl,.inr (by right)⟩
 obtain⟨f,rfl,sf⟩:=hx;clear hm e3 hy;have e2':=g3.at e2;left;rename_i p4 H4 g4 e4 v4 d0 d1 p5 H5 g5 e5 v5 f0 f1;refine jF (SqL.of e5) f0 (by show _<(3:Int);omega) λy hy=>?_;have hm:=mem_of_getElem? hy;simp only[mem_cons,not_mem_nil,or_false]at hm;have hx:∃wd:Int,y=.int wd/\0<=wd/\wd<=40:=by
  rcases hm with rfl|rfl|rfl
  .exact⟨_,rfl,by omega,by omega⟩
  .exact⟨_,rfl,by omega,by omega⟩
  .exact⟨_,rfl,by omega,by omega⟩
 obtain⟨wd,rfl,w0,w1⟩:=hx;clear hm e5 hy;left;rename_i p6 H6 g6 e6 v6 h0 h1;refine jF (SqL.of e6) h0 (by show _<(3:Int);omega) λy hy=>?_;have hm:=mem_of_getElem? hy;simp only[mem_cons,not_mem_nil,or_false]at hm;have hx:∃y':Str,y=.str y'/\Zd y':=by
  rcases hm with rfl|rfl|rfl
  .exact⟨_,rfl,.inl rfl⟩
  .exact⟨_,rfl,.inr (.inl rfl)⟩
  .exact⟨_,rfl,.inr (.inr rfl)⟩
 obtain⟨y',rfl,hy'⟩:=hx;clear hm e6 hy;left;rename_i v7 i0 i1 p7 H7 g7 e7;exact q _ L ns _ wd f y' _ (by k_extra "sm") ok n1 n12 ⟨w0,w1,sf,hy'⟩ e7 (g7.at (g6.at (g5.at (g4.at e2'))))
theorem oZ{pt:Nat}(h2:2<=b)(hs:yj sn):((xN pl b sn z m pt 0).length:Int)=1+(if 0<pl then pl+1 else 0)+(if sn="plus"\/sn="blank" then 1 else 0):=by
 have f0:yh b.toNat 0=[48]:=by rw[jL (by omega)];rfl
 have d0:dgs b.toNat pl.toNat 0=List.replicate pl.toNat 48++[48]:=by unfold dgs;rw[f0];rfl
 have dl:(dgs b.toNat pl.toNat 0).length=pl.toNat+1:=by rw[d0];simp
 have w0:whl b.toNat pl.toNat 0=[48]:=by
  unfold whl;rw[dl,show pl.toNat+1-pl.toNat=1 by omega,d0];cases pl.toNat with
  |zero=>rfl
  |succ n=>rw[List.replicate_succ];rfl
 have r0:(rst b.toNat pl.toNat 0).length=pl.toNat:=by unfold rst;rw[length_drop,dl];omega
 have g0:gr z.toNat m [48]=[48]:=by
  unfold gr;rcases eq_zero_or_pos z.toNat with h|h
  .rw[h,XI];rfl
  .rw[y7 (show([48]:LN).reverse.length<=z.toNat from h)];rfl
 have bl:((bdI 0 b pl pt z m).length:Int)=1+(if 0<pl then pl+1 else 0):=by
  unfold bdI bdy;rw[show(0:Int).toNat=0 from rfl,w0,g0];by_cases h:0<pl
  .rw[if_neg (by omega),if_pos h,length_append,length_append,r0];show(((1+1+pl.toNat:Nat)):Int)=_;omega
  .rw[if_pos (by omega),if_neg h];rfl
 have sl:(((stL sn false).length:Nat):Int)+((stT sn false).length:Nat)=(if sn="plus"\/sn="blank" then 1 else 0):=by
  rcases hs with rfl|rfl|rfl|rfl|rfl<;>right
 have e:xN pl b sn z m pt 0=stL sn false++bdI 0 b pl pt z m++stT sn false:=rfl;rw[e,length_append,length_append,Int.natCast_add,Int.natCast_add,bl,<- sl];generalize(if 0<pl then pl+1 else 0)=X;omega
def Wi(pl:Int)(sn:Str):Int:=1+(if 0<pl then pl+1 else 0)+(if sn="plus"\/sn="blank" then 1 else 0)
def Va(K:W.Frag):Sp:=λvs H Q _=>(∃(p:Addr)(fg pl b:Int)(sn:Str)(z:Int)(m pt:Nat)(wy:Str)(wd:Int)(f:Nat)(x:Str)(st:Bool),vs=[.ref p]/\Qj H p fg pl b sn z m pt wy wd f x st/\QY fg pl b sn z m pt wy wd f x/\∀H',zR H H'->Q (.int (Wi pl sn)) H') \/
 (∃(p:Addr)(sg:LN)(lo hi wd:Int)(f:Nat)(x:Str)(st:Bool),vs=[.ref p]/\YC H p sg lo hi wd f x st/\Q (.int lo) H) \/
 (∃(p L:Addr)(ns:LL)(wd:Int)(f:Nat)(x:Str)(st:Bool),vs=[.ref p]/\WF H p L wd f x st/\H L=some (.lst (tsV ns))/\1<=ns.length/\ns.length<=12/\(∀t∈ns,t.length<=12)/\∀(k:Int)(H':Hp),zR H H'->(∃t∈ns,(t.length:Int)=k)->Q (.int k) H')
open PyProof.Rows in
theorem dJ(f:Nat->Int):∀k,argBest (λi j=>decide (f i<f j)) k<=k/\∀i,i<=k->f (argBest (λi j=>decide (f i<f j)) k)<=f i
 |0=>⟨Nat.le_refl _,λi hi=>by rw[show i=0 by omega];exact Int.le_refl _⟩
 |k+1=>by
  obtain⟨h1,h2⟩:=dJ f k;rw[argBest];split
  .rename_i hc;have hc':=of_decide_eq_true hc;refine⟨Nat.le_refl _,λi hi=>?_⟩;rcases lt_or_ge i (k+1)with q|q
   .have:=h2 i (by omega);omega
   .rw[show i=k+1 by omega];exact Int.le_refl _
  .rename_i hc;have hc':=λq=>hc (decide_eq_true q);refine⟨by omega,λi hi=>?_⟩;rcases lt_or_ge i (k+1)with q|q
   .exact h2 i (by omega)
   .rw[show i=k+1 by omega];exact Int.not_lt.mp hc'
theorem Y9:∀{ks:List Int}{its:List Value},qP (ks.map V.int) its->∀i v,its[i]?=some v->∃t,v=Value.int (ks.getD i 0) t
 |[],_,.nil,i,v,e=>by simp at e
 |_::_,_,.cons r rr,0,v,e=>by
  obtain⟨t,rfl⟩:=r;simp at e;exact⟨t,e.symm⟩
 |_::ks,_,.cons r rr,i+1,v,e=>by
  have e':_=some v:=e;rw[List.getElem?_cons_succ]at e';obtain⟨t,h⟩:=Y9 rr i v e';exact⟨t,by rw[List.getD_cons_succ];exact h⟩
def Gm(K:W.Frag):List V->Hp->VK->Prop:=λxs H Q=>∃p ks,xs=[.ref p]/\SqL K H p (ks.map V.int)/\ks≠[]/\∀k,k∈ks->(∀u∈ks,k<=u)->Q (.int k) H
open PyProof.Rows in
theorem lY(hc:X.calm=true):xa X (.builtin "min") (Gm X.K):=by
 intro pins s σ H xs us Q I r h;obtain⟨pp,ks,rfl,hq,hne,q⟩:=h;obtain⟨u,rfl,rx⟩:=YK r;cases rx;obtain⟨its,rv,pl,hz⟩:=I.list hq;have ln:its.length=ks.length:=by have:=rv.length;rw[length_map]at this;omega
 have pos0:0<ks.length:=List.length_pos_iff.mpr hne;refine call_min_walk (wpAny_pyIter_list pl.isList ?_);have nI:pp≠s.heap.objs.size:=λe=>by
  obtain⟨o,n,g,_⟩:=pl;have:=Heap.lt_size g;rw[e]at this;exact Nat.lt_irrefl _ this
 have W:=fh (P':=λi v=>∃t,v=Value.int (ks.getD i 0) t) (Walks.list (prog:=X.prog) (w:=X.w) (A:=X.A.in1) (I.ok.hd hc) s.heap.objs.size pp nI its.toArray) (λi v e=>Y9 rv i v (by rw[<- List.getElem?_toArray];exact e));have szs:its.toArray.size=ks.length:=by simp[ln]
 refine⟨_,_,_,_,_,_,λi j=>decide (ks.getD i 0<ks.getD j 0),rfl,W,⟨⟨_,Heap.get?_push_size _ rfl,rfl,rfl⟩,?_⟩,λb hb=>?_,by rw[szs];exact pos0,CmpOf.ints_lt (λi=>ks.getD i 0) (λ_ _ z=>z),λv h' tk pv keep=>?_⟩
 .obtain⟨o,n,g,r⟩:=pl.isList;exact⟨o,Heap.get?_push_of_some _ n,g,r⟩
 .have lt:b<s.heap.objs.size+1:=by
   rcases List.mem_cons.mp hb with e|e
   .rw[e];exact Nat.lt_succ_self _
   .rw[List.mem_singleton.mp e];obtain⟨o,g,_⟩:=pl.isList;exact Nat.lt_succ_of_lt (Heap.lt_size g)
  exact Nat.lt_of_lt_of_le lt (Nat.le_of_eq (Array.size_push _).symm)
 .obtain⟨t,rfl⟩:=pv;obtain⟨c1,c2⟩:=dJ (λi=>ks.getD i 0) (its.toArray.size-1);generalize argBest (λi j=>decide (ks.getD i 0<ks.getD j 0)) (its.toArray.size-1)=i at c1 c2 ⊢;have il:i<ks.length:=by omega
  have mem:ks.getD i 0∈ks:=by rw[getD_eq_getElem?_getD,getElem?_eq_getElem il];exact getElem_mem il
  refine⟨.int (ks.getD i 0),H,I.kept (t':=tk) (λb o e=>keep b o (λm=>?_) (Heap.get?_push_of_some _ e)),⟨t,rfl⟩,q _ mem λu hu=>?_⟩
  .rw[List.mem_singleton.mp m]at e;exact Nat.lt_irrefl _ (Heap.lt_size e)
  .obtain⟨k,hk,rfl⟩:=List.mem_iff_getElem.mp hu;have:=c2 k (by omega);rw[show ks.getD k 0=ks[k]by rw[getD_eq_getElem?_getD,getElem?_eq_getElem hk];rfl]at this;exact this
include Z in
theorem Vq:Has P w K mg base "_law_shortest" 1 ["_law_spec"] (Va K):=by classical
 refine u4 Z.kn Z.bZ (l1N (by intros;rfl)) λfq fd F=>?_;refine F.ok VC (λvs H Q E h=>?_) (λ_ _ _ s H vs Q E hr h=>?_)
 .obtain⟨p,fg,pl,b,sn,z,m,pt,wy,wd,f,x,st,rfl,hp,ok,q⟩|⟨p,sg,lo,hi,wd,f,x,st,rfl,hp,q⟩|⟨p,L,ns,wd,f,x,st,rfl,hp,hL,n1,n12,nl,q⟩:=h
  all_goals rfl
 refine⟨_,zA (zb (zX qD (pii (ixt K) (pw 0)) (zW [110,117,109,98,101,114])) (zB (zJ (zU zm (zU zm zK (zU qt (zU zm (pii (ixt K) (pw 0)) zK) (zo yE rfl Z.au Yt (pa1 (jT kz (pii (ixt K) (pw 0)) zK))))) (zo yE rfl Z.au Yt (pa1 (ki YW (pii (ixt K) (pw 0)) (zY (sa2 pws (pwl [98,108,97,110,107]))) (by with_unfolding_all rfl))))))) zM) (zA (zb (zX qD (pii (ixt K) (pw 0)) (zW [119,111,114,100])) (zB (zJ (pii (ixt K) (pw 0)))) zM) (zB (zJ (zL (lY rfl) Z.ar rfl dO (pa1 (xH (cl:=[]) (fr:=[]) (is:=[]) rfl rfl trivial rfl trivial (by decide) (by right) rfl (by right) rfl (pil K (pii (ixt K) (pw 0))) (λ_ _ _ _=>xI) (λ_ _ _ _=>zL za Z.am rfl qE (sa1 (pw 0))))))))),?_⟩;k_extra "hz";obtain⟨p,fg,pl,b,sn,z,m,pt,wy,wd,f,x,st,rfl,hp,ok,q⟩|⟨p,sg,lo,hi,wd,f,x,st,rfl,hp,q⟩|⟨p,L,ns,wd,f,x,st,rfl,hp,hL,n1,n12,nl,q⟩:=h
 all_goals symm
 .unfold Qj at hp;have o3:=ok.pl1;have o4:=ok.pl2;unfold Wi at q;have iv:∀{p':Addr}{H':Hp}{Q':VK},H' p'=some (.tup [.str "plus",.str "blank"])->Q' (.bl (decide (sn="plus"\/sn="blank"))) H'->rIn K false (.str sn) (.ref p') H' Q':=λ{p' H' Q'}e k=>by
   refine⟨p',_,rfl,.inr (SqT.of e),rfl,by right,?_⟩;rcases ok.sn with rfl|rfl|rfl|rfl|rfl
   .rw[show(if false=true then !inV (.str "minus") [.str "plus",.str "blank"]else inV (.str "minus") [.str "plus",.str "blank"])=decide (("minus":Str)= "plus"\/("minus":Str)= "blank")from by right];exact k
   .rw[show(if false=true then !inV (.str "plus") [.str "plus",.str "blank"]else inV (.str "plus") [.str "plus",.str "blank"])=decide (("plus":Str)= "plus"\/("plus":Str)= "blank")from by right];exact k
   .rw[show(if false=true then !inV (.str "blank") [.str "plus",.str "blank"]else inV (.str "blank") [.str "plus",.str "blank"])=decide (("blank":Str)= "plus"\/("blank":Str)= "blank")from by right];exact k
   .rw[show(if false=true then !inV (.str "brackets") [.str "plus",.str "blank"]else inV (.str "brackets") [.str "plus",.str "blank"])=decide (("brackets":Str)= "plus"\/("brackets":Str)= "blank")from by right];exact k
   .rw[show(if false=true then !inV (.str "behind") [.str "plus",.str "blank"]else inV (.str "behind") [.str "plus",.str "blank"])=decide (("behind":Str)= "plus"\/("behind":Str)= "blank")from by right];exact k
  left
  .rename_i hc p1 H1 g1 e1;have q':=q _ g1;refine iv e1 ?_;left
   .rename_i hs;rw[if_pos hc,if_pos hs]at q';rw[Int.mul_one];exact q'
   .rename_i hs;rw[if_pos hc,if_neg hs]at q';rw[Int.mul_one];exact q'
  .rename_i hc p1 H1 g1 e1;have q':=q _ g1;refine iv e1 ?_;left
   .rename_i hs;rw[if_neg hc,if_pos hs]at q';rw[Int.mul_zero];exact q'
   .rename_i hs;rw[if_neg hc,if_neg hs]at q';rw[Int.mul_zero];exact q'
 .unfold YC at hp;left;exact q
 .unfold WF at hp;left;have tl:(tsV ns).length=ns.length:=length_map _;refine WI (SqL.of hL) (qU (by omega)) (λi ys H'=>H'=H/\ys=(((ns.take i).map λt=>(t.length:Int)).map V.int)) ⟨rfl,rfl⟩ (λi ys H' _ h=>⟨by rw[h.1];exact SqL.of hL,by rw[h.2,length_map,length_map,length_take];omega⟩) ?_ ?_
  .rintro i y ys H' hy hi ⟨rfl,rfl⟩;have il:i<ns.length:=by omega
   have ey:y=.str (T ns[i]):=by
    unfold tsV at hy;rw[getElem?_map,getElem?_eq_getElem il]at hy;exact(Option.some.inj hy).symm
   subst ey;have tn:=nl _ (getElem_mem il);left;refine nxC hi ⟨rfl,?_⟩;rw[List.take_succ_eq_append_getElem il,map_append,map_append];rfl
  .rintro ys H1 ⟨rfl,rfl⟩ p2 H2 g2 e2;rw[tl,take_length]at e2;left;refine⟨p2,ns.map λt=>(t.length:Int),rfl,SqL.of e2,(by intro h;rw[List.map_eq_nil_iff]at h;rw[h]at n1;simp at n1),λk hk _=>?_⟩;obtain⟨t,ht,rfl⟩:=List.mem_map.mp hk;exact q _ _ g2 ⟨t,ht,rfl⟩
theorem Gz{st:Stmt}{ps:List Str}{k:Nat}{sp:Sp}(z:Kn K mg)(d:Dfx K x st)(hb:∀us:List Value,us.length=ps.length->∀(kV doc pm:Value)(an:Option Addr)(cdv ct:Value),bindArgs (W.fnOf x x (qM st) (zp st) (zC st) .none kV doc pm an cdv ct) ⟨us,[]⟩=pure (ps.zip us))
  (ok:∀fq fd,Fun K x x st fq fd->WB P w K mg base CX0 k fq fd ps sp):GU P w K mg base x k ps sp:=by
 obtain⟨h,X,G⟩:=z;obtain⟨f,_,_,_,_,_,_,_,_,_,a,l,c,k'⟩:=d;have F:=mB l c k';exact⟨f,_,ok _ _ F,W.mg_of X G a,k',F.binds λ_ _ _ _ _ _ us hl=>hb us hl _ _ _ _ _ _⟩
def rUp:V->List V->Hp->VK->Prop:=λx xs H Q=>∃z:Str,x=.str z/\xs=[]/\Builtin.Str.tooLong (Txt.upper z).length=false/\Q (.str (Txt.upper z)) H
theorem pI:MtR X "str.upper" rUp:=by
 intro pins s σ H x xs v us Q I rx rv h;obtain⟨z,rfl,rfl,hz,q⟩:=h;obtain⟨t,rfl⟩:=rx;cases rv;exact SC.upper hz ⟨.str _,H,I.tok _,⟨_,rfl⟩,q⟩
def VI(K:W.Frag):Sp:=λvs H Q _=>vs=[]/\∀p p1 p2 p3 p4 H',zR H H'->H' p=some (.lst [.ref p1,.ref p2,.ref p3,.ref p4])->H' p1=some (.tup [.str "lower",.str AU])->H' p2=some (.tup [.str "upper",.str tK])->H' p3=some (.tup [.str "figures",.str uW])->H' p4=some (.tup [.str "all",.str Ve])->Q (.ref p) H'
local macro_rules|`(tactic|walk_at "rdk")=>`(tactic|(with_reducible refine rN ?_))
include Z in
theorem KU:Has P w K mg base "_law_sets" 2 [] (VI K):=by
 refine jZ Z.kn Z.b0 YX λs H E hr=>⟨_,zA (zF 0 YX.nd qi) (zB (zJ (ze (pa4 (zY (sa2 pws (pw 0))) (zY (pa2 qi (u8 PySem.F.plainAttrs_str PySem.F.slot_str_upper PySem.F.type_str_upper pI (pv 0)))) (zY (sa2 pws pws)) (zY (pa2 qi (zx xk (kH (j9 Z) hr rfl) (zt zK) qm))))))),?_⟩
 nofun;rintro _ Q ⟨rfl,q⟩;symm;left;rename_i p1 H1 g1 e1;refine⟨_,rfl,rfl,by right,?_⟩;rw[show Txt.upper "abcdefghijklmnopqrstuvwxyz"=tK from by right];left;rename_i p2 H2 g2 e2 p3 H3 g3 e3 p4 H4 g4 e4 p5 H5 g5 e5;have e4':H4 p4=some (.tup [.str "all",.str Ve]):=by
  rw[e4];show some (HO.tup [.str "all",.str (T (Lt Ve))])=_;rw[XR]
 exact q p5 p1 p2 p3 p4 H5 (g1.trans (g2.trans (g3.trans (g4.trans g5)))) e5 (g5.at (g4.at (g3.at (g2.at e1)))) (g5.at (g4.at (g3.at e2))) (g5.at (g4.at e3)) (g5.at e4')
theorem tm(q:∀p p1 p2 p3 p4 H',zR H H'->H' p=some (.lst [.ref p1,.ref p2,.ref p3,.ref p4])->H' p1=some (.tup [.str "lower",.str AU])->H' p2=some (.tup [.str "upper",.str tK])->H' p3=some (.tup [.str "figures",.str uW])->H' p4=some (.tup [.str "all",.str Ve])->Q (.ref p) H'):VI K ([]++[]) H Q E:=⟨rfl,q⟩
def swd(rs:LN):LN:=if rs=Lt AU then Lt "lower" else if rs=Lt tK then Lt "upper" else if rs=Lt uW then Lt "figures" else if rs=Lt Ve then Lt "all" else 61::rs
theorem Kh{n v:Str}(h:X7 n v):swd (Lt v)=Lt n:=by
 rcases h with⟨rfl,rfl⟩|⟨rfl,rfl⟩|⟨rfl,rfl⟩|⟨rfl,rfl⟩<;>right
theorem Kl(h:∀n v,X7 n v->rs≠Lt v):swd rs=61::rs:=by
 unfold swd;rw[if_neg (h "lower" _ (.inl ⟨rfl,rfl⟩)),if_neg (h "upper" _ (.inr (.inl ⟨rfl,rfl⟩))),if_neg (h "figures" _ (.inr (.inr (.inl ⟨rfl,rfl⟩)))),if_neg (h "all" _ (.inr (.inr (.inr ⟨rfl,rfl⟩))))]
def KAt(j:Nat)(n v:Str):Prop:=(j=0/\n="lower"/\v=AU)\/(j=1/\n="upper"/\v=tK)\/(j=2/\n="figures"/\v=uW)\/(j=3/\n="all"/\v=Ve)
def Jm(K:W.Frag):Sp:=λvs H Q _=>∃(sg:LN)(b:Int),vs=[.str (T sg),.int b]/\sg.length<=200/\1<=(wo 32 sg).length/\Ris (wo 32 sg)/\∀w H',zR H H'->SgW w (wo 32 sg)->(b%2=0->w=swd (wo 32 sg))->Q (.str (T w)) H'
include Z in
theorem X2:GU P w K mg base "_law_signs_word" 3 ["_law_signs","_law_bits"] (Jm K):=by classical
 refine Gz Z.kn Z.b1 (l2N (by intros;rfl)) λfq fd F=>?_;refine F.okp jO (λvs H Q E=>?_) (λ_ _ _ s H vs Q E hr h=>?_)
 .k_extra "ln"
 obtain⟨sg,b,rfl,h1,h2,hris,q⟩:=h;refine⟨_,mJ (CL (i:=2) jO.nd rfl (Or.inl rfl) (mR (c:=32) rfl rfl (pv 0))) (zA (kQ PassesOwn.never rfl (pil K (kH (KU Z) hr rfl)) (pgt K rfl (qL (zh 3 jO.nd) (qL (zh 4 jO.nd) J5))) (zB (zb (PW.pt (QP (pt2 qD (pw 4) (pw 2)) (y9 (zX qD (po2 z9 (pw 1) pwi) zK)))) (zB (zJ (pv 3))) zM))) (zB (zJ (po2 qA (pwl [61]) (pw 2))))),?_⟩;symm;have l2:(wo 32 sg).length<=200:=le_trans (length_filter_le _ _) h1;left;refine(show Ey 0 _ _ _ from BL rfl ⟨sg,rfl,by omega,?_⟩);generalize wo 32 sg=rs at *;left;refine tm λp p1 p2 p3 p4 H1 g1 e0 e1 e2 e3 e4=>?_;have fin:∀n v:Str,X7 n v->v=T rs->Q (.str n) H1:=λn v hk hv=>by
  have:=q (Lt n) H1 g1 (.inl ⟨n,v,hk,rfl,by rw[hv,YN]⟩) (λ_=>by rw[show rs=Lt v by rw[hv,YN],Kh hk]);rw[XR]at this;exact this
 left;refine ls (SqL.of e0) (λi σ H'=>H'=H1/\(∀j<i,∀n v,KAt j n v->b%2=0->rs≠Lt v)/\∃r3 r4:Option V,σ=[some (.str (T sg)),some (.int b),some (.str (T rs)),r3,r4]) ⟨rfl,(λj hj=>absurd hj (Nat.not_lt_zero _)),none,none,rfl⟩ (λi σ H' _ h=>by rw[h.1];exact SqL.of e0) ?_ ?_
 .rintro i y σ H2 hy ⟨rfl,nj,r3,r4,rfl⟩;have hx:∃(pp:Addr)(n v:Str),y=.ref pp/\X7 n v/\KAt i n v/\H2 pp=some (.tup [.str n,.str v]):=by
   match i,hy with
   |0,hy=>cases hy;exact⟨_,_,_,rfl,.inl ⟨rfl,rfl⟩,.inl ⟨rfl,rfl,rfl⟩,e1⟩
   |1,hy=>cases hy;exact⟨_,_,_,rfl,.inr (.inl ⟨rfl,rfl⟩),.inr (.inl ⟨rfl,rfl,rfl⟩),e2⟩
   |2,hy=>cases hy;exact⟨_,_,_,rfl,.inr (.inr (.inl ⟨rfl,rfl⟩)),.inr (.inr (.inl ⟨rfl,rfl,rfl⟩)),e3⟩
   |3,hy=>cases hy;exact⟨_,_,_,rfl,.inr (.inr (.inr ⟨rfl,rfl⟩)),.inr (.inr (.inr ⟨rfl,rfl,rfl⟩)),e4⟩
   |(k+4),hy=>cases hy
  obtain⟨pp,n,v,rfl,hk,ha,ep⟩:=hx;clear hy e1 e2 e3 e4 e0;have step:(b%2=0->¬rs=Lt v)->∀j<i+1,∀n v,KAt j n v->b%2=0->rs≠Lt v:=λh j hj n' v' ha' hb=>by
   rcases lt_or_ge j i with hlt|hge
   .exact nj j hlt n' v' ha' hb
   .have:j=i:=by omega
    subst this;have:v'=v:=by
     rcases ha with⟨h1,_,rfl⟩|⟨h1,_,rfl⟩|⟨h1,_,rfl⟩|⟨h1,_,rfl⟩<;>rcases ha' with⟨h2,_,rfl⟩|⟨h2,_,rfl⟩|⟨h2,_,rfl⟩|⟨h2,_,rfl⟩<;>first|rfl|omega
    rw[this];exact h hb
  left
  .rename_i c1 c2;exact fin n v hk c1
  .rename_i c1 c2;exact⟨rfl,step λh _=>c2 h,_,_,rfl⟩
  .rename_i c1;exact⟨rfl,step λ_ h=>c1 (by rw[h,XR]),_,_,rfl⟩
 .rintro σ H2 ⟨rfl,nj,r3,r4,rfl⟩;left;refine q (61::rs) _ g1 (.inr ⟨rfl,h2,l2,hris⟩) λhb=>(Kl λn v hk=>?_).symm;rcases hk with⟨h3,h4⟩|⟨h3,h4⟩|⟨h3,h4⟩|⟨h3,h4⟩
  .exact nj 0 (by show 0<4;decide) n v (.inl ⟨rfl,h3,h4⟩) hb
  .exact nj 1 (by show 1<4;decide) n v (.inr (.inl ⟨rfl,h3,h4⟩)) hb
  .exact nj 2 (by show 2<4;decide) n v (.inr (.inr (.inl ⟨rfl,h3,h4⟩))) hb
  .exact nj 3 (by show 3<4;decide) n v (.inr (.inr (.inr ⟨rfl,h3,h4⟩))) hb
local macro_rules|`(tactic|walk_at "rdq")=>`(tactic|repeat ((fail_if_success (with_reducible refine fF ?_));walk_at "rd1"))
theorem Vv{a:Addr}{lo hi:Option Int}(h:H a=some (.tup xs))(hn:xs.length=n)(hw:¬(HT.sIx n 0 lo=0/\HT.sIx n n hi=n))(q:∀p H',zR H H'->H' p=some (.tup (iz xs lo hi))->Q (.ref p) H'):Gj K (.ref a) lo hi H Q:=⟨a,xs,rfl,SqT.of h,by rw[hn];exact hw,λp hp=>q p _ (qz hp _) zO⟩
theorem oM{a b:Addr}{x y:V}{ys:List V}(h1:H a=some (.tup (x::xs)))(h2:H b=some (.tup (y::ys)))(hz:xs.length+ys.length<=900)(q:∀p H',zR H H'->H' p=some (.tup (x::xs++y::ys))->Q (.ref p) H'):ix K (.ref a) (.ref b) H Q:=
 ⟨a,b,_,_,rfl,rfl,SqT.of h1,SqT.of h2,(by intro h;cases h),qU (by rw[length_cons,length_cons];omega),(λh=>by cases h),λ_ p n=>q p _ (zw (zR.refl _) n) zO⟩
theorem AV{c:Nat}(h:Sgn c):32<=c:=by
 rcases h with rfl|h
 .decide
 .exact(show ∀c∈Lt Ve,32<=c by right) c h
theorem DV{sg:LN}(h:SgD sg)(n:sg≠[32]):1<=(wo 32 sg).length:=by
 match sg,h,n with
 |[],h,_=>exact absurd h.s1 (by decide)
 |[c],h,n=>
  have hc:c≠32:=λe=>n (by rw[e]);exact List.length_pos_of_mem (a:=c) (List.mem_filter.mpr ⟨mem_cons_self ..,by simpa using hc⟩)
 |c::d::r,h,_=>
  have hc:=AV (h.sgn c (mem_cons_self ..));have lt:c<d:=(List.pairwise_cons.mp h.up).1 d (mem_cons_self ..);have hd:d≠32:=by omega
  exact List.length_pos_of_mem (a:=d) (List.mem_filter.mpr ⟨mem_cons_of_mem _ (mem_cons_self ..),by simpa using hd⟩)
structure SgE(sg:LN):Prop where
 d:SgD sg
 ne:1<=(wo 32 sg).length
def SgB(l:LN):Prop:=(1<=l.length/\l.length<=200)/\l.Pairwise (· < ·)/\(∀c∈l,c=32\/c∈Lt Ve)/\1<=(wo 32 l).length
instance(l:LN):Decidable (SgB l):=by unfold SgB;infer_instance
theorem SgB.e{l:LN}(h:SgB l):SgE l:=⟨⟨h.1.1,h.1.2,h.2.1,h.2.2.1⟩,h.2.2.2⟩
theorem Dq{n v:Str}(h:X7 n v)(h0:0<=k)(h1:k<2):SgE (List.replicate k.toNat 32++Lt v):=by
 have hk:k.toNat=0\/k.toNat=1:=by omega
 rcases hk with e|e<;>rw[e]<;>refine SgB.e ?_<;>rcases h with⟨_,rfl⟩|⟨_,rfl⟩|⟨_,rfl⟩|⟨_,rfl⟩<;>right
def Cl(bits:Int)(c:Bool)(e:Prop):Prop:=(c=false->e)/\(bits=0->c=true->¬e)
def WN(fg pl b:Int)(sn:Str)(z:Int)(m pt:Nat)(wy:Str)(bits:Int)(ws:LL):Prop:=∃cb cg cp cw,Cl bits cb (b=10)/\Cl bits cg (sn="minus")/\Cl bits cp (pt=46)/\Cl bits cw (wy="near")/\ws=jH::dw fg::dw pl::Yw b cb (Jo sn cg (jl z m (yH pt cp (dn wy cw []))))
def WW(sg:LN)(lo hi:Int)(bits:Int)(ws:LL):Prop:=∃w,SgW w (wo 32 sg)/\(bits=0->w=swd (wo 32 sg))/\ws=JF::w::dw lo::dw hi::opt (decide (32∈sg)) [J8]
def WC(ns:LL)(bits:Int)(ws:LL):Prop:=ws=yD::dw ns.length::ns
def Ih(H:Hp)(p:Addr)(wd:Int)(f:Nat)(x:Str)(st:Bool)(W:Int->LL->Prop)(d:Str):Prop:=∃(fg pl b:Int)(sn:Str)(z:Int)(m pt:Nat)(wy:Str),Qj H p fg pl b sn z m pt wy wd f x st/\QY fg pl b sn z m pt wy wd f x/\Sg3 m pt f/\(st=true->Wi pl sn<=wd)/\W=WN fg pl b sn z m pt wy/\d="right"
def Iq(H:Hp)(p:Addr)(wd:Int)(f:Nat)(x:Str)(st:Bool)(W:Int->LL->Prop)(d:Str):Prop:=∃(sg:LN)(lo hi:Int),YC H p sg lo hi wd f x st/\SgE sg/\WdR lo hi wd f x/\(st=true->lo<=wd)/\W=WW sg lo hi/\d="left"
def IE(H:Hp)(p:Addr)(wd:Int)(f:Nat)(x:Str)(st:Bool)(W:Int->LL->Prop)(d:Str):Prop:=∃(L:Addr)(ns:LL),WF H p L wd f x st/\H L=some (.lst (tsV ns))/\Nms ns/\1<=ns.length/\ns.length<=12/\WdC wd f x/\(st=true->∃t∈ns,(t.length:Int)<=wd)/\W=WC ns/\d="left"
def SpA(H:Hp)(p:Addr)(wd:Int)(f:Nat)(x:Str)(st:Bool)(W:Int->LL->Prop)(d:Str):Prop:=Ih H p wd f x st W d\/Iq H p wd f x st W d\/IE H p wd f x st W d
theorem SpA.same{W:Int->LL->Prop}{d:Str}(g:zR H H')(h:SpA H p wd f x st W d):SpA H' p wd f x st W d:=by
 rcases h with⟨fg,pl,b,sn,z,m,pt,wy,a,r⟩|⟨sg,lo,hi,a,r⟩|⟨L,ns,a,b,r⟩
 .exact .inl ⟨fg,pl,b,sn,z,m,pt,wy,g.at a,r⟩
 .exact .inr (.inl ⟨sg,lo,hi,g.at a,r⟩)
 .exact .inr (.inr ⟨L,ns,g.at a,g.at b,r⟩)
def YY(K:PySem.W.Frag):Sp:=λvs H Q _=>∃(c o k:Int),vs=[.int c,.int o,.int k]/\0<=k/\k<3/\∀p H' wd f x st W d,zR H H'->SpA H' p wd f x st W d->Q (.ref p) H'
include Z in
theorem Vn:Has P w K mg base "_law_any_spec" 4 ["_law_cell","_law_other","_law_sort"] (YY K):=by classical
 refine jZ Z.kn Z.b2 qa λs H E hr=>⟨_,zA (zF 3 qa.nd (zE (Jt Z :) hr (sa3 (pw 0) (pw 1) pwi))) (zA (zb (pt2 qD (pw 2) pwi) (zA (zF 3 qa.nd (zE (VG Z :) hr (sa3 (pw 0) (pw 1) pwi))) (zA (zF 4 qa.nd (pii (ixt K) (pw 3))) (zA (zb (PW.pt (kE (zX qD (zE (zN Z :) hr (sa3 (pw 1) pwi pwi)) zK) (jc (pt2 qD (pw 4) (pwl [32]))))) (zB (zF 4 qa.nd (zU qA (zU Zu (zW [32]) (zE (zN Z :) hr (sa3 (pw 1) pwi pwi))) (Xb (ixt K) (zc (ixl K) (kH (KU Z) hr rfl) (zE (zN Z :) hr (sa3 (pw 1) pwi pwi))))))) zM) (zB (zF 3 qa.nd (zU (oct K) (zY (sa2 (pwl [119,111,114,100]) (pw 4))) (zx (slt K) (pv 3) (zt zK) qm))))))) zM) (zA (zb (pt2 qD (pw 2) pwi) (zB (zF 3 qa.nd (zE (Ju Z :) hr (sa3 (pw 0) (pw 1) pwi)))) zM) (zB (zJ (zU (oct K) (zx (slt K) (pv 3) qm (zt (Zl xi zK))) (zY (pa1 (XX (zc (ixt K) (pv 3) (Zl xi zK)) (QZ (jT Vf (zE (Vq Z :) hr (sa1 (pw 3))) (zc (ixt K) (pv 3) (Zl xi zK)))))))))))),?_⟩
 nofun;rintro _ Q ⟨c,o,k,rfl,k0,k3,q⟩;symm;have hk:k=0\/k=1\/k=2:=by omega
 rcases hk with rfl|rfl|rfl
 .left;refine⟨c,o,rfl,λp H1 fg pl b sn z m pt wy wd f x st g1 ok sg hp=>?_⟩;have hp0:=hp;unfold Qj at hp;left;refine Vv (n:=13) hp rfl (by decide) λp2 H2 g2 e2=>?_;have e2':H2 p2=some (.tup [.str "number",.int fg,.int pl,.int b,.str sn,.int z,.str (T [m]),.str (T [pt]),.str wy,.int wd,.str (T [f]),.str x]):=e2;clear e2;have hp2:=g2.at hp;have hp02:Qj H2 p fg pl b sn z m pt wy wd f x st:=g2.at hp0;clear hp hp0;have fin:∀(st':Bool){p3:Addr}{H3:Hp},zR H2 H3->(st'=true->Wi pl sn<=wd)->H3 p3=some (.tup [.bl st'])->ix K (.ref p2) (.ref p3) H3 Q:=λst'{p3 H3}g3 hs e3=>
   ⟨p2,p3,_,_,rfl,rfl,SqT.of (g3.at e2'),SqT.of e3,(by intro h;cases h),qU (by show 12+1<=1000;decide),(λh=>by cases h),λ_ p4 n4=>q p4 _ wd f x st' _ _ (g1.trans (g2.trans (g3.trans (zw (zR.refl _) n4)))) (.inl ⟨fg,pl,b,sn,z,m,pt,wy,zO,ok,sg,hs,rfl,rfl⟩)⟩
  left
  .refine .inl ⟨p,fg,pl,b,sn,z,m,pt,wy,wd,f,x,st,rfl,hp02,ok,λH3 g3=>?_⟩;have hp3:=g3.at hp2;left;rename_i p4 H4 g4 e4;exact fin _ (g3.trans g4) (λh=>of_decide_eq_true h) e4
  .rename_i hc p4 H4 g4 e4;exact fin _ g4 (λh=>by first|cases h|(rw[hc]at h;cases h)) e4
 .refine qV (λσ' H'=>zR H H'/\∃p0,σ'=[some (.int c),some (.int o),some (.int 1),some (.ref p0),none]) (λσ1 H1 h=>?_) (λR hR=>?_)
  .obtain⟨g1,p0,rfl⟩:=h;refine qV (λσ' H'=>∃p sg lo hi wd f x st,∃s4:Option V,zR H H'/\SgE sg/\WdR lo hi wd f x/\YC H' p sg lo hi wd f x st/\σ'=[some (.int c),some (.int o),some (.int 1),some (.ref p),s4]) (λσ2 H2 h=>?_) (λR hR=>?_)
   .obtain⟨p,sg,lo,hi,wd,f,x,st,s4,g2,se,wr,hp,rfl⟩:=h;have hp0:=hp;unfold YC at hp;left;refine Vv (n:=8) hp rfl (by decide) λp3 H3 g3 e3=>?_;have e3':H3 p3=some (.tup [.str "word",.str (T sg),.int lo,.int hi,.int wd,.str (T [f]),.str x]):=e3;clear e3;have hp3:=g3.at hp;have hp03:YC H3 p sg lo hi wd f x st:=g3.at hp0;clear hp hp0;have fin:∀(st':Bool){p4:Addr}{H4:Hp},zR H3 H4->(st'=true->lo<=wd)->H4 p4=some (.tup [.bl st'])->ix K (.ref p3) (.ref p4) H4 Q:=λst'{p4 H4}g4 hs e4=>
     oM (g4.at e3') e4 (by show 6+0<=900;decide) λp5 H5 g5 e5=>q p5 H5 wd f x st' _ _ (g2.trans (g3.trans (g4.trans g5))) (.inr (.inl ⟨sg,lo,hi,e5,se,wr,hs,rfl,rfl⟩))
    left
    .refine .inr (.inl ⟨p,sg,lo,hi,wd,f,x,st,rfl,hp03,?_⟩);left;rename_i p4 H4 g4 e4;exact fin _ g4 (λh=>of_decide_eq_true h) e4
    .rename_i hc p4 H4 g4 e4;exact fin _ g4 (λh=>by first|cases h|(rw[hc]at h;cases h)) e4
   .refine fF ?_;walk_at "rdq";refine qV (λσ' H'=>∃p sg lo hi wd f x st,zR H H'/\SgD sg/\WdR lo hi wd f x/\YC H' p sg lo hi wd f x st/\σ'=[some (.int c),some (.int o),some (.int 1),some (.ref p),none]) (λσ3 H3 h=>?_) (λR3 hR3=>?_)
    .obtain⟨p,sg,lo,hi,wd,f,x,st,g3,sd,wr,hp,rfl⟩:=h;unfold YC at hp;refine qV (λσ' H'=>H'=H3/\σ'=[some (.int c),some (.int o),some (.int 1),some (.ref p),some (.str (T sg))]) (λσ4 H4 h=>?_) (λR4 hR4=>?_)
     .obtain⟨rfl,rfl⟩:=h;refine qV (λσ' H'=>∃sg',zR H4 H'/\SgE sg'/\σ'=[some (.int c),some (.int o),some (.int 1),some (.ref p),some (.str (T sg'))]) (λσ5 H5 h=>?_) (λR5 hR5=>?_)
      .obtain⟨sg',g5,se,rfl⟩:=h;have hp5:=g5.at hp;left;rename_i p6 H6 g6 e6;refine Vv (n:=8) (g6.at hp5) rfl (by decide) λp7 H7 g7 e7=>?_;have e7':H7 p7=some (.tup [.int lo,.int hi,.int wd,.str (T [f]),.str x,.bl st]):=e7;refine oM (g7.at e6) e7' (by show 1+5<=900;decide) λp8 H8 g8 e8=>?_;left;exact hR _ _ ⟨p8,sg',lo,hi,wd,f,x,st,_,g3.trans (g5.trans (g6.trans (g7.trans g8))),se,wr,e8,rfl⟩
      .left
       rotate_left 2
       .rename_i v0 h00 h10 c1 c2;exact hR5 _ _ ⟨sg,zR.refl _,⟨sd,DV sd c2⟩,rfl⟩
       all_goals
        rename_i v2 h02 h12;refine tm λs0 s1 s2 s3 s4 H5 g5 e0 e1 e2 e3 e4=>?_;left;rename_i v3 h03 h13;refine jF (SqL.of e0) h03 (by show _<(4:Int);omega) λy hy=>?_;have hm:=mem_of_getElem? hy;simp only[mem_cons,not_mem_nil,or_false]at hm;have hx:∃(pp:Addr)(n v:Str),y=.ref pp/\X7 n v/\H5 pp=some (.tup [.str n,.str v]):=by
         rcases hm with rfl|rfl|rfl|rfl
         .exact⟨_,_,_,rfl,.inl ⟨rfl,rfl⟩,e1⟩
         .exact⟨_,_,_,rfl,.inr (.inl ⟨rfl,rfl⟩),e2⟩
         .exact⟨_,_,_,rfl,.inr (.inr (.inl ⟨rfl,rfl⟩)),e3⟩
         .exact⟨_,_,_,rfl,.inr (.inr (.inr ⟨rfl,rfl⟩)),e4⟩
        obtain⟨pp,n,v,rfl,hk,ep⟩:=hx;clear hm hy e0 e1 e2 e3 e4;have so:=Dq hk h02 h12;left;refine mj (by have:=so.d.s2;rw[length_append]at this;omega) ?_;left;exact hR5 _ _ ⟨_,g5,so,rfl⟩
     .left;exact hR4 _ _ ⟨rfl,rfl⟩
    .left;refine⟨c,o,rfl,λp H3 sg lo hi wd f x st g3 sd wr hp=>?_⟩;left;exact hR3 _ _ ⟨p,sg,lo,hi,wd,f,x,st,g1.trans g3,sd,wr,hp,rfl⟩
  .left;refine⟨c,o,rfl,λp0 H0 _ _ _ _ _ _ _ _ _ _ _ _ g0 _ _ _=>?_⟩;left;exact hR _ _ ⟨g0,p0,rfl⟩
 .left;refine⟨c,o,rfl,λp0 H0 _ _ _ _ _ _ _ _ _ _ _ _ g0 _ _ _=>?_⟩;left;refine⟨c,o,rfl,λp L ns H1 wd f x st g1 nm n1 n12 wc hp hL=>?_⟩;have hp0:=hp;unfold WF at hp;left;refine Vv (n:=6) hp rfl (by decide) λp3 H3 g3 e3=>?_;have e3':H3 p3=some (.tup [.str "choice",.ref L,.int wd,.str (T [f]),.str x]):=e3;clear e3;have hp3:=g3.at hp;have hp03:WF H3 p L wd f x st:=g3.at hp0;have hL3:=g3.at hL;clear hp hp0;have fin:∀(st':Bool){p4:Addr}{H4:Hp},zR H3 H4->(st'=true->∃t∈ns,(t.length:Int)<=wd)->H4 p4=some (.tup [.bl st'])->ix K (.ref p3) (.ref p4) H4 Q:=λst'{p4 H4}g4 hs e4=>
   oM (g4.at e3') e4 (by show 4+0<=900;decide) λp5 H5 g5 e5=>q p5 H5 wd f x st' _ _ (g0.trans (g1.trans (g3.trans (g4.trans g5)))) (.inr (.inr ⟨L,ns,e5,g5.at (g4.at hL3),nm,n1,n12,wc,hs,rfl,rfl⟩))
  left
  .refine .inr (.inr ⟨p,L,ns,wd,f,x,st,rfl,hp03,hL3,n1,n12,λt ht=>(nm.len t ht).2,λk H4 g4 hk=>?_⟩);have hp4:=g4.at hp3;left;rename_i p5 H5 g5 e5;obtain⟨t,ht,ek⟩:=hk;exact fin _ (g4.trans g5) (λh=>⟨t,ht,by have:=of_decide_eq_true h;omega⟩) e5
  .rename_i hc p4 H4 g4 e4;exact fin _ g4 (λh=>by first|cases h|(rw[hc]at h;cases h)) e4
theorem pi{n:Int}(h0:0<=n)(h1:n<=40):dw n=(if n.toNat<10 then[fc n.toNat]else[fc (n.toNat/10),fc (n.toNat%10)]):=by
 unfold dw;split
 .rename_i h;exact jL h
 .rename_i h;rw[Zk (by decide) (by omega),jL (show n.toNat/10<10 by omega)];rfl
theorem Eb{n:Int}(h0:0<=n)(h1:n<=40):Str.ofString (toString n)=T (dw n):=by
 rw[pi h0 h1];obtain⟨k,rfl⟩:∃k:Nat,n=(k:Int):=⟨n.toNat,by omega⟩
 have all:∀k,k<41->Str.ofString (toString ((k:Nat):Int))=T (if k<10 then[fc k]else[fc (k/10),fc (k%10)]):=by right
 rw[toNat_natCast];exact all k (by omega)
def ZF(K:W.Frag):Sp:=λvs H Q _=>∃c:Nat,vs=[.str (T [c])]/\Q (.str (T (sw c))) H
theorem Aj{c:Nat}(q:Q (.str (T (sw c))) H):ZF K ([.str (T [c])]++[]) H Q E:=⟨c,rfl,q⟩
local macro_rules|`(tactic|walk_at "rdk")=>`(tactic|(with_reducible refine Aj ?_))
include Z in
theorem yR:Has P w K mg base "_law_sign_word" 1 ["_law_sign"] (ZF K):=by
 refine jZ Z.kn Z.b3 X9 λs H E hr=>⟨_,zA (zb (pt2 qD (pw 0) (pwl [32])) (zB (zJ (zW [98,108,97,110,107]))) zM) (zB (zJ (pv 0))),?_⟩
 nofun;rintro _ Q ⟨c,rfl,q⟩;symm;left
 .rename_i hc;have c32:c=32:=by simpa using hc
  subst c32;rw[show sw 32=[98,108,97,110,107]from by right]at q;exact q
 .rename_i hc;have c32:c≠32:=λh=>hc (by rw[h]);rw[show sw c=[c]from if_neg c32]at q;exact q
def Fu:List V->Hp->VK->Prop:=λxs H Q=>∃i:Int,xs=[.int i]/\0<=i/\i<=40/\Q (.str (toString i)) H
theorem qQ:xa X (.type "str") Fu:=λpins s σ H xs us Q I r⟨i,e,h0,h1,q⟩=>Wy pins s σ H xs us Q I r ⟨i,e,by
 rcases eq_zero_or_pos i.natAbs with z|z
 .rw[z];decide
 .exact Nat.lt_of_lt_of_le ((Nat.log2_lt (Nat.ne_of_gt z)).mpr (show i.natAbs<2^6 by omega)) (by decide),q⟩
theorem Es(h0:0<=i)(h1:i<=40)(q:Q (.str (T (dw i))) H):Fu [.int i] H Q:=⟨i,rfl,h0,h1,by rw[Eb h0 h1];exact q⟩
local macro_rules|`(tactic|walk_at "rdc")=>`(tactic|((with_reducible refine' Es ?h0 ?h1 ?_);(case h0|h1=>omega)))
inductive Rw(H:Hp):List V->LL->Prop
 |nil:Rw H [] []
 |cons {p:Addr} {t:LN} {xs vs:List V} {ws:LL}:H p=some (.tup (.str (T t)::xs))->Rw H vs ws->Rw H (.ref p::vs) (t::ws)
theorem Rw.same(g:zR H H'):∀{vs:List V}{ws:LL},Rw H vs ws->Rw H' vs ws
 |_,_,.nil=>.nil
 |_,_,.cons a t=>.cons (g.at a) (t.same g)
theorem Rw.app:∀{vs us:List V}{ws ts:LL},Rw H vs ws->Rw H us ts->Rw H (vs++us) (ws++ts)
 |_,_,_,_,.nil,h=>h
 |_,_,_,_,.cons a t,h=>.cons a (t.app h)
theorem Rw.len:∀{vs:List V}{ws:LL},Rw H vs ws->vs.length=ws.length
 |_,_,.nil=>rfl
 |_,_,.cons a t=>by rw[length_cons,length_cons,t.len]
def Rws(H:Hp)(L:Addr)(ws:LL):Prop:=∃vs,H L=some (.lst vs)/\Rw H vs ws
variable{ws:LL}
theorem Rws.same{L:Addr}(g:zR H H')(h:Rws H L ws):Rws H' L ws:=let⟨vs,a,b⟩:=h;⟨vs,g.at a,b.same g⟩
variable{us:List V}
theorem xW{L l:Addr}(h:Rws H L ws)(g:zR H H')(e:H' l=some (.lst us))(r:Rw H' us ts)(hz:ws.length+ts.length<=1000)(q:∀L2 H2,zR H' H2->Rws H2 L2 (ws++ts)->Q (.ref L2) H2):oF (.ref L) (.ref l) H' Q:=by
 obtain⟨vs,a,b⟩:=h;exact tP (g.at a) e (qU (by rw[b.len,r.len];exact hz)) λp H2 g2 e2=>q p H2 g2 ⟨_,e2,((b.same g).app r).same g2⟩
theorem DZ{sg:LN}(h:SgD sg):Ris (wo 32 sg):=by
 have up:(wo 32 sg).Pairwise (· < ·):=List.Pairwise.sublist List.filter_sublist h.up;intro i hi;rw[getD_eq_getElem?_getD,getElem?_eq_getElem (by omega),getD_eq_getElem?_getD,getElem?_eq_getElem hi];exact(List.pairwise_iff_getElem.mp up) i (i+1) (by omega) hi (by omega)
theorem tR{L l:Addr}(h:Rws H L ws)(g:zR H H')(e:H' l=some (.lst us))(r:Rw H' us ts)(hz:ws.length+ts.length<=1000)(q:∀L2 vs2 H2,H' L2=none->zR H' H2->H2 L2=some (.lst vs2)->Rw H2 vs2 (ws++ts)->Q (.ref L2) H2):oF (.ref L) (.ref l) H' Q:=by
 obtain⟨vs,a,b⟩:=h;exact⟨L,l,vs,us,rfl,rfl,g.at a,e,qU (by rw[b.len,r.len];exact hz),λp hp=>q p _ _ hp (qz hp _) zO (((b.same g).app r).same (qz hp _))⟩
theorem Rw.keep(g:∀b xs,H b=some (.tup xs)->H' b=some (.tup xs)):∀{vs:List V}{ws:LL},Rw H vs ws->Rw H' vs ws
 |_,_,.nil=>.nil
 |_,_,.cons a t=>.cons (g _ _ a) (t.keep g)
def XC(K:PySem.W.Frag):Sp:=λvs H Q _=>∃(p:Addr)(bits wd:Int)(f:Nat)(x:Str)(st:Bool)(W:Int->LL->Prop)(d:Str),vs=[.ref p,.int bits]/\SpA H p wd f x st W d/\∀L H' ws,zR H H'->W bits ws->Rws H' L ws->Q (.ref L) H'
include Z in
theorem Xv:Has P w K mg base "_law_first_rows" 4 ["_law_spec","_law_bits"] (XC K):=by classical
 refine jZ Z.kn Z.b4 zT λs H E hr=>⟨_,zA (zb (zX qD (pii (ixt K) (pw 0)) (zW [119,111,114,100])) (zA (zF 2 zT.nd (ze (pa2 (zY (sa4 (pwl [119,111,114,100]) pws pwi pwi)) (zY (pa4 (nJ (X2 Z) hr rfl (sS (pii (ixt K) (pw 0)) (BZ (Dj qG (pv 1))))) qi zK zK))))) (zA (zF 2 zT.nd (zU xR (pv 2) (ze (pa2 (zY (pa4 (zo qQ rfl Z.ap jz (pa1 (pii (ixt K) (pw 0)))) (zW [110,117,109,98,101,114]) zK zK)) (zY (pa4 (zo qQ rfl Z.ap jz (pa1 (pii (ixt K) (pw 0)))) (zW [110,117,109,98,101,114]) (pii (ixt K) (pw 0)) zK)))))) (zB (zJ (zU xR (pv 2) (zx (sll K) (ze (pa1 (zY (sa4 (pwl [98,108,97,110,107]) pws pwi pwi)))) qm (zt (zo yE rfl Z.au Yt (pa1 (ki KP (zW [32]) (pii (ixt K) (pw 0)) (by with_unfolding_all rfl))))))))))) zM) (zA (zb (zX qD (pii (ixt K) (pw 0)) (zW [99,104,111,105,99,101])) (zA (zF 2 zT.nd (ze (pa2 (zY (sa4 (pwl [99,104,111,105,99,101]) pws pwi pwi)) (zY (pa4 (zo qQ rfl Z.ap jz (pa1 (zL (lnN K) Z.am rfl qE (pa1 (pii (ixt K) (pw 0)))))) (zW [110,117,109,98,101,114]) zK zK))))) (zB (zJ (zU xR (pv 2) (xH (cl:=[]) (fr:=[]) (is:=[]) rfl rfl trivial rfl trivial (by decide) (by right) rfl (by right) rfl (pil K (pii (ixt K) (pw 0))) (λ_ _ _ _=>xI) (λ_ _ _ _=>zY (sa4 (pw 0) pws pwi pwi))))))) zM) (zA (aN (zx (slt K) (pv 0) (zt zK) (zt zK)) (pgt K rfl (qL (zh 3 zT.nd) (qL (zh 4 zT.nd) (qL (zh 5 zT.nd) (qL (zh 6 zT.nd) (qL (zh 7 zT.nd) (qL (zh 8 zT.nd) (qL (zh 9 zT.nd) (qL (zh 10 zT.nd) J5)))))))))) (zA (zF 2 zT.nd (ze (pa3 (zY (sa4 (pwl [110,117,109,98,101,114]) pws pwi pwi)) (zY (pa4 (zo qQ rfl Z.ap jz (sa1 (pw 3))) (zW [110,117,109,98,101,114]) zK zK)) (zY (pa4 (zo qQ rfl Z.ap jz (sa1 (pw 4))) (zW [110,117,109,98,101,114]) zK zK))))) (zA (zb (PW.pt (kE (pt2 ZV (pw 5) pwi) (jc (zX qD (po2 z9 (pw 1) pwi) zK)))) (zB (zF 2 zT.nd (zU xR (pv 2) (ze (pa2 (zY (sa4 (pwl [98,97,115,101]) pws pwi pwi)) (zY (pa4 (zo qQ rfl Z.ap jz (sa1 (pw 5))) (zW [110,117,109,98,101,114]) zK zK))))))) zM) (zA (zb (PW.pt (kE (pt2 ZV (pw 6) pws) (jc (zX qD (zU z9 (po2 qG (pw 1) pwi) zK) zK)))) (zB (zF 2 zT.nd (zU xR (pv 2) (ze (pa2 (zY (sa4 (pwl [115,105,103,110]) pws pwi pwi)) (zY (sa4 (pw 6) pws pwi pwi))))))) zM) (zA (zb (pt2 kz (pw 7) pwi) (zA (zF 2 zT.nd (zU xR (pv 2) (ze (pa2 (zY (sa4 (pwl [103,114,111,117,112,115]) pws pwi pwi)) (zY (pa4 (zo qQ rfl Z.ap jz (sa1 (pw 7))) (zW [110,117,109,98,101,114]) zK zK)))))) (zB (qO (pbk K PySem.F.plainAttrs_list PySem.F.slot_list_append PySem.F.type_list_append xE (pv 2) (pa1 (zY (pa4 (zE (yR Z :) hr (sa1 (pw 8))) (zW [115,105,103,110]) zK zK))))))) zM) (zA (zb (PW.pt (kE (pt2 ZV (pw 9) (pwl [46])) (jc (zX qD (zU z9 (po2 qG (pw 1) pwi) zK) zK)))) (zB (zF 2 zT.nd (zU xR (pv 2) (ze (pa2 (zY (sa4 (pwl [112,111,105,110,116]) pws pwi pwi)) (zY (pa4 (zE (yR Z :) hr (sa1 (pw 9))) (zW [115,105,103,110]) zK zK))))))) zM) (zA (zb (PW.pt (kE (pt2 ZV (pw 10) pws) (jc (zX qD (zU z9 (po2 qG (pw 1) pwi) zK) zK)))) (zB (zF 2 zT.nd (zU xR (pv 2) (ze (pa2 (zY (sa4 (pwl [119,97,121]) pws pwi pwi)) (zY (sa4 (pw 10) (pwl [119,97,121]) pwi pwi))))))) zM) (zB (zJ (pv 2))))))))))),?_⟩
 nofun;rintro _ Q ⟨p,bits,wd,f,x,st,W,d,rfl,hA,q⟩;symm;rcases hA with⟨fg,pl,b,sn,z,m,pt,wy,hp,ok,sg3,hs,rfl,rfl⟩|⟨sg,lo,hi,hp,se,wr,hs,rfl,rfl⟩|⟨L0,ns,hp,hL,nm,n1,n12,wc,hs,rfl,rfl⟩
 .unfold Qj at hp;have o1:=ok.fg1;have o2:=ok.fg2;have o3:=ok.pl1;have o4:=ok.pl2;have o5:=ok.b1;have o6:=ok.b2;have o7:=ok.z1;have o8:=ok.z2;refine qV (λσ' H'=>H'=H/\σ'=[some (.ref p),some (.int bits),none,none,none,none,none,none,none,none,none]) (λσ1 H1 h=>?_) (λR hR=>?_)
  .obtain⟨rfl,rfl⟩:=h;refine qV (λσ' H'=>H'=H1/\σ'=[some (.ref p),some (.int bits),none,none,none,none,none,none,none,none,none]) (λσ2 H2 h=>?_) (λR hR=>?_)
   .obtain⟨rfl,rfl⟩:=h;refine qV (λσ' H'=>zR H2 H'/\σ'=[some (.ref p),some (.int bits),none,some (.int fg),some (.int pl),some (.int b),some (.str sn),some (.int z),some (.str (T [m])),some (.str (T [pt])),some (.str wy)]) (λσ3 H3 h=>?_) (λR hR=>?_)
    .obtain⟨g3,rfl⟩:=h;refine qV (λσ' H'=>∃L,zR H2 H'/\σ'=[some (.ref p),some (.int bits),some (.ref L),some (.int fg),some (.int pl),some (.int b),some (.str sn),some (.int z),some (.str (T [m])),some (.str (T [pt])),some (.str wy)]/\Rws H' L [jH,dw fg,dw pl]) (λσ4 H4 h=>?_) (λR hR=>?_)
     .obtain⟨L,g4,rfl,R4⟩:=h;refine qV (λσ' H'=>∃L cb,zR H2 H'/\σ'=[some (.ref p),some (.int bits),some (.ref L),some (.int fg),some (.int pl),some (.int b),some (.str sn),some (.int z),some (.str (T [m])),some (.str (T [pt])),some (.str wy)]/\Cl bits cb (b=10)/\Rws H' L ([jH,dw fg,dw pl]++opt cb [yZ,dw b])) (λσ5 H5 h=>?_) (λR hR=>?_)
      .obtain⟨L,cb,g5,rfl,i1,R5⟩:=h;clear R4 g4;have l5:([jH,dw fg,dw pl]++opt cb [yZ,dw b]).length<=5:=by
        cases cb with
        |true=>exact(show 5<=5 by decide)
        |false=>exact(show 3<=5 by decide)
       refine qV (λσ' H'=>∃L cg,zR H2 H'/\σ'=[some (.ref p),some (.int bits),some (.ref L),some (.int fg),some (.int pl),some (.int b),some (.str sn),some (.int z),some (.str (T [m])),some (.str (T [pt])),some (.str wy)]/\Cl bits cg (sn="minus")/\Rws H' L (([jH,dw fg,dw pl]++opt cb [yZ,dw b])++opt cg [yu,Lt sn])) (λσ6 H6 h=>?_) (λR hR=>?_)
       .obtain⟨L,cg,g6,rfl,i2,R6⟩:=h;clear R5 g5;have l6:(([jH,dw fg,dw pl]++opt cb [yZ,dw b])++opt cg [yu,Lt sn]).length<=7:=by
         rw[length_append];cases cg with
         |true=>exact Nat.add_le_add_right l5 2
         |false=>exact le_trans l5 (by decide)
        generalize hw6:([jH,dw fg,dw pl]++opt cb [yZ,dw b])++opt cg [yu,Lt sn]=ws6 at *;refine qV (λσ' H'=>∃L,zR H2 H'/\σ'=[some (.ref p),some (.int bits),some (.ref L),some (.int fg),some (.int pl),some (.int b),some (.str sn),some (.int z),some (.str (T [m])),some (.str (T [pt])),some (.str wy)]/\Rws H' L (ws6++opt (decide (0<z)) [qo,dw z,sw m])) (λσ7 H7 h=>?_) (λR hR=>?_)
        .obtain⟨L,g7,rfl,R7⟩:=h;clear R6 g6;have l7:(ws6++opt (decide (0<z)) [qo,dw z,sw m]).length<=10:=by
          rw[length_append];cases decide (0<z)with
          |true=>exact Nat.add_le_add_right l6 3
          |false=>exact le_trans l6 (by decide)
         generalize hw7:ws6++opt (decide (0<z)) [qo,dw z,sw m]=ws7 at *;refine qV (λσ' H'=>∃L cp,zR H2 H'/\σ'=[some (.ref p),some (.int bits),some (.ref L),some (.int fg),some (.int pl),some (.int b),some (.str sn),some (.int z),some (.str (T [m])),some (.str (T [pt])),some (.str wy)]/\Cl bits cp (pt=46)/\Rws H' L (ws7++opt cp [xh,sw pt])) (λσ8 H8 h=>?_) (λR hR=>?_)
         .obtain⟨L,cp,g8,rfl,i3,R8⟩:=h;clear R7 g7;have l8:(ws7++opt cp [xh,sw pt]).length<=12:=by
           rw[length_append];cases cp with
           |true=>exact Nat.add_le_add_right l7 2
           |false=>exact le_trans l7 (by decide)
          generalize hw8:ws7++opt cp [xh,sw pt]=ws8 at *;refine qV (λσ' H'=>∃L cw,zR H2 H'/\σ'=[some (.ref p),some (.int bits),some (.ref L),some (.int fg),some (.int pl),some (.int b),some (.str sn),some (.int z),some (.str (T [m])),some (.str (T [pt])),some (.str wy)]/\Cl bits cw (wy="near")/\Rws H' L (ws8++opt cw [YU,Lt wy])) (λσ9 H9 h=>?_) (λR hR=>?_)
          .obtain⟨L,cw,g9,rfl,i4,R9⟩:=h;left;refine q L H9 _ g9 ⟨cb,cg,cp,cw,i1,i2,i3,i4,rfl⟩ ?_;rw[<- hw8,<- hw7,<- hw6]at R9;unfold Yw Jo jl yH dn;rw[append_nil];simp only[append_assoc]at R9;exact R9
          .have done:∀{l:Addr}{us:List V}{H':Hp},(bits=0->¬(wy="near"))->zR H8 H'->H' l=some (.lst us)->Rw H' us [YU,Lt wy]->oF (.ref L) (.ref l) H' (λy H5=>R { nx:=λx H'=>Q V.non H',rt:=Q } ([some (.ref p),some (.int bits),some (.ref L),some (.int fg),some (.int pl),some (.int b),some (.str sn),some (.int z),some (.str (T [m])),some (.str (T [pt])),some (.str wy)].set 2 (some y)) H5):=λhx g e r=>xW R8 g e r (by show _+2<=1000;omega) λL2 H6 g6 R6=>hR _ _ ⟨L2,true,g8.trans (g.trans g6),rfl,⟨(λh=>by cases h),λh _=>hx h⟩,R6⟩;left
           .rename_i hc hd p6 H6 g6 e6 p7 H7 g7 e7 l8 H8 g8 e8;exact done (λh=>by omega) (g6.trans (g7.trans g8)) e8 (.cons (g8.at (g7.at e6)) (.cons (by rw[XR];exact g8.at e7) .nil))
           .rename_i hc hd;refine hR _ _ ⟨L,false,g8,rfl,⟨(λ_=>?_),(λ_ h=>by cases h)⟩,by rw[Y3,append_nil];exact R8⟩;first|exact hc|exact Classical.not_not.mp hc
           .rename_i hc p6 H6 g6 e6 p7 H7 g7 e7 l8 H8 g8 e8;exact done (λ_ h=>absurd h (by first|exact hc|simpa using hc)) (g6.trans (g7.trans g8)) e8 (.cons (g8.at (g7.at e6)) (.cons (by rw[XR];exact g8.at e7) .nil))
         .have done:∀{l:Addr}{us:List V}{H':Hp},(bits=0->¬(pt=46))->zR H7 H'->H' l=some (.lst us)->Rw H' us [xh,sw pt]->oF (.ref L) (.ref l) H' (λy H5=>R { nx:=λx H'=>Q V.non H',rt:=Q } ([some (.ref p),some (.int bits),some (.ref L),some (.int fg),some (.int pl),some (.int b),some (.str sn),some (.int z),some (.str (T [m])),some (.str (T [pt])),some (.str wy)].set 2 (some y)) H5):=λhx g e r=>xW R7 g e r (by show _+2<=1000;omega) λL2 H6 g6 R6=>hR _ _ ⟨L2,true,g7.trans (g.trans g6),rfl,⟨(λh=>by cases h),λh _=>hx h⟩,R6⟩;left
          .rename_i hc hd p6 H6 g6 e6 p7 H7 g7 e7 l8 H8 g8 e8;exact done (λh=>by omega) (g6.trans (g7.trans g8)) e8 (.cons (g8.at (g7.at e6)) (.cons (g8.at e7) .nil))
          .rename_i hc hd;refine hR _ _ ⟨L,false,g7,rfl,⟨(λ_=>?_),(λ_ h=>by cases h)⟩,by rw[Y3,append_nil];exact R7⟩;first|simpa using hc|exact hc
          .rename_i hc p6 H6 g6 e6 p7 H7 g7 e7 l8 H8 g8 e8;exact done (λ_ h=>absurd h (by first|exact hc|simpa using hc)) (g6.trans (g7.trans g8)) e8 (.cons (g8.at (g7.at e6)) (.cons (g8.at e7) .nil))
        .left
         .rename_i hc p7 H7 g7 e7 p8 H8 g8 e8 l9 H9 g9 e9;have gz:zR H6 H9:=g7.trans (g8.trans g9);refine tR R6 gz e9 (.cons (g9.at (g8.at e7)) (.cons (g9.at e8) .nil)) (by show _+2<=1000;omega) λL2 vs2 H10 n10 g10 e10 r10=>?_;left;rename_i p11 H11 g11 e11;have e10':=g11.at e10;refine y2 e10' (qu (by have:=r10.len;rw[length_append]at this;rw[this];show _+2<=1000;omega)) ?_;left;have kp:∀b ys,H11 b=some (.tup ys)->(upd H11 L2 (.lst (vs2++[.ref p11]))) b=some (.tup ys):=λb ys e=>by rw[zu (λq'=>by subst q';rw[e10']at e;cases e)];exact e
          refine hR _ _ ⟨L2,λc u e=>?_,rfl,_,zO,?_⟩
          .have e9':=gz.at (g6.at e);rw[zu (qI e9' n10)];exact g11.at (g10.at e9')
          .have:=((r10.same g11).app (.cons e11 .nil)).keep kp;rw[decide_eq_true hc];rw[append_assoc]at this;exact this
         .rename_i hc;refine hR _ _ ⟨L,g6,rfl,?_⟩;rw[decide_eq_false hc,Y3,append_nil];exact R6
       .have done:∀{l:Addr}{us:List V}{H':Hp},(bits=0->¬(sn="minus"))->zR H5 H'->H' l=some (.lst us)->Rw H' us [yu,Lt sn]->oF (.ref L) (.ref l) H' (λy H5=>R { nx:=λx H'=>Q V.non H',rt:=Q } ([some (.ref p),some (.int bits),some (.ref L),some (.int fg),some (.int pl),some (.int b),some (.str sn),some (.int z),some (.str (T [m])),some (.str (T [pt])),some (.str wy)].set 2 (some y)) H5):=λhx g e r=>xW R5 g e r (by show _+2<=1000;omega) λL2 H6 g6 R6=>hR _ _ ⟨L2,true,g5.trans (g.trans g6),rfl,⟨(λh=>by cases h),λh _=>hx h⟩,R6⟩;left
        .rename_i hc hd p6 H6 g6 e6 p7 H7 g7 e7 l8 H8 g8 e8;exact done (λh=>by omega) (g6.trans (g7.trans g8)) e8 (.cons (g8.at (g7.at e6)) (.cons (by rw[XR];exact g8.at e7) .nil))
        .rename_i hc hd;refine hR _ _ ⟨L,false,g5,rfl,⟨(λ_=>?_),(λ_ h=>by cases h)⟩,by rw[Y3,append_nil];exact R5⟩;first|exact hc|exact Classical.not_not.mp hc
        .rename_i hc p6 H6 g6 e6 p7 H7 g7 e7 l8 H8 g8 e8;exact done (λ_ h=>absurd h (by first|exact hc|simpa using hc)) (g6.trans (g7.trans g8)) e8 (.cons (g8.at (g7.at e6)) (.cons (by rw[XR];exact g8.at e7) .nil))
      .have done:∀{l:Addr}{us:List V}{H':Hp},(bits=0->¬(b=10))->zR H4 H'->H' l=some (.lst us)->Rw H' us [yZ,dw b]->oF (.ref L) (.ref l) H' (λy H5=>R { nx:=λx H'=>Q V.non H',rt:=Q } ([some (.ref p),some (.int bits),some (.ref L),some (.int fg),some (.int pl),some (.int b),some (.str sn),some (.int z),some (.str (T [m])),some (.str (T [pt])),some (.str wy)].set 2 (some y)) H5):=λhx g e r=>xW R4 g e r (by show 3+2<=1000;decide) λL2 H5 g5 R5=>hR _ _ ⟨L2,true,g4.trans (g.trans g5),rfl,⟨(λh=>by cases h),λh _=>hx h⟩,R5⟩;left
       .rename_i hc hd p5 H5 g5 e5 p6 H6 g6 e6 l7 H7 g7 e7;exact done (λh=>by omega) (g5.trans (g6.trans g7)) e7 (.cons (g7.at (g6.at e5)) (.cons (g7.at e6) .nil))
       .rename_i hc hd;exact hR _ _ ⟨L,false,g4,rfl,⟨(λ_=>by omega),(λ_ h=>by cases h)⟩,R4⟩
       .rename_i hc p5 H5 g5 e5 p6 H6 g6 e6 l7 H7 g7 e7;exact done (λ_ h=>absurd h (by first|exact hc|simpa using hc)) (g5.trans (g6.trans g7)) e7 (.cons (g7.at (g6.at e5)) (.cons (g7.at e6) .nil))
     .left;rename_i p1 H4 g4 e4 p2 H5 g5 e5 p3 H6 g6 e6 L H7 g7 e7;exact hR _ _ ⟨L,g3.trans (g4.trans (g5.trans (g6.trans g7))),rfl,_,e7,.cons (g7.at (g6.at (g5.at e4))) (.cons (g7.at (g6.at e5)) (.cons (g7.at e6) .nil))⟩
    .left;refine Vv (n:=13) hp rfl (by decide) λp2 H3 g3 e3=>?_;have e3':H3 p2=some (.tup [.int fg,.int pl,.int b,.str sn,.int z,.str (T [m]),.str (T [pt]),.str wy]):=e3;clear e3;left;exact hR _ _ ⟨g3,rfl⟩
   .left;exact hR _ _ ⟨rfl,rfl⟩
  .left;exact hR _ _ ⟨rfl,rfl⟩
 .unfold YC at hp;have o1:=wr.lo1;have o2:=wr.lo2;have o3:=wr.hi2;left;rename_i p1 H1 g1 e1;refine⟨sg,_,rfl,se.d.s2,se.ne,DZ se.d,λw H2 g2 hw hw0=>?_⟩;have hp2:=g2.at (g1.at hp);left;rename_i p3 H3 g3 e3 l4 H4 g4 e4 p5 H5 g5 e5 p6 H6 g6 e6 l7 H7 g7 e7;have R4:Rws H4 l4 [JF,w]:=⟨_,e4,.cons (g4.at (g3.at (g2.at e1))) (.cons (g4.at e3) .nil)⟩
  refine xW R4 (g5.trans (g6.trans g7)) e7 (.cons (g7.at (g6.at e5)) (.cons (g7.at e6) .nil)) (by show 2+2<=1000;decide) λL8 H8 g8 R8=>?_;have g08:zR H H8:=g1.trans (g2.trans (g3.trans (g4.trans (g5.trans (g6.trans (g7.trans g8))))));have hp8:=g08.at hp;clear e1 e3 e4 e5 e6 e7 R4;left
  .rename_i p9 H9 g9 e9 l10 H10 g10 e10 hc l11 H11 g11 e11;have e11':H11 l11=some (.lst [.ref p9]):=e11;exact xW R8 (g9.trans (g10.trans g11)) e11' (.cons (g11.at (g10.at e9)) .nil) (by show 4+1<=1000;decide) λL12 H12 g12 R12=>q L12 H12 (JF::w::dw lo::dw hi::[J8]) (g08.trans (g9.trans (g10.trans (g11.trans g12)))) ⟨w,hw,(λh=>hw0 (by omega)),by rw[decide_eq_true hc];rfl⟩ R12
  .rename_i p9 H9 g9 e9 l10 H10 g10 e10 hc l11 H11 g11 e11;have e11':H11 l11=some (.lst []):=e11;exact xW R8 (g9.trans (g10.trans g11)) e11' .nil (by show 4+0<=1000;decide) λL12 H12 g12 R12=>q L12 H12 (JF::w::dw lo::dw hi::[]) (g08.trans (g9.trans (g10.trans (g11.trans g12)))) ⟨w,hw,(λh=>hw0 (by omega)),by rw[decide_eq_false hc];rfl⟩ R12
 .unfold WF at hp;have tl:(tsV ns).length=ns.length:=length_map _;left;rename_i p1 H1 g1 e1 p2 H2 g2 e2 l3 H3 g3 e3;rw[tl]at e2;have R3:Rws H3 l3 [yD,dw ns.length]:=⟨_,e3,.cons (g3.at (g2.at e1)) (.cons (g3.at e2) .nil)⟩
  have g03:zR H H3:=g1.trans (g2.trans g3);have hL3:=g03.at hL;refine WI (SqL.of hL3) (qU (by omega)) (λi ys H'=>zR H3 H'/\Rw H' ys (ns.take i)) ⟨zR.refl _,.nil⟩ (λi ys H' hi h=>⟨SqL.of (h.1.at hL3),by rw[h.2.len,length_take];omega⟩) ?_ ?_
  .rintro i y ys H4 hy hi ⟨g4,r4⟩;have il:i<ns.length:=by omega
   have ey:y=.str (T ns[i]):=by
    unfold tsV at hy;rw[getElem?_map,getElem?_eq_getElem il]at hy;exact(Option.some.inj hy).symm
   subst ey;left;rename_i p5 H5 g5 e5;refine nxC hi ⟨g4.trans g5,?_⟩;rw[List.take_succ_eq_append_getElem il];exact(r4.same g5).app (.cons e5 .nil)
  .rintro ys H4 ⟨g4,r4⟩ p5 H5 g5 e5;rw[tl,take_length]at r4;exact xW R3 (g4.trans g5) e5 (r4.same g5) (by show 2+_<=1000;omega) λL6 H6 g6 R6=>q L6 H6 _ (g03.trans (g4.trans (g5.trans g6))) rfl R6
theorem yV{c:Bool}{l:LL}:(opt c l).length<=l.length:=by
 cases c with
 |true=>exact Nat.le_refl _
 |false=>exact zero_le _
theorem SpA.bd{W:Int->LL->Prop}{d:Str}(h:SpA H p wd f x st W d):0<=wd/\wd<=40/\Sgn f/\VZ x/\∀bits ws,W bits ws->ws.length<=14:=by
 rcases h with⟨fg,pl,b,sn,z,m,pt,wy,hp,ok,sg3,hs,rfl,rfl⟩|⟨sg,lo,hi,hp,se,wr,hs,rfl,rfl⟩|⟨L0,ns,hp,hL,nm,n1,n12,wc,hs,rfl,rfl⟩
 .refine⟨ok.wd1,ok.wd2,sg3.2.2,ok.x,?_⟩;rintro bits ws ⟨cb,cg,cp,cw,_,_,_,_,rfl⟩;unfold Yw Jo jl yH dn;simp only[length_cons,length_append,length_nil];have a1:=yV (c:=cb) (l:=[yZ,dw b]);have a2:=yV (c:=cg) (l:=[yu,Lt sn]);have a3:=yV (c:=decide (0<z)) (l:=[qo,dw z,sw m]);have a4:=yV (c:=cp) (l:=[xh,sw pt]);have a5:=yV (c:=cw) (l:=[YU,Lt wy]);simp only[length_cons,length_nil]at a1 a2 a3 a4 a5;omega
 .refine⟨wr.wd1,wr.wd2,wr.f,.inl wr.x,?_⟩;rintro bits ws ⟨w,_,_,rfl⟩;have:=yV (c:=decide (32∈sg)) (l:=[J8]);simp only[length_cons,length_nil]at this ⊢;omega
 .refine⟨wc.wd1,wc.wd2,wc.f,.inl wc.x,?_⟩;rintro bits ws rfl;simp only[length_cons];omega
def X4(K:PySem.W.Frag):Sp:=λvs H Q _=>∃(p:Addr)(bits wd:Int)(f:Nat)(x:Str)(st:Bool)(W:Int->LL->Prop)(d:Str),vs=[.ref p,.int bits]/\SpA H p wd f x st W d/\∀L H' ws cf cs,zR H H'->W bits ws->Cl bits cf (f=32)->Cl bits cs (x=d)->Rws H' L (ws++jk wd f x cf cs st)->Q (.ref L) H'
include Z in
theorem VJ:Has P w K mg base "_law_word_rows" 5 ["_law_spec","_law_bits"] (X4 K):=by classical
 refine jZ Z.kn Z.b5 zv λs H E hr=>⟨_,zA (zF 2 zv.nd (zE (Xv Z :) hr (sa2 (pw 0) (pw 1)))) (zA (aN (zx (slt K) (pv 0) (zt (Zl xi zK)) qm) (pgt K rfl (qL (zh 3 zv.nd) (qL (zh 4 zv.nd) (qL (zh 5 zv.nd) (qL (zh 6 zv.nd) J5)))))) (zA (zF 7 zv.nd (zc (ixl K) (ze (sa2 pws pws)) (zo yE rfl Z.au Yt (pa1 (jT qD (pii (ixt K) (pw 0)) (zW [110,117,109,98,101,114])))))) (zA (zb (pt2 kz (pw 3) pwi) (zB (zF 2 zv.nd (zU xR (pv 2) (ze (pa2 (zY (sa4 (pwl [119,105,100,116,104]) pws pwi pwi)) (zY (pa4 (zo qQ rfl Z.ap jz (sa1 (pw 3))) (zW [110,117,109,98,101,114]) zK zK))))))) zM) (zA (zb (PW.pt (kE (pt2 ZV (pw 4) (pwl [32])) (jc (zX qD (zU z9 (po2 qG (pw 1) pwi) zK) zK)))) (zB (zF 2 zv.nd (zU xR (pv 2) (ze (pa2 (zY (sa4 (pwl [102,105,108,108]) pws pwi pwi)) (zY (pa4 (zE (yR Z :) hr (sa1 (pw 4))) (zW [115,105,103,110]) zK zK))))))) zM) (zA (zb (PW.pt (kE (pt2 ZV (pw 5) (pw 7)) (jc (zX qD (zU z9 (po2 qG (pw 1) pwi) zK) zK)))) (zB (zF 2 zv.nd (zU xR (pv 2) (ze (pa2 (zY (sa4 (pwl [115,105,100,101]) pws pwi pwi)) (zY (sa4 (pw 5) (pwl [115,105,100,101]) pwi pwi))))))) zM) (zB (zJ (zU xR (pv 2) (zx (sll K) (ze (pa1 (zY (sa4 (pwl [115,116,114,105,99,116]) pws pwi pwi)))) qm (zt (zo yE rfl Z.au Yt (sa1 (pw 6))))))))))))),?_⟩
 nofun;rintro _ Q ⟨p,bits,wd,f,x,st,W,d,rfl,hA,q⟩;symm;obtain⟨o9,o10,_,_,hW⟩:=hA.bd;refine qV (λσ' H'=>∃L ws,zR H H'/\σ'=[some (.ref p),some (.int bits),some (.ref L),none,none,none,none,none]/\W bits ws/\Rws H' L ws) (λσ1 H1 h=>?_) (λR hR=>?_)
 .obtain⟨L,ws1,g1,rfl,w1,R1⟩:=h;have l1:=hW bits ws1 w1;have hA1:=hA.same g1;refine qV (λσ' H'=>zR H H'/\Rws H' L ws1/\SpA H' p wd f x st W d/\σ'=[some (.ref p),some (.int bits),some (.ref L),some (.int wd),some (.str (T [f])),some (.str x),some (.bl st),none]) (λσ2 H2 h=>?_) (λR hR=>?_)
  .obtain⟨g2,R2,hA2,rfl⟩:=h;clear R1 hA1;refine qV (λσ' H'=>zR H H'/\Rws H' L ws1/\σ'=[some (.ref p),some (.int bits),some (.ref L),some (.int wd),some (.str (T [f])),some (.str x),some (.bl st),some (.str d)]) (λσ3 H3 h=>?_) (λR hR=>?_)
   .obtain⟨g3,R3,rfl⟩:=h;clear hA2;refine qV (λσ' H'=>∃L,zR H H'/\σ'=[some (.ref p),some (.int bits),some (.ref L),some (.int wd),some (.str (T [f])),some (.str x),some (.bl st),some (.str d)]/\Rws H' L (ws1++opt (decide (0<wd)) [x4,dw wd])) (λσ4 H4 h=>?_) (λR hR=>?_)
    .obtain⟨L,g4,rfl,R4⟩:=h;clear R3 g3;have l4:(ws1++opt (decide (0<wd)) [x4,dw wd]).length<=16:=by
      have:=yV (c:=decide (0<wd)) (l:=[x4,dw wd]);simp only[length_cons,length_nil]at this;rw[length_append];omega
     generalize hw4:ws1++opt (decide (0<wd)) [x4,dw wd]=ws4 at *;refine qV (λσ' H'=>∃L cf,zR H H'/\σ'=[some (.ref p),some (.int bits),some (.ref L),some (.int wd),some (.str (T [f])),some (.str x),some (.bl st),some (.str d)]/\Cl bits cf (f=32)/\Rws H' L (ws4++opt cf [jV,sw f])) (λσ5 H5 h=>?_) (λR hR=>?_)
     .obtain⟨L,cf,g5,rfl,i5,R5⟩:=h;clear R4 g4;have l5:(ws4++opt cf [jV,sw f]).length<=18:=by
       have:=yV (c:=cf) (l:=[jV,sw f]);simp only[length_cons,length_nil]at this;rw[length_append];omega
      generalize hw5:ws4++opt cf [jV,sw f]=ws5 at *;refine qV (λσ' H'=>∃L cs,zR H H'/\σ'=[some (.ref p),some (.int bits),some (.ref L),some (.int wd),some (.str (T [f])),some (.str x),some (.bl st),some (.str d)]/\Cl bits cs (x=d)/\Rws H' L (ws5++opt cs [xO,Lt x])) (λσ6 H6 h=>?_) (λR hR=>?_)
      .obtain⟨L,cs,g6,rfl,i6,R6⟩:=h;clear R5 g5;have l6:(ws5++opt cs [xO,Lt x]).length<=20:=by
        have:=yV (c:=cs) (l:=[xO,Lt x]);simp only[length_cons,length_nil]at this;rw[length_append];omega
       have fin:∀L2 H2,zR H6 H2->Rws H2 L2 ((ws5++opt cs [xO,Lt x])++opt st [jI])->Q (.ref L2) H2:=λL2 H2 g r=>by
        refine q L2 H2 ws1 cf cs (g6.trans g) w1 i5 i6 ?_;rw[<- hw5,<- hw4]at r;unfold jk;simp only[append_assoc,append_nil]at r ⊢;exact r
       cases st with
       |true=>
        left;rename_i p7 H7 g7 e7 l8 H8 g8 e8 l9 H9 g9 e9;have e9':H9 l9=some (.lst [.ref p7]):=e9;exact xW R6 (g7.trans (g8.trans g9)) e9' (.cons (g9.at (g8.at e7)) .nil) (by show _+1<=1000;omega) λL2 H2 g r=>fin L2 H2 (g7.trans (g8.trans (g9.trans g))) r
       |false=>
        left;rename_i p7 H7 g7 e7 l8 H8 g8 e8 l9 H9 g9 e9;have e9':H9 l9=some (.lst []):=e9;exact xW R6 (g7.trans (g8.trans g9)) e9' .nil (by show _+0<=1000;omega) λL2 H2 g r=>fin L2 H2 (g7.trans (g8.trans (g9.trans g))) r
      .have done:∀{l:Addr}{us:List V}{H':Hp},(bits=0->¬(x=d))->zR H5 H'->H' l=some (.lst us)->Rw H' us [xO,Lt x]->oF (.ref L) (.ref l) H' (λy H5=>R { nx:=λx H'=>Q V.non H',rt:=Q } ([some (.ref p),some (.int bits),some (.ref L),some (.int wd),some (.str (T [f])),some (.str x),some (.bl st),some (.str d)].set 2 (some y)) H5):=λhx g e r=>xW R5 g e r (by show _+2<=1000;omega) λL2 H6 g6 R6=>hR _ _ ⟨L2,true,g5.trans (g.trans g6),rfl,⟨(λh=>by cases h),λh _=>hx h⟩,R6⟩;left
       .rename_i hc hd p6 H6 g6 e6 p7 H7 g7 e7 l8 H8 g8 e8;exact done (λh=>by omega) (g6.trans (g7.trans g8)) e8 (.cons (g8.at (g7.at e6)) (.cons (by rw[XR];exact g8.at e7) .nil))
       .rename_i hc hd;refine hR _ _ ⟨L,false,g5,rfl,⟨(λ_=>?_),(λ_ h=>by cases h)⟩,by rw[Y3,append_nil];exact R5⟩;first|exact hc|exact Classical.not_not.mp hc
       .rename_i hc p6 H6 g6 e6 p7 H7 g7 e7 l8 H8 g8 e8;exact done (λ_ h=>absurd h (by first|exact hc|simpa using hc)) (g6.trans (g7.trans g8)) e8 (.cons (g8.at (g7.at e6)) (.cons (by rw[XR];exact g8.at e7) .nil))
     .have done:∀{l:Addr}{us:List V}{H':Hp},(bits=0->¬(f=32))->zR H4 H'->H' l=some (.lst us)->Rw H' us [jV,sw f]->oF (.ref L) (.ref l) H' (λy H5=>R { nx:=λx H'=>Q V.non H',rt:=Q } ([some (.ref p),some (.int bits),some (.ref L),some (.int wd),some (.str (T [f])),some (.str x),some (.bl st),some (.str d)].set 2 (some y)) H5):=λhx g e r=>xW R4 g e r (by show _+2<=1000;omega) λL2 H6 g6 R6=>hR _ _ ⟨L2,true,g4.trans (g.trans g6),rfl,⟨(λh=>by cases h),λh _=>hx h⟩,R6⟩;left
      .rename_i hc hd p6 H6 g6 e6 p7 H7 g7 e7 l8 H8 g8 e8;exact done (λh=>by omega) (g6.trans (g7.trans g8)) e8 (.cons (g8.at (g7.at e6)) (.cons (g8.at e7) .nil))
      .rename_i hc hd;refine hR _ _ ⟨L,false,g4,rfl,⟨(λ_=>?_),(λ_ h=>by cases h)⟩,by rw[Y3,append_nil];exact R4⟩;first|simpa using hc|exact hc
      .rename_i hc p6 H6 g6 e6 p7 H7 g7 e7 l8 H8 g8 e8;exact done (λ_ h=>absurd h (by first|exact hc|simpa using hc)) (g6.trans (g7.trans g8)) e8 (.cons (g8.at (g7.at e6)) (.cons (g8.at e7) .nil))
    .left
     .rename_i hc p6 H6 g6 e6 p7 H7 g7 e7 l8 H8 g8 e8;refine xW R3 (g6.trans (g7.trans g8)) e8 (.cons (g8.at (g7.at e6)) (.cons (g8.at e7) .nil)) (by show _+2<=1000;omega) λL2 H9 g9 R9=>?_;left;refine hR _ _ ⟨L2,g3.trans (g6.trans (g7.trans (g8.trans g9))),rfl,?_⟩;rw[decide_eq_true hc];exact R9
     .rename_i hc;refine hR _ _ ⟨L,g3,rfl,?_⟩;rw[decide_eq_false hc,Y3,append_nil];exact R3
   .rcases hA2 with⟨fg,pl,b,sn,z,m,pt,wy,hp,ok,sg3,hs,rfl,rfl⟩|⟨sg,lo,hi,hp,se,wr,hs,rfl,rfl⟩|⟨L0,ns,hp,hL,nm,n1,n12,wc,hs,rfl,rfl⟩
    .unfold Qj at hp;left;rename_i l3 H3 g3 e3;exact hR _ _ ⟨g2.trans g3,R2.same g3,rfl⟩
    .unfold YC at hp;left;rename_i l3 H3 g3 e3;exact hR _ _ ⟨g2.trans g3,R2.same g3,rfl⟩
    .unfold WF at hp;left;rename_i l3 H3 g3 e3;exact hR _ _ ⟨g2.trans g3,R2.same g3,rfl⟩
  .have hA0:=hA1;rcases hA1 with⟨fg,pl,b,sn,z,m,pt,wy,hp,ok,sg3,hs,rfl,rfl⟩|⟨sg,lo,hi,hp,se,wr,hs,rfl,rfl⟩|⟨L0,ns,hp,hL,nm,n1,n12,wc,hs,rfl,rfl⟩
   .unfold Qj at hp;left;refine Vv (n:=13) hp rfl (by decide) λp2 H3 g3 e3=>?_;have e3':H3 p2=some (.tup [.int wd,.str (T [f]),.str x,.bl st]):=e3;clear e3;left;exact hR _ _ ⟨g1.trans g3,R1.same g3,hA0.same g3,rfl⟩
   .unfold YC at hp;left;refine Vv (n:=8) hp rfl (by decide) λp2 H3 g3 e3=>?_;have e3':H3 p2=some (.tup [.int wd,.str (T [f]),.str x,.bl st]):=e3;clear e3;left;exact hR _ _ ⟨g1.trans g3,R1.same g3,hA0.same g3,rfl⟩
   .unfold WF at hp;left;refine Vv (n:=6) hp rfl (by decide) λp2 H3 g3 e3=>?_;have e3':H3 p2=some (.tup [.int wd,.str (T [f]),.str x,.bl st]):=e3;clear e3;left;exact hR _ _ ⟨g1.trans g3,R1.same g3,hA0.same g3,rfl⟩
 .left;refine⟨p,bits,wd,f,x,st,W,d,rfl,hA,λL H1 ws g1 w1 R1=>?_⟩;left;exact hR _ _ ⟨L,ws,g1,rfl,w1,R1⟩
def Cs(t:LN):Prop:=∀c∈t,c≠32/\c∈Lt Ve
instance(t:LN):Decidable (Cs t):=by unfold Cs;infer_instance
def WT(l:LL)(n m:Nat):Prop:=(∀t∈l,Cs t)/\l.flatten.length<=n/\l.length<=m
theorem WT.nil:WT [] 0 0:=⟨(λt ht=>by cases ht),Nat.le_refl _,Nat.le_refl _⟩
theorem WT.cons{t:LN}{k:Nat}(h1:Cs t/\t.length<=k)(h2:WT r n m):WT (t::r) (k+n) (m+1):=⟨λu hu=>(List.mem_cons.mp hu).elim (λe=>e▸h1.1) (h2.1 u),by rw[flatten_cons,length_append];exact add_le_add h1.2 h2.2.1,Nat.succ_le_succ h2.2.2⟩
theorem WT.app{l:LL}{n' m':Nat}(h1:WT l n m)(h2:WT r n' m'):WT (l++r) (n+n') (m+m'):=⟨λt ht=>(List.mem_append.mp ht).elim (h1.1 t) (h2.1 t),by rw[List.flatten_append,length_append];exact add_le_add h1.2.1 h2.2.1,by rw[length_append];exact add_le_add h1.2.2 h2.2.2⟩
theorem WT.opt{c:Bool}{l:LL}(h1:WT l n m):WT (Pw.opt c l) n m:=by
 cases c with
 |true=>exact h1
 |false=>exact⟨(λt ht=>by cases ht),zero_le _,zero_le _⟩
theorem WT.mono{l:LL}{n' m':Nat}(h:WT l n m)(h1:n<=n')(h2:m<=m'):WT l n' m':=⟨h.1,le_trans h.2.1 h1,le_trans h.2.2 h2⟩
theorem dG{n:Int}(h0:0<=n)(h1:n<=40):Cs (dw n)/\(dw n).length<=2:=by
 rw[pi h0 h1];have all:∀k,k<41->Cs (if k<10 then[fc k]else[fc (k/10),fc (k%10)])/\(if k<10 then[fc k]else[fc (k/10),fc (k%10)]).length<=2:=by right
 exact all _ (by omega)
theorem Cq{c:Nat}(h:Sgn c):Cs (sw c)/\(sw c).length<=5:=by
 unfold sw;by_cases z:c=32
 .rw[if_pos z];right
 .rw[if_neg z];refine⟨λd hd=>?_,by show 1<=5;decide⟩;rw[List.mem_singleton]at hd;subst hd;exact⟨z,h.resolve_left z⟩
theorem CS(h:VZ x):Cs (Lt x)/\(Lt x).length<=6:=by rcases h with(rfl|rfl|rfl)|rfl<;>right
theorem E5(h:yj x):Cs (Lt x)/\(Lt x).length<=8:=by rcases h with rfl|rfl|rfl|rfl|rfl<;>right
theorem FU(h:Way x):Cs (Lt x)/\(Lt x).length<=4:=by rcases h with rfl|rfl|rfl|rfl|rfl<;>right
theorem fS{cf cs:Bool}(h0:0<=wd)(h1:wd<=40)(hf:Sgn f)(hx:VZ x):WT (jk wd f x cf cs st) 100 7:=
 WT.mono (WT.app (WT.opt (.cons (k:=5) (by right) (.cons (dG h0 h1) .nil))) (WT.app (WT.opt (.cons (k:=4) (by right) (.cons (Cq hf) .nil))) (WT.app (WT.opt (.cons (k:=4) (by right) (.cons (CS hx) .nil))) (WT.app (WT.opt (.cons (k:=6) (by right) .nil)) .nil)))) (by decide) (by decide)
theorem IN{c:Nat}(h:c∈Lt Ve):c≠32:=λe=>absurd (e▸h) (by right)
theorem DP{w sg:LN}(hs:SgE sg)(h:SgW w (wo 32 sg)):Cs w/\w.length<=201:=by
 rcases h with⟨n,v,hk,rfl,_⟩|⟨rfl,_,h2,_⟩
 .rcases hk with⟨rfl,_⟩|⟨rfl,_⟩|⟨rfl,_⟩|⟨rfl,_⟩<;>right
 .refine⟨λc hc=>?_,by rw[length_cons];omega⟩;rcases List.mem_cons.mp hc with rfl|hc
  .right
  .obtain⟨h3,h4⟩:=List.mem_filter.mp hc;have h5:c≠32:=by simpa using h4
   exact⟨h5,(hs.d.sgn c h3).resolve_left h5⟩
theorem sZ{ns:LL}(h:Nms ns):∀{k:Nat},ns.length<=k->WT ns (12*k) k:=by
 intro k hk;refine⟨λt ht c hc=>⟨IN (h.sgn t ht c hc),h.sgn t ht c hc⟩,?_,hk⟩;have:∀l:LL,(∀t∈l,t.length<=12)->l.flatten.length<=12*l.length:=λl=>by
  induction l with
  |nil=>exact λ_=>Nat.le_refl _
  |cons u us ih=>
   intro hu;have a:=ih λt ht=>hu t (mem_cons_of_mem _ ht);have b:=hu u (mem_cons_self ..);rw[flatten_cons,length_append,length_cons];omega
 have a:=this ns λt ht=>(h.len t ht).2;omega
theorem SpA.wt{W:Int->LL->Prop}{d:Str}(h:SpA H p wd f x st W d){bits:Int}(hw:W bits ws)(cf cs:Bool):WT (ws++jk wd f x cf cs st) 400 30:=by
 rcases h with⟨fg,pl,b,sn,z,m,pt,wy,hp,ok,sg3,hs,rfl,rfl⟩|⟨sg,lo,hi,hp,se,wr,hs,rfl,rfl⟩|⟨L0,ns,hp,hL,nm,n1,n12,wc,hs,rfl,rfl⟩
 .obtain⟨cb,cg,cp,cw,_,_,_,_,rfl⟩:=hw;have o1:=ok.fg1;have o2:=ok.fg2;have o3:=ok.pl1;have o4:=ok.pl2;have o5:=ok.b1;have o6:=ok.b2;have o7:=ok.z1;have o8:=ok.z2;exact WT.mono (WT.app (.cons (k:=6) (by right) (.cons (dG (by omega) (by omega)) (.cons (dG o3 (by omega)) (WT.app (WT.opt (.cons (k:=4) (by right) (.cons (dG (by omega) (by omega)) .nil))) (WT.app (WT.opt (.cons (k:=4) (by right) (.cons (E5 ok.sn) .nil))) (WT.app (WT.opt (.cons (k:=6) (by right) (.cons (dG (by omega) (by omega)) (.cons (Cq sg3.1) .nil)))) (WT.app (WT.opt (.cons (k:=5) (by right) (.cons (Cq sg3.2.1) .nil))) (WT.app (WT.opt (.cons (k:=3) (by right) (.cons (FU ok.wy) .nil))) .nil)))))))) (fS ok.wd1 ok.wd2 sg3.2.2 ok.x)) (by decide) (by decide)
 .obtain⟨w,hw,_,rfl⟩:=hw;have o1:=wr.lo1;have o2:=wr.lo2;have o3:=wr.hi2;exact WT.mono (WT.app (.cons (k:=4) (by right) (.cons (DP se hw) (.cons (dG o1 (by omega)) (.cons (dG (by omega) (by omega)) (WT.opt (.cons (k:=5) (by right) .nil)))))) (fS wr.wd1 wr.wd2 wr.f (.inl wr.x))) (by decide) (by decide)
 .cases hw;exact WT.mono (WT.app (.cons (k:=6) (by right) (.cons (dG (by omega) (by omega)) (sZ nm n12))) (fS wc.wd1 wc.wd2 wc.f (.inl wc.x))) (by decide) (by decide)
theorem Ch(h:WT ws n m):(∀c∈jn [32] ws,Sgn c)/\(jn [32] ws).length<=n+m/\∀t∈ws,32∉t:=by
 have tail:∀(us:LL),(∀t∈us,Cs t)->(∀c∈(us.map ([32]++·)).flatten,Sgn c)/\((us.map ([32]++·)).flatten).length=us.flatten.length+us.length:=λus=>by
  induction us with
  |nil=>exact λ_=>⟨(λc hc=>by cases hc),rfl⟩
  |cons u us ih=>
   intro hu;obtain⟨a1,a2⟩:=ih λt ht=>hu t (mem_cons_of_mem _ ht);have w:=hu u (mem_cons_self ..);refine⟨λc hc=>?_,?_⟩
   .rw[map_cons,flatten_cons,List.mem_append]at hc;rcases hc with hc|hc
    .rcases List.mem_cons.mp hc with e|e
     .exact .inl e
     .exact .inr (w c e).2
    .exact a1 c hc
   .simp only[map_cons,flatten_cons,length_append,length_cons,length_nil,a2];omega
 obtain⟨h1,h2,h3⟩:=h;refine⟨?_,?_,λt ht h32=>(h1 t ht 32 h32).1 rfl⟩
 .intro c hc;cases ws with
  |nil=>cases hc
  |cons u us=>
   rcases List.mem_append.mp (show c∈u++(us.map ([32]++·)).flatten from hc)with e|e
   .exact .inr (h1 u (mem_cons_self ..) c e).2
   .exact(tail us λt ht=>h1 t (mem_cons_of_mem _ ht)).1 c e
 .cases ws with
  |nil=>exact zero_le _
  |cons u us=>
   have t:=(tail us λt ht=>h1 t (mem_cons_of_mem _ ht)).2;show(u++(us.map ([32]++·)).flatten).length<=_;rw[flatten_cons,length_append]at h2;rw[length_append];rw[length_cons]at h3;omega
theorem Rw.get:∀{vs:List V}{ws:LL}{i:Nat}{x:V},Rw H vs ws->vs[i]?=some x->∃p t xs,x=.ref p/\H p=some (.tup (.str (T t)::xs))/\ws[i]?=some t
 |_,_,_,_,.nil,h=>by cases h
 |_,_,0,_,.cons a _,h=>by cases h;exact⟨_,_,_,rfl,a,rfl⟩
 |_,_,i+1,_,.cons _ t,h=>t.get (i:=i) h
def YH(K:PySem.W.Frag):Sp:=λvs H Q _=>∃(p:Addr)(bits wd:Int)(f:Nat)(x:Str)(st:Bool)(W:Int->LL->Prop)(d:Str),vs=[.ref p,.int bits]/\SpA H p wd f x st W d/\∀H' ws cf cs,zR H H'->W bits ws->Cl bits cf (f=32)->Cl bits cs (x=d)->Q (.str (T (jn [32] (ws++jk wd f x cf cs st)))) H'
include Z in
theorem Y7:Has P w K mg base "_law_form_text" 6 ["_law_spec","_law_bits"] (YH K):=by classical
 refine jZ Z.kn Z.b6 YG λs H E hr=>⟨_,zB (zJ (pbk K PySem.F.plainAttrs_str PySem.F.slot_str_join PySem.F.type_str_join (jnT K) (zW [32]) (pa1 (xH (cl:=[]) (fr:=[]) (is:=[]) rfl rfl trivial rfl trivial (by decide) (by right) rfl (by right) rfl (pil K (zE (VJ Z :) hr (sa2 (pw 0) (pw 1)))) (λ_ _ _ _=>xI) (λ_ _ _ _=>pii (ixt K) (pw 0)))))),?_⟩
 nofun;rintro _ Q ⟨p,bits,wd,f,x,st,W,d,rfl,hA,q⟩;symm;left;refine⟨p,bits,wd,f,x,st,W,d,rfl,hA,λL H1 ws1 cf cs g1 w1 i5 i6 R1=>?_⟩;have WT1:=hA.wt w1 cf cs;have q':=λH' g=>q H' ws1 cf cs g w1 i5 i6;clear q;generalize hw:ws1++jk wd f x cf cs st=ws at *;obtain⟨vs,eL,rw'⟩:=R1;have hl:=rw'.len;have hl2:=WT1.2.2;have hl3:=WT1.2.1;refine WI (SqL.of eL) (qU (by omega)) (λi ys H'=>H'=H1/\ys=tsV (ws.take i)) ⟨rfl,rfl⟩ (λi ys H' hi h=>?_) ?_ ?_
 .obtain⟨rfl,rfl⟩:=h;exact⟨SqL.of eL,by rw[show(tsV (ws.take i)).length=(ws.take i).length from length_map _,length_take];omega⟩
 .rintro i y ys H' hy hi ⟨rfl,rfl⟩;obtain⟨p2,t,xs,rfl,e2,ht⟩:=rw'.get hy;left;refine sF (v:=.str (T t)) (SqT.of e2) (nX (j:=0) rfl) ?_;refine nxC hi (And.intro rfl ?_);rw[List.take_add_one,ht];show tsV (ws.take i)++[V.str (T t)]=tsV (ws.take i++[t]);unfold tsV;rw[map_append];rfl
 .rintro ys H' ⟨rfl,rfl⟩ p3 H3 g3 e3;rw[hl,take_length]at e3;left;exact Z6 e3 (by show _+ws.length*1<=16777216;omega) (q' _ (g1.trans g3))
local macro_rules|`(tactic|walk_at "rdf")=>`(tactic|repeat' (first|((with_reducible refine' Kj ?hz ?_);(case hz=>exact qU (by simp only [length_cons,length_nil];decide));intro l' n')|walk_at "rd1"))
local macro_rules|`(tactic|walk_at "rdc")=>`(tactic|(with_reducible refine Da ?_))
def NL(H H':Hp)(l:Addr)(ws:LL):Prop:=zR H H'/\H l=none/\H' l=some (.lst (tsV ws))
variable{H1:Hp}
theorem NL.mk{l:Addr}(g:zR H H1)(n:H1 l=none)(e:xs=tsV ws):NL H (upd H1 l (.lst xs)) l ws:=by
 have n0:H l=none:=by
  cases hl:H l with
  |none=>rfl
  |some u=>rw[g.at hl]at n;cases n
 exact⟨zw g n0,n0,by rw[zO,e]⟩
variable{H2:Hp}
theorem NL.then{l:Addr}(h:NL H H1 l ws)(g:zR H1 H2):NL H H2 l ws:=⟨h.1.trans g,h.2.1,g.at h.2.2⟩
theorem Y8{l b:Addr}(h:NL H H1 l ws)(g:zR H1 H2)(e:H2 b=some (.lst (tsV ts)))(hz:ws.length+ts.length<=900)(q:∀H3,NL H H3 l (ws++ts)->Q .non H3):mX (.ref l) [.ref b] H2 Q:=by
 have tl:∀u:LL,(tsV u).length=u.length:=λu=>length_map _;refine⟨l,b,_,_,rfl,rfl,g.at h.2.2,e,qU (by rw[tl,tl];omega),q _ ⟨zw (h.1.trans g) h.2.1,h.2.1,?_⟩⟩;rw[zO,xv]
theorem t6{l:Addr}{t:LN}(h:NL H H1 l ws)(g:zR H1 H2)(hz:ws.length<=900)(q:∀H3,NL H H3 l (ws++[t])->Q .non H3):eX (.ref l) [.str (T t)] H2 Q:=by
 have tl:∀u:LL,(tsV u).length=u.length:=λu=>length_map _;refine y2 (g.at h.2.2) (qu (by rw[tl];omega)) (q _ ⟨zw (h.1.trans g) h.2.1,h.2.1,?_⟩);rw[zO];show some (HO.lst (tsV ws++tsV [t]))=_;rw[xv]
def dI(K:W.Frag):Sp:=λvs H Q _=>∃n w u:Str,vs=[.str n,.str w,.str u]/\∀l H',NL H H' l (opt (!decide (w=u)) [Lt n,Lt w])->Q (.ref l) H'
theorem kj{n w u:Str}(q:∀l H',NL H H' l (opt (!decide (w=u)) [Lt n,Lt w])->Q (.ref l) H'):dI K ([.str n,.str w,.str u]++[]) H Q E:=⟨n,w,u,rfl,q⟩
include Z in
theorem k9:Has P w K mg base "clause" 1 ["name","word","untold"] (dI K):=by
 refine jZ Z.kn Z.b7 nT λs H E hr=>⟨_,zB (zJ (jN (pt2 qD (pw 1) (pw 2)) (ze ZS) (ze (sa2 (pw 0) (pw 1))))),?_⟩
 nofun;rintro _ Q ⟨n,w,u,rfl,q⟩;symm;walk_at "rdf"
 .rename_i hc l' n';refine q _ _ (NL.mk (zR.refl _) n' ?_);rw[decide_eq_true hc];rfl
 .rename_i hc l' n';refine q _ _ (NL.mk (zR.refl _) n' ?_);rw[decide_eq_false hc];show[V.str n,V.str w]=[V.str (T (Lt n)),V.str (T (Lt w))];rw[XR,XR]
def Xe(K:W.Frag):Sp:=λvs H Q _=>∃c:Nat,vs=[.str (T [c])]/\Q (.str (T (sw c))) H
theorem s9{c:Nat}(q:Q (.str (T (sw c))) H):Xe K ([.str (T [c])]++[]) H Q E:=⟨c,rfl,q⟩
local macro_rules|`(tactic|walk_at "rdk")=>`(tactic|(with_reducible refine s9 ?_))
include Z in
theorem Qn:Has P w K mg base "sign_word" 1 ["sign"] (Xe K):=by
 refine jZ Z.kn Z.b8 WV λs H E hr=>⟨_,zB (zJ (jN (pt2 qD (pw 0) (pwl [32])) (zW [98,108,97,110,107]) (pv 0))),?_⟩
 nofun;rintro _ Q ⟨c,rfl,q⟩;symm;left
 .rename_i hc;have c32:c=32:=by simpa using hc
  subst c32;rw[show sw 32=[98,108,97,110,107]from by right]at q;exact q
 .rename_i hc;have c32:c≠32:=λh=>hc (by rw[h]);rw[show sw c=[c]from if_neg c32]at q;exact q
def K9(K:W.Frag):Sp:=λvs H Q _=>∃rs:LN,vs=[.str (T rs)]/\rs.length<=200/\Q (.str (T (swd rs))) H
include Z in
theorem cU:Has P w K mg base "signs_word" 1 ["signs"] (K9 K):=by classical
 have ss:Wu w K z6:=Z.ss;have ks:KDs w K z6 ["lower","upper","figures","all"]:=Z.ks;refine jZ Z.kn Z.b9 JE λs H E hr=>⟨_,zA (kQ PassesOwn.never rfl (BI (qg rfl Z.aF (v:=.ref z6) rfl)) (zh 1 JE.nd) (zB (zb (zX qD (zc lM (qg rfl Z.aF (v:=.ref z6) rfl) (pv 1)) (pv 0)) (zB (zJ (pv 1))) zM))) (zB (zJ (po2 qA (pwl [61]) (pw 0)))),?_⟩
 nofun;rintro _ Q ⟨rs,rfl,h2,q⟩;symm;left;refine Cw ks (λi σ H'=>H'=H/\(∀j<i,∀n v,KAt j n v->rs≠Lt v)/\∃r:Option V,σ=[some (.str (T rs)),r]) ⟨rfl,(λj hj=>absurd hj (Nat.not_lt_zero _)),none,rfl⟩ ?_ ?_
 .rintro i y σ H1 hy ⟨rfl,nj,r,rfl⟩;have hx:∃v:Str,X7 y v/\KAt i y v:=by
   match i,hy with
   |0,hy=>cases hy;exact⟨_,.inl ⟨rfl,rfl⟩,.inl ⟨rfl,rfl,rfl⟩⟩
   |1,hy=>cases hy;exact⟨_,.inr (.inl ⟨rfl,rfl⟩),.inr (.inl ⟨rfl,rfl,rfl⟩)⟩
   |2,hy=>cases hy;exact⟨_,.inr (.inr (.inl ⟨rfl,rfl⟩)),.inr (.inr (.inl ⟨rfl,rfl,rfl⟩))⟩
   |3,hy=>cases hy;exact⟨_,.inr (.inr (.inr ⟨rfl,rfl⟩)),.inr (.inr (.inr ⟨rfl,rfl,rfl⟩))⟩
   |(k+4),hy=>cases hy
  obtain⟨v,hk,ha⟩:=hx;have step:(¬rs=Lt v)->∀j<i+1,∀n v,KAt j n v->rs≠Lt v:=λh j hj n' v' ha'=>by
   rcases lt_or_ge j i with hlt|hge
   .exact nj j hlt n' v' ha'
   .have:j=i:=by omega
    subst this;have:v'=v:=by
     rcases ha with⟨h1,_,rfl⟩|⟨h1,_,rfl⟩|⟨h1,_,rfl⟩|⟨h1,_,rfl⟩<;>rcases ha' with⟨h2,_,rfl⟩|⟨h2,_,rfl⟩|⟨h2,_,rfl⟩|⟨h2,_,rfl⟩<;>first|rfl|omega
    rw[this];exact h
  left;refine oz (ss.get _ _ hk) ?_;left
  .rename_i hc;have e:swd rs=Lt y:=by rw[show rs=Lt v by rw[hc,YN]];exact Kh hk
   rw[e,XR]at q;exact q
  .rename_i hc;exact⟨rfl,step (λh=>hc (by rw[h,XR])),_,rfl⟩
 .rintro σ H1 ⟨rfl,nj,r,rfl⟩;left;have e:swd rs=61::rs:=Kl λn v hk=>by
   rcases hk with⟨h3,h4⟩|⟨h3,h4⟩|⟨h3,h4⟩|⟨h3,h4⟩
   .exact nj 0 (by show 0<4;decide) n v (.inl ⟨rfl,h3,h4⟩)
   .exact nj 1 (by show 1<4;decide) n v (.inr (.inl ⟨rfl,h3,h4⟩))
   .exact nj 2 (by show 2<4;decide) n v (.inr (.inr (.inl ⟨rfl,h3,h4⟩)))
   .exact nj 3 (by show 3<4;decide) n v (.inr (.inr (.inr ⟨rfl,h3,h4⟩)))
  rw[e]at q;exact q
theorem A1{a b:LN}:T a=T b↔a=b:=⟨λh=>by have:=congrArg Lt h;exact this,λh=>by rw[h]⟩
theorem pQ(h0:0<=wd)(h1:wd<=40):(!decide (T (dw wd)=T [48]))=decide (0<wd):=by
 rw[show decide (T (dw wd)=T [48])=decide (dw wd=[48])from decide_eq_decide.mpr A1,pi h0 h1];obtain⟨k,rfl⟩:∃k:Nat,wd=(k:Int):=⟨wd.toNat,by omega⟩
 have all:∀k,k<41->(!decide ((if k<10 then[fc k]else[fc (k/10),fc (k%10)])=[48]))=decide ((0:Int)<(k:Int)):=by right
 rw[toNat_natCast];exact all k (by omega)
theorem C9(h0:2<=b)(h1:b<=16):(!decide (T (dw b)= "10"))=!decide (b=10):=by
 rw[pi (by omega) (by omega)];obtain⟨k,rfl⟩:∃k:Nat,b=(k:Int):=⟨b.toNat,by omega⟩
 have all:∀k,k<17->(!decide (T (if k<10 then[fc k]else[fc (k/10),fc (k%10)])= "10"))=!decide ((k:Int)=10):=by right
 rw[toNat_natCast];exact all k (by omega)
theorem pq:sw f=[98,108,97,110,107]↔f=32:=by
 constructor
 .intro h;unfold sw at h;split at h
  .assumption
  .have:=congrArg List.length h;simp at this
 .rintro rfl;right
theorem sG:sw f=[46]↔f=46:=by
 constructor
 .intro h;unfold sw at h;split at h
  .have:=congrArg List.length h;rw[show(Lt "blank").length=5 from by right]at this;simp at this
  .simpa using h
 .rintro rfl;right
theorem BA:(!decide (T (sw f)=T [98,108,97,110,107]))=!decide (f=32):=by rw[show decide (T (sw f)=T [98,108,97,110,107])=decide (f=32)from decide_eq_decide.mpr (A1.trans pq)]
theorem sP:(!decide (T (sw f)=T [46]))=!decide (f=46):=by rw[show decide (T (sw f)=T [46])=decide (f=46)from decide_eq_decide.mpr (A1.trans sG)]
theorem Jj{c:Bool}{a b:LN}:(opt c [a,b]).length<=2:=yV
def Ko(K:W.Frag):Sp:=λvs H Q _=>∃(o C:Addr)(wd:Int)(f:Nat)(x:Str)(st:Bool)(more:List (Str×V))(d:Str),vs=[.ref o,.str d]/\zS K H o C wd f x st more/\0<=wd/\wd<=40/\∀l H',NL H H' l (jk wd f x (!decide (f=32)) (!decide (x=d)) st)->Q (.ref l) H'
include Z in
theorem Zi:Has P w K mg base "last_words" 2 ["form","side"] (Ko K):=by classical
 refine jZ Z.kn Z.ca JD λs H E hr=>⟨_,zA (zF 2 JD.nd (zE (k9 Z :) hr (pa3 (zW [119,105,100,116,104]) (zo qQ rfl Z.ap jz (pa1 (pfv K (pv 0)))) (zW [48])))) (zA (qO (pbk K PySem.F.plainAttrs_list PySem.F.slot_list_extend PySem.F.type_list_extend yd (pv 2) (pa1 (zE (k9 Z :) hr (pa3 (zW [102,105,108,108]) (zE (Qn Z :) hr (pa1 (pfv K (pv 0)))) (zW [98,108,97,110,107])))))) (zA (qO (pbk K PySem.F.plainAttrs_list PySem.F.slot_list_extend PySem.F.type_list_extend yd (pv 2) (pa1 (zE (k9 Z :) hr (pa3 (zW [115,105,100,101]) (pfv K (pv 0)) (pv 1)))))) (zA (zb (z7 (pfv K (pv 0))) (zB (qO (pbk K PySem.F.plainAttrs_list PySem.F.slot_list_append PySem.F.type_list_append xE (pv 2) (sa1 (pwl [115,116,114,105,99,116]))))) zM) (zB (zJ (pv 2)))))),?_⟩
 nofun;rintro _ Q ⟨o,C,wd,f,x,st,more,d,rfl,F0,h0,h1,q⟩;symm;left;refine kj λl H1 n1=>?_;rw[pQ h0 h1]at n1;have n1':NL H H1 l (opt (decide (0<wd)) [x4,dw wd]):=n1;clear n1;have F1:=F0.same n1'.1;have e1:=n1'.2.2;left;refine kj λb H2 n2=>?_;rw[BA]at n2;have F2:=F1.same n2.1;have n2':NL H1 H2 b (opt (!decide (f=32)) [jV,sw f]):=n2;clear n2;left;refine Y8 n1' n2'.1 n2'.2.2 (by have:=Jj (c:=decide (0<wd)) (a:=x4) (b:=dw wd);have:=Jj (c:=!decide (f=32)) (a:=jV) (b:=sw f);omega) λH3 n3=>?_;clear n2' F2 F1 e1;have F3:=F0.same n3.1;have e3:=n3.2.2;left;refine kj λb4 H4 n4=>?_;have n4':NL H3 H4 b4 (opt (!decide (x=d)) [xO,Lt x]):=n4;clear n4;left;refine Y8 n3 n4'.1 n4'.2.2 (by have:=Jj (c:=decide (0<wd)) (a:=x4) (b:=dw wd);have:=Jj (c:=!decide (f=32)) (a:=jV) (b:=sw f);have:=Jj (c:=!decide (x=d)) (a:=xO) (b:=Lt x);rw[length_append];omega) λH5 n5=>?_;clear n4' F3 e3 n3;have F5:=F0.same n5.1;have e5:=n5.2.2;cases st with
 |true=>
  left;refine t6 n5 (zR.refl _) (by have:=Jj (c:=decide (0<wd)) (a:=x4) (b:=dw wd);have:=Jj (c:=!decide (f=32)) (a:=jV) (b:=sw f);have:=Jj (c:=!decide (x=d)) (a:=xO) (b:=Lt x);rw[length_append,length_append];omega) λH6 n6=>?_;left;refine q _ _ ?_;unfold jk;simp only[append_assoc,append_nil]at n6 ⊢;exact n6
 |false=>
  left;refine q _ _ ?_;unfold jk;simp only[append_assoc,Y3,append_nil]at n5 ⊢;exact n5
theorem Ed{c:Bool}{a b d:LN}:(opt c [a,b,d]).length<=3:=yV
def nW(fg pl b:Int)(sn:Str)(z:Int)(m pt:Nat)(wy:Str):LL:=jH::dw fg::dw pl::Yw b (!decide (b=10)) (Jo sn (!decide (sn="minus")) (jl z m (yH pt (!decide (pt=46)) (dn wy (!decide (wy="near")) []))))
def VW(K:W.Frag)(C:Addr):Sp:=λvs H Q _=>∃(o:Addr)(fg pl b:Int)(sn:Str)(z:Int)(m pt:Nat)(wy:Str)(wd:Int)(f:Nat)(x:Str)(st:Bool),vs=[.ref o]/\zS K H o C wd f x st (jB fg pl b sn z m pt wy)/\QY fg pl b sn z m pt wy wd f x/\∀l H',NL H H' l (nW fg pl b sn z m pt wy)->Q (.ref l) H'
include Z in
theorem Vt:Has P w K mg base "number_words" 2 ["form"] (VW K zD):=by classical
 refine jZ Z.kn Z.cb Zz λs H E hr=>⟨_,zA (zF 1 Zz.nd (ze (pa3 (zW [110,117,109,98,101,114]) (zo qQ rfl Z.ap jz (pa1 (pfv K (pv 0)))) (zo qQ rfl Z.ap jz (pa1 (pfv K (pv 0))))))) (zA (qO (pbk K PySem.F.plainAttrs_list PySem.F.slot_list_extend PySem.F.type_list_extend yd (pv 1) (pa1 (zE (k9 Z :) hr (pa3 (zW [98,97,115,101]) (zo qQ rfl Z.ap jz (pa1 (pfv K (pv 0)))) qi))))) (zA (qO (pbk K PySem.F.plainAttrs_list PySem.F.slot_list_extend PySem.F.type_list_extend yd (pv 1) (pa1 (zE (k9 Z :) hr (pa3 (zW [115,105,103,110]) (pfv K (pv 0)) qi))))) (zA (zb (zX kz (pfv K (pv 0)) zK) (zB (qO (pbk K PySem.F.plainAttrs_list PySem.F.slot_list_extend PySem.F.type_list_extend yd (pv 1) (pa1 (ze (pa3 (zW [103,114,111,117,112,115]) (zo qQ rfl Z.ap jz (pa1 (pfv K (pv 0)))) (zE (Qn Z :) hr (pa1 (pfv K (pv 0)))))))))) zM) (zA (qO (pbk K PySem.F.plainAttrs_list PySem.F.slot_list_extend PySem.F.type_list_extend yd (pv 1) (pa1 (zE (k9 Z :) hr (pa3 (zW [112,111,105,110,116]) (zE (Qn Z :) hr (pa1 (pfv K (pv 0)))) (zW [46])))))) (zA (qO (pbk K PySem.F.plainAttrs_list PySem.F.slot_list_extend PySem.F.type_list_extend yd (pv 1) (pa1 (zE (k9 Z :) hr (pa3 (zW [119,97,121]) (pfv K (pv 0)) qi))))) (zB (zJ (pv 1)))))))),?_⟩
 nofun;rintro _ Q ⟨o,fg,pl,b,sn,z,m,pt,wy,wd,f,x,st,rfl,F0,ok,q⟩;symm;have o1:=ok.fg1;have o2:=ok.fg2;have o3:=ok.pl1;have o4:=ok.pl2;have o5:=ok.b1;have o6:=ok.b2;have o7:=ok.z1;have o8:=ok.z2;walk_at "rdf";rename_i l n0;have n1:NL H (upd H l (.lst [.str (T jH),.str (T (dw fg)),.str (T (dw pl))])) l [jH,dw fg,dw pl]:=NL.mk (zR.refl _) n0 rfl;generalize upd H l (.lst [.str (T jH),.str (T (dw fg)),.str (T (dw pl))])=H1 at *;have F1:=F0.same n1.1;have e1:=n1.2.2;left;refine kj λb2 H2 n2=>?_;rw[C9 o5 o6]at n2;have n2':NL H1 H2 b2 (opt (!decide (b=10)) [yZ,dw b]):=n2;clear n2;left;refine Y8 n1 n2'.1 n2'.2.2 (by have a1:=Jj (c:=!decide (b=10)) (a:=yZ) (b:=dw b);have a2:=Jj (c:=!decide (sn="minus")) (a:=yu) (b:=Lt sn);have a3:=Ed (c:=decide (0<z)) (a:=qo) (b:=dw z) (d:=sw m);have a4:=Jj (c:=!decide (pt=46)) (a:=xh) (b:=sw pt);have a5:=Jj (c:=!decide (wy="near")) (a:=YU) (b:=Lt wy);simp only[length_append,length_cons,length_nil]at *;omega) λH3 n3=>?_;clear n2' F1 e1 n1;have F3:=F0.same n3.1;have e3:=n3.2.2;left;refine kj λb4 H4 n4=>?_;have n4':NL H3 H4 b4 (opt (!decide (sn="minus")) [yu,Lt sn]):=n4;clear n4;left;refine Y8 n3 n4'.1 n4'.2.2 (by have a1:=Jj (c:=!decide (b=10)) (a:=yZ) (b:=dw b);have a2:=Jj (c:=!decide (sn="minus")) (a:=yu) (b:=Lt sn);have a3:=Ed (c:=decide (0<z)) (a:=qo) (b:=dw z) (d:=sw m);have a4:=Jj (c:=!decide (pt=46)) (a:=xh) (b:=sw pt);have a5:=Jj (c:=!decide (wy="near")) (a:=YU) (b:=Lt wy);simp only[length_append,length_cons,length_nil]at *;omega) λH5 n5=>?_;clear n4' F3 e3 n3;dsimp only;refine qV (λσ' H'=>σ'=[some (.ref o),some (.ref l)]/\NL H H' l (([jH,dw fg,dw pl]++opt (!decide (b=10)) [yZ,dw b]++opt (!decide (sn="minus")) [yu,Lt sn])++opt (decide (0<z)) [qo,dw z,sw m])) (λσ6 H6 h=>?_) (λR hR=>?_)
 .obtain⟨rfl,n6⟩:=h;clear n5;have F6:=F0.same n6.1;have e6:=n6.2.2;left;refine kj λb7 H7 n7=>?_;rw[sP]at n7;have n7':NL H6 H7 b7 (opt (!decide (pt=46)) [xh,sw pt]):=n7;clear n7;left;refine Y8 n6 n7'.1 n7'.2.2 (by have a1:=Jj (c:=!decide (b=10)) (a:=yZ) (b:=dw b);have a2:=Jj (c:=!decide (sn="minus")) (a:=yu) (b:=Lt sn);have a3:=Ed (c:=decide (0<z)) (a:=qo) (b:=dw z) (d:=sw m);have a4:=Jj (c:=!decide (pt=46)) (a:=xh) (b:=sw pt);have a5:=Jj (c:=!decide (wy="near")) (a:=YU) (b:=Lt wy);simp only[length_append,length_cons,length_nil]at *;omega) λH8 n8=>?_;clear n7' F6 e6 n6;have F8:=F0.same n8.1;have e8:=n8.2.2;left;refine kj λb9 H9 n9=>?_;have n9':NL H8 H9 b9 (opt (!decide (wy="near")) [YU,Lt wy]):=n9;clear n9;left;refine Y8 n8 n9'.1 n9'.2.2 (by have a1:=Jj (c:=!decide (b=10)) (a:=yZ) (b:=dw b);have a2:=Jj (c:=!decide (sn="minus")) (a:=yu) (b:=Lt sn);have a3:=Ed (c:=decide (0<z)) (a:=qo) (b:=dw z) (d:=sw m);have a4:=Jj (c:=!decide (pt=46)) (a:=xh) (b:=sw pt);have a5:=Jj (c:=!decide (wy="near")) (a:=YU) (b:=Lt wy);simp only[length_append,length_cons,length_nil]at *;omega) λH10 n10=>?_;left;refine q _ _ ?_;unfold nW Yw Jo jl yH dn;simp only[append_assoc,cons_append,nil_append,append_nil]at n10 ⊢;exact n10
 .have F5:=F0.same n5.1;have e5:=n5.2.2;walk_at "rdf"
  .rename_i hc l6 n6;have n6':NL H5 (upd H5 l6 (.lst [.str (T qo),.str (T (dw z)),.str (T (sw m))])) l6 [qo,dw z,sw m]:=NL.mk (zR.refl _) n6 rfl;refine Y8 n5 n6'.1 n6'.2.2 (by have a1:=Jj (c:=!decide (b=10)) (a:=yZ) (b:=dw b);have a2:=Jj (c:=!decide (sn="minus")) (a:=yu) (b:=Lt sn);have a3:=Ed (c:=decide (0<z)) (a:=qo) (b:=dw z) (d:=sw m);have a4:=Jj (c:=!decide (pt=46)) (a:=xh) (b:=sw pt);have a5:=Jj (c:=!decide (wy="near")) (a:=YU) (b:=Lt wy);simp only[length_append,length_cons,length_nil]at *;omega) λH7 n7=>?_;left;refine hR _ _ ⟨rfl,?_⟩;rw[decide_eq_true hc];exact n7
  .rename_i hc;refine hR _ _ ⟨rfl,?_⟩;rw[decide_eq_false hc,Y3,append_nil];exact n5
def wW(sg:LN)(lo hi:Int):LL:=JF::swd (wo 32 sg)::dw lo::dw hi::opt (decide (32∈sg)) [J8]
def Kw(K:W.Frag)(C:Addr):Sp:=λvs H Q _=>∃(o:Addr)(sg:LN)(lo hi wd:Int)(f:Nat)(x:Str)(st:Bool),vs=[.ref o]/\zS K H o C wd f x st (xn sg lo hi)/\SgE sg/\WdR lo hi wd f x/\∀l H',NL H H' l (wW sg lo hi)->Q (.ref l) H'
include Z in
theorem W9:Has P w K mg base "word_words" 2 ["form"] (Kw K zG):=by classical
 refine jZ Z.kn Z.cc JH λs H E hr=>⟨_,zA (zF 1 JH.nd (ze (rW (l:=[119,111,114,100]) (by right) (fY (lC (cU Z) hr rfl (fY (mR (c:=32) rfl rfl (pfv K (pv 0))) ZS)) (pa2 (zo qQ rfl Z.ap jz (pa1 (pfv K (pv 0)))) (zo qQ rfl Z.ap jz (pa1 (pfv K (pv 0))))))))) (zA (zb (Jr KP (zW [32]) (pfv K (pv 0)) (by with_unfolding_all rfl)) (zB (qO (pbk K PySem.F.plainAttrs_list PySem.F.slot_list_append PySem.F.type_list_append xE (pv 1) (sa1 (pwl [98,108,97,110,107]))))) zM) (zB (zJ (pv 1)))),?_⟩
 nofun;rintro _ Q ⟨o,sg,lo,hi,wd,f,x,st,rfl,F0,se,wr,q⟩;symm;have o1:=wr.lo1;have o2:=wr.lo2;have o3:=wr.hi2;have sl:=se.d.s2;have wl:(wo 32 sg).length<=200:=le_trans (length_filter_le _ _) sl;walk_at "rdf";refine(show DG K (Ey 0) "signs" _ _ _ from ?_);left;refine⟨sg,rfl,by omega,?_⟩;left;refine⟨wo 32 sg,rfl,wl,?_⟩;walk_at "rdf";rename_i l1 n0;have n1:NL H (upd H l1 (.lst [.str (T JF),.str (T (swd (wo 32 sg))),.str (T (dw lo)),.str (T (dw hi))])) l1 [JF,swd (wo 32 sg),dw lo,dw hi]:=NL.mk (zR.refl _) n0 rfl;generalize upd H l1 (.lst [.str (T JF),.str (T (swd (wo 32 sg))),.str (T (dw lo)),.str (T (dw hi))])=H1 at *;have F1:=F0.same n1.1;have e1:=n1.2.2;left
 .rename_i hc;refine t6 n1 (zR.refl _) (by show 4<=900;decide) λH2 n2=>?_;left;refine q _ _ ?_;unfold wW;rw[decide_eq_true hc];exact n2
 .rename_i hc;refine q _ _ ?_;unfold wW;rw[decide_eq_false hc];exact n1
def Yp(K:W.Frag)(C:Addr):Sp:=λvs H Q _=>∃(o L:Addr)(ns:LL)(wd:Int)(f:Nat)(x:Str)(st:Bool),vs=[.ref o]/\zS K H o C wd f x st (Je L)/\H L=some (.lst (tsV ns))/\1<=ns.length/\ns.length<=12/\∀l H',NL H H' l (yD::dw ns.length::ns)->Q (.ref l) H'
include Z in
theorem Vk:Has P w K mg base "choice_words" 1 ["form"] (Yp K zH):=by
 refine jZ Z.kn Z.cd Ys λs H E hr=>⟨_,zB (zJ (zU xR (ze (pa2 (zW [99,104,111,105,99,101]) (zo qQ rfl Z.ap jz (pa1 (zL (lnN K) Z.am rfl qE (pa1 (pfv K (pv 0)))))))) (pfv K (pv 0)))),?_⟩
 nofun;rintro _ Q ⟨o,L,ns,wd,f,x,st,rfl,F0,hL,n1,n12,q⟩;symm;have tl:(tsV ns).length=ns.length:=length_map _;walk_at "rdf";rename_i l1 n0;have n1':NL H (upd H l1 (.lst [.str (T yD),.str (T (dw (tsV ns).length))])) l1 [yD,dw (tsV ns).length]:=NL.mk (zR.refl _) n0 rfl;generalize upd H l1 (.lst [.str (T yD),.str (T (dw (tsV ns).length))])=H1 at *;have F1:=F0.same n1'.1;have hL1:=n1'.1.at hL;left;refine⟨l1,L,_,_,rfl,rfl,n1'.2.2,hL1,qU (by rw[show(tsV [yD,dw (tsV ns).length]).length=2 from rfl,tl];omega),λp hp=>q p _ (NL.mk n1'.1 hp ?_)⟩;rw[xv,tl];rfl
structure IsF(K:W.Frag)(c cN cW:Addr)(b1 b2:Bool):Prop where
 cl:Cls K c
 ha:W.findIn K (.ref c) "__class__"=some (some (.builtin "object.__class__"))
 hn:W.specialIn K (.builtin "object.__class__") "__get__"=some (some (.builtin "getset_descriptor.__get__"))
 ht:W.takesIn K (.builtin "object.__class__")=some true
 hm:W.mroIn K c (.type "object")=some true
 k1:W.kitOne K (.ref c) (.ref cN)=some b1
 k2:W.kitOne K (.ref c) (.ref cW)=some b2
theorem IsF.ty{c:Addr}{b1 b2:Bool}{more:List (Str×V)}(n:IsF K c cN cW b1 b2)(F:zS K H o c wd f x st more):fJ K H (.ref o) (.ref c):=let⟨_,e⟩:=F.at_;.ins e n.cl n.ha n.hn n.ht n.hm
section
variable{fg pl b:Int}{sn:Str}{z:Int}{m m' pt:Nat}{wy:Str}{wd:Int}{f:Nat}{x:Str}{cb cg cp cw cf cs st:Bool}
theorem eN:(jH::dw fg::dw pl::Yw b cb (Jo sn cg (jl z m (yH pt cp (dn wy cw [])))))++jk wd f x cf cs st=Am fg pl b sn z m pt wy wd f x cb cg cp cw cf cs st:=by
 unfold Am Yw Jo jl yH dn;simp only[cons_append,append_assoc,nil_append]
theorem Wn(h:0<z->m'=m):Am fg pl b sn z m' pt wy wd f x cb cg cp cw cf cs st=Am fg pl b sn z m pt wy wd f x cb cg cp cw cf cs st:=by
 by_cases hz:0<z
 .rw[h hz]
 .unfold Am jl;rw[decide_eq_false hz];rfl
end
abbrev dN(fg pl b:Int)(sn:Str)(z:Int)(m pt:Nat)(wy:Str)(wd:Int)(f:Nat)(x:Str)(st:Bool):LL:=Am fg pl b sn z m pt wy wd f x (!decide (b=10)) (!decide (sn="minus")) (!decide (pt=46)) (!decide (wy="near")) (!decide (f=32)) (!decide (x="right")) st
abbrev dW(sg:LN)(lo hi wd:Int)(f:Nat)(x:Str)(st:Bool):LL:=wW sg lo hi++jk wd f x (!decide (f=32)) (!decide (x="left")) st
abbrev dC(ns:LL)(wd:Int)(f:Nat)(x:Str)(st:Bool):LL:=(yD::dw ns.length::ns)++jk wd f x (!decide (f=32)) (!decide (x="left")) st
def Sh(ws:LL):Prop:=ws.flatten.length<=400/\ws.length<=30
def Xu(K:W.Frag)(CN CF CC:Addr):Sp:=λvs H Q _=>(∃(o:Addr)(fg pl b:Int)(sn:Str)(z:Int)(m pt:Nat)(wy:Str)(wd:Int)(f:Nat)(x:Str)(st:Bool),vs=[.ref o]/\zS K H o CN wd f x st (jB fg pl b sn z m pt wy)/\QY fg pl b sn z m pt wy wd f x/\Sh (dN fg pl b sn z m pt wy wd f x st)/\∀H',zR H H'->Q (.str (T (jn [32] (dN fg pl b sn z m pt wy wd f x st)))) H') \/
 (∃(o:Addr)(sg:LN)(lo hi wd:Int)(f:Nat)(x:Str)(st:Bool),vs=[.ref o]/\zS K H o CF wd f x st (xn sg lo hi)/\SgE sg/\WdR lo hi wd f x/\Sh (dW sg lo hi wd f x st)/\∀H',zR H H'->Q (.str (T (jn [32] (dW sg lo hi wd f x st)))) H') \/
 (∃(o L:Addr)(ns:LL)(wd:Int)(f:Nat)(x:Str)(st:Bool),vs=[.ref o]/\zS K H o CC wd f x st (Je L)/\H L=some (.lst (tsV ns))/\1<=ns.length/\ns.length<=12/\WdC wd f x/\Sh (dC ns wd f x st)/\∀H',zR H H'->Q (.str (T (jn [32] (dC ns wd f x st)))) H')
theorem eh(h:Sh ws):ws.flatten.length+ws.length*1<=16777216:=by
 have:=h.1;have:=h.2;omega
theorem K8{l1 l2:Addr}{w1 w2:LL}(n1:NL H H1 l1 w1)(n2:NL H1 H2 l2 w2)(hs:Sh (w1++w2))(q:∀p H3,zR H H3->H3 p=some (.lst (tsV (w1++w2)))->Q (.ref p) H3):oF (.ref l1) (.ref l2) H2 Q:=by
 have tl:∀u:LL,(tsV u).length=u.length:=λu=>length_map _;have h2:=hs.2;rw[length_append]at h2;refine tP (n2.1.at n1.2.2) n2.2.2 (qU (by rw[tl,tl];omega)) λp H3 g3 e3=>q p H3 (n1.1.trans (n2.1.trans g3)) ?_;rw[e3,xv]
include Z in
theorem fG:Has P w K mg base "show_form" 3 ["form"] (Xu K zD zG zH):=by classical
 have isn:IsF K zD zD zG true false:=⟨Z.cC,Z.c2,Z.c0,Z.c1,Z.c3,Z.c4,Z.c5⟩
 have isw:IsF K zG zD zG false true:=⟨Z.cF,Z.c6,Z.c0,Z.c1,Z.c7,Z.c8,Z.c9⟩
 have isc:IsF K zH zD zG false false:=⟨Z.cI,Z.da,Z.c0,Z.c1,Z.db,Z.dc,Z.dd⟩
 refine u4 Z.kn Z.ce (l1N (by intros;rfl)) λfq fd F=>?_;refine F.ok yt (λvs H Q E h=>?_) (λ_ _ _ s H vs Q E hr h=>?_)
 .obtain⟨o,fg,pl,b,sn,z,m,pt,wy,wd,f,x,st,rfl,F0,ok,hs,q⟩|⟨o,sg,lo,hi,wd,f,x,st,rfl,F0,se,wr,hs,q⟩|⟨o,L,ns,wd,f,x,st,rfl,F0,hL,n1,n12,wc,hs,q⟩:=h
  all_goals rfl
 refine⟨_,zA (zb (z7 (zL yC Z.ao rfl qK (pa2 (pv 0) (qg rfl Z.ai (v:=.ref zD) rfl)))) (zB (zF 1 yt.nd (zU xR (zE (Vt Z :) hr (sa1 (pw 0))) (zE (Zi Z :) hr (sa2 (pw 0) pws))))) (zB (zb (z7 (zL yC Z.ao rfl qK (pa2 (pv 0) (qg rfl Z.aj (v:=.ref zG) rfl)))) (zB (zF 1 yt.nd (zU xR (zE (W9 Z :) hr (sa1 (pw 0))) (zE (Zi Z :) hr (sa2 (pw 0) pws))))) (zB (zF 1 yt.nd (zU xR (zE (Vk Z :) hr (sa1 (pw 0))) (zE (Zi Z :) hr (sa2 (pw 0) pws)))))))) (zB (zJ (pbk K PySem.F.plainAttrs_str PySem.F.slot_str_join PySem.F.type_str_join (jnT K) (zW [32]) (sa1 (pw 1))))),?_⟩;k_extra "hz";obtain⟨o,fg,pl,b,sn,z,m,pt,wy,wd,f,x,st,rfl,F0,ok,hs,q⟩|⟨o,sg,lo,hi,wd,f,x,st,rfl,F0,se,wr,hs,q⟩|⟨o,L,ns,wd,f,x,st,rfl,F0,hL,n1,n12,wc,hs,q⟩:=h
 all_goals symm
 .left;refine JN (isn.ty F0) ⟨"",.inr ⟨_,rfl⟩⟩ isn.k1 ?_;left;refine⟨o,fg,pl,b,sn,z,m,pt,wy,wd,f,x,st,rfl,F0,ok,λl1 H1 n1=>?_⟩;have F1:=F0.same n1.1;left;refine⟨o,_,wd,f,x,st,_,"right",rfl,F1,ok.wd1,ok.wd2,λl2 H2 n2=>?_⟩;have e:nW fg pl b sn z m pt wy++jk wd f x (!decide (f=32)) (!decide (x="right")) st=dN fg pl b sn z m pt wy wd f x st:=eN;refine K8 n1 n2 (by rw[e];exact hs) λp H3 g3 e3=>?_;rw[e]at e3;left;exact Z6 e3 (eh hs) (q _ g3)
 .left;refine JN (isw.ty F0) ⟨"",.inr ⟨_,rfl⟩⟩ isw.k1 ?_;left;refine JN (isw.ty F0) ⟨"",.inr ⟨_,rfl⟩⟩ isw.k2 ?_;left;refine⟨o,sg,lo,hi,wd,f,x,st,rfl,F0,se,wr,λl1 H1 n1=>?_⟩;have F1:=F0.same n1.1;left;refine⟨o,_,wd,f,x,st,_,"left",rfl,F1,wr.wd1,wr.wd2,λl2 H2 n2=>?_⟩;refine K8 n1 n2 hs λp H3 g3 e3=>?_;left;exact Z6 e3 (eh hs) (q _ g3)
 .left;refine JN (isc.ty F0) ⟨"",.inr ⟨_,rfl⟩⟩ isc.k1 ?_;left;refine JN (isc.ty F0) ⟨"",.inr ⟨_,rfl⟩⟩ isc.k2 ?_;left;refine⟨o,L,ns,wd,f,x,st,rfl,F0,hL,n1,n12,λl1 H1 n1=>?_⟩;have F1:=F0.same n1.1;left;refine⟨o,_,wd,f,x,st,_,"left",rfl,F1,wc.wd1,wc.wd2,λl2 H2 n2=>?_⟩;refine K8 n1 n2 hs λp H3 g3 e3=>?_;left;exact Z6 e3 (eh hs) (q _ g3)
local macro_rules|`(tactic|walk_at "rdc")=>`(tactic|((with_reducible refine' WJ ?hz ?_);(case hz=>exact qU (by simp only [length_cons,length_nil];decide));intro p' H' g' n' e'))
local macro_rules|`(tactic|walk_at "rd1")=>`(tactic|((with_reducible refine' WJ ?hz ?_);(case hz=>exact qU (by simp only [length_cons,length_nil];decide));intro p' H' g' n' e'))
def Zw(K:W.Frag):Sp:=λvs H Q _=>∃b t:Int,vs=[.int b,.int t]/\2<=b/\b<=16/\0<=t/\t<=60/\Q (.int (b^t.toNat)) H
theorem Bu(h1:2<=b)(h2:b<=16)(h3:0<=t)(h4:t<=60)(q:Q (.int (b^t.toNat)) H):Zw K ([.int b,.int t]++[]) H Q E:=⟨b,t,rfl,h1,h2,h3,h4,q⟩
local macro_rules|`(tactic|walk_at "rdk")=>`(tactic|((with_reducible refine' Bu ?h1 ?h2 ?h3 ?h4 ?_);(case h1|h2|h3|h4=>omega)))
def QU(K:W.Frag):Sp:=λvs H Q _=>∃a b:Int,vs=[.int a,.int b]/\0<b/\Q (.int (Int.gcd a b)) H
theorem m6(h:0<b)(q:Q (.int (Int.gcd a b)) H):QU K ([.int a,.int b]++[]) H Q E:=⟨a,b,rfl,h,q⟩
local macro_rules|`(tactic|walk_at "rdk")=>`(tactic|((with_reducible refine' m6 ?h ?_);(case h=>omega)))
def Q9(K:W.Frag):Sp:=λvs H Q _=>∃t b:Int,vs=[.int t,.int b]/\0<b/\b<10000000000000000000000000000000000000000000000000000000000000000000000000000000000000000000000000000000000000000000000000000000000000000000000000000000000000000000000000000000000000000000000/\∀p H',zR H H'->H' p=some (.tup [.int (Ji t b),.int (Jp t b)])->Q (.ref p) H'
def kI(K:W.Frag):Sp:=λvs H Q _=>∃n b:Int,vs=[.int n,.int b]/\0<=n/\2<=b/\b<=16/\n<1766847064778384329583297500742918515827483896875618958121606201292619776/\Q (.str (T (yh b.toNat n.toNat))) H
theorem ia{n:Int}(h1:0<=n)(h2:2<=b)(h3:b<=16)(h4:n<1766847064778384329583297500742918515827483896875618958121606201292619776)(q:Q (.str (T (yh b.toNat n.toNat))) H):kI K ([.int n,.int b]++[]) H Q E:=⟨n,b,rfl,h1,h2,h3,h4,q⟩
local macro_rules|`(tactic|walk_at "rdk")=>`(tactic|((with_reducible refine' ia ?h1 ?h2 ?h3 ?h4 ?_);(case h1|h2|h3|h4=>omega)))
include Z in
theorem kA:Has P w K mg base "_law_power_of" 1 ["_law_base","_law_times"] (Zw K):=by
 refine jZ Z.kn Z.cf xL λs H E hr=>⟨_,zA (zF 2 xL.nd zK) (zA (kQ PassesOwn.never rfl (jW rfl Z.an (sa1 (pw 1))) (zh 3 xL.nd) (zB (zF 2 xL.nd (po2 qt (pw 2) (pw 0))))) (zB (zJ (pv 2)))),?_⟩
 nofun;rintro _ Q ⟨b,t,rfl,h1,h2,h3,h4,q⟩;symm;left;refine Ql (by omega) (by omega) (λi σ H'=>H'=H/\∃r,σ=[some (.int b),some (.int t),some (.int (b^i)),r]) ⟨rfl,none,by rw[Int.pow_zero];rfl⟩ ?_ ?_
 .rintro i σ H' hi ⟨rfl,r,rfl⟩;have z:=G1 (n:=i) h1 h2 (by omega);left;exact⟨rfl,some (.int (0+i)),by rw[pow_succ];rfl⟩
 .rintro σ H' ⟨rfl,r,rfl⟩;left;exact q
theorem ma(hl:0<l):Int.gcd l (g%l)=Int.gcd g l:=by
 rw[Int.gcd_comm g l];have e:g%l=g+l*(-(g/l)):=by
  have:=Int.emod_add_mul_ediv g l;rw[Int.mul_neg];omega
 rw[e,Int.gcd_add_mul_left_right]
include Z in
theorem Ke:Has P w K mg base "_law_divisor" 1 ["_law_one","_law_other"] (QU K):=by
 refine jZ Z.kn Z.cg Qd λs H E hr=>⟨_,zA (Jd PassesOwn.never (pt2 ZV (pw 1) pwi) (zB (EO (i:=0) (j:=1) rfl Qd.nd rfl rfl (by decide) rfl rfl (pa2 (pv 1) (po2 z9 (pw 0) (pw 1))) rfl))) (zB (zJ (zL kS Z.aw rfl KZ (sa1 (pw 0))))),?_⟩
 nofun;rintro _ Q ⟨a,b,rfl,h0,q⟩;symm;left;refine VQ (λm σ H'=>H'=H/\∃(g l:Int),σ=[some (.int g),some (.int l)]/\0<=l/\Int.gcd g l=Int.gcd a b/\m=l.toNat) ⟨_,rfl,a,b,rfl,by omega,rfl,rfl⟩ ?_;rintro m σ H' ⟨rfl,g,l,rfl,hl,hgl,rfl⟩;left
 .rename_i hc k' hk';subst hc;rw[Int.gcd_zero_right]at hgl;rw[<- hgl]at q;rw[show k'=(g.natAbs:Int)by omega];exact q
 .rename_i hc;have e1:=emod_nonneg g (show l≠0 by omega);have e2:=emod_lt_of_pos g (show 0<l by omega);exact⟨_,by omega,rfl,l,g%l,rfl,e1,(ma (by omega)).trans hgl,rfl⟩
include Z in
theorem Wl:Has P w K mg base "_law_lowest" 2 ["_law_top","_law_bottom"] (Q9 K):=by
 refine jZ Z.kn Z.ch Q3 λs H E hr=>⟨_,zA (zF 2 Q3.nd (zE (Ke Z :) hr (sa2 (pw 0) (pw 1)))) (zB (zJ (zY (pa2 (po2 qG (pw 0) (pw 2)) (po2 qG (pw 1) (pw 2)))))),?_⟩
 nofun;rintro _ Q ⟨t,b,rfl,h0,h1,q⟩;symm;have e0:0<(Int.gcd t b:Int):=by have:=Int.gcd_pos_of_ne_zero_right t (show b≠0 by omega);omega
 have e1:(Int.gcd t b:Int)<=b.natAbs:=by have:=Int.gcd_le_natAbs_right (a:=t) (b:=b) (by omega);omega
 left;refine q _ _ (by assumption) ?_;unfold Ji Jp WP;rw[if_neg (show ¬b<0 by omega),Int.fdiv_eq_ediv_of_nonneg _ (Int.le_of_lt e0),Int.fdiv_eq_ediv_of_nonneg _ (Int.le_of_lt e0)];assumption
theorem sY(h1:0<b)(h2:b<10000000000000000000000000000000000000000000000000000000000000000000000000000000000000000000000000000000000000000000000000000000000000000000000000000000000000000000000000000000000000000000000)(q:∀p H',zR H H'->H' p=some (.tup [.int (Ji t b),.int (Jp t b)])->Q (.ref p) H'):Q9 K ([.int t,.int b]++[]) H Q E:=⟨t,b,rfl,h1,h2,q⟩
include Z in
theorem ZB:Has P w K mg base "_law_in_figures" 1 ["_law_number","_law_base"] (kI K):=by classical
 refine jZ Z.kn Z.ci jM λs H E hr=>⟨_,zA (zF 2 jM.nd (zc jY qi (po2 z9 (pw 0) (pw 1)))) (zA (Jd PassesOwn.never (pt2 rC (pw 0) (pw 1)) (zA (zF 0 jM.nd (po2 qG (pw 0) (pw 1))) (zB (zF 2 jM.nd (zU qA (zc jY qi (po2 z9 (pw 0) (pw 1))) (pv 2)))))) (zB (zJ (pv 2)))),?_⟩
 nofun;rintro _ Q ⟨n,b,rfl,h1,h2,h3,h4,q⟩;symm;obtain⟨N,rfl⟩:=eq_ofNat_of_zero_le h1;obtain⟨m,rfl⟩:=eq_ofNat_of_zero_le (show 0<=b by omega);have hz:=JL (b:=m) (n:=N) (by omega) (by omega);have em:∀k:Nat,(k:Int)%(m:Int)=((k%m:Nat):Int):=λk=>(Int.natCast_emod k m).symm;have ed:∀k:Nat,(k:Int)/(m:Int)=((k/m:Nat):Int):=λk=>(Int.natCast_ediv k m).symm;have lm:∀k:Nat,k%m<m:=λk=>Nat.mod_lt k (by omega);simp only[toNat_natCast]at q;have l0:=lm N;have e0:=em N;left;rw[em N,toNat_natCast];refine VQ (λk σ H'=>H'=H/\∃l:LN,σ=[some (.int k),some (.int m),some (.str (T l))]/\yh m N=if k<m then l else yh m (k/m)++l) ⟨N,rfl,[fc (N%m)],rfl,?_⟩ ?_
 .split
  .rename_i z;rw[jL z,Nat.mod_eq_of_lt z]
  .rename_i z;exact Zk (by omega) (by omega)
 .rintro k σ H' ⟨rfl,l,rfl,e⟩;have lk:=lm (k/m);have ek:=em (k/m);have ek':=ed k;have ll:l.length<=240:=by
   have z:=congrArg List.length e;split at z
   .omega
   .rw[length_append]at z;omega
  left
  .rename_i hc;rw[ed k,em (k/m)];left;refine⟨k/m,Nat.div_lt_self (by omega) (by omega),rfl,fc (k/m%m)::l,rfl,?_⟩;rw[e,if_neg (by omega),VX (by omega) l];have dz:=Nat.div_eq_zero_iff_lt (x:=k/m) (show 0<m by omega);by_cases z:k/m<m
   .rw[if_pos z,if_pos (dz.mpr z)]
   .rw[if_neg z,if_neg (λy=>z (dz.mp y))]
  .rename_i hc;rw[if_pos (by omega)]at e;rw[<- e];exact q
def QW(K:W.Frag):Sp:=λvs H Q _=>∃(n:Int)(p:Addr)(fg pl b:Int)(sn:Str)(z:Int)(m pt:Nat)(wy:Str)(wd:Int)(f:Nat)(x:Str)(st:Bool),vs=[.int n,.ref p]/\Qj H p fg pl b sn z m pt wy wd f x st/\QY fg pl b sn z m pt wy wd f x/\0<=n/\Vi fg pl b n/\∀H',zR H H'->Q (.str (T (bdI n b pl pt z m))) H'
theorem BO{n:Int}{pt:Nat}(h1:Qj H p fg pl b sn z m pt wy wd f x st)(h2:QY fg pl b sn z m pt wy wd f x)(h3:0<=n)(h4:Vi fg pl b n)(q:∀H',zR H H'->Q (.str (T (bdI n b pl pt z m))) H'):QW K ([.int n,.ref p]++[]) H Q E:=⟨n,p,fg,pl,b,sn,z,m,pt,wy,wd,f,x,st,rfl,h1,h2,h3,h4,q⟩
def ZH(K:W.Frag):Sp:=λvs H Q _=>∃(k:Int)(p:Addr)(fg pl b:Int)(sn:Str)(z:Int)(m pt:Nat)(wy:Str)(wd:Int)(f:Nat)(x:Str)(st:Bool),vs=[.int k,.ref p]/\Qj H p fg pl b sn z m pt wy wd f x st/\QY fg pl b sn z m pt wy wd f x/\Vi fg pl b k/\∀q H',zR H H'->H' q=some (.tup [.str (T (stL sn (decide (k<0)))),.str (T (QI pl b sn z m pt k))])->Q (.ref q) H'
theorem Cy{pt:Nat}(h1:Qj H p fg pl b sn z m pt wy wd f x st)(h2:QY fg pl b sn z m pt wy wd f x)(h4:Vi fg pl b k)(q:∀q H',zR H H'->H' q=some (.tup [.str (T (stL sn (decide (k<0)))),.str (T (QI pl b sn z m pt k))])->Q (.ref q) H'):ZH K ([.int k,.ref p]++[]) H Q E:=⟨k,p,fg,pl,b,sn,z,m,pt,wy,wd,f,x,st,rfl,h1,h2,h4,q⟩
def Xp(K:W.Frag):Sp:=λvs H Q _=>∃c t m:Int,vs=[.int c,.int t,.int m]/\0<=t/\t<1000/\0<m/\∀v:Int,0<=v->v<m->Q (.int v) H
theorem Aw{m:Int}(h1:0<=t)(h1':t<1000)(h2:0<m)(q:∀v:Int,0<=v->v<m->Q (.int v) H):Xp K ([.int c,.int t,.int m]++[]) H Q E:=⟨c,t,m,rfl,h1,h1',h2,q⟩
local macro_rules|`(tactic|walk_at "rdk")=>`(tactic|((with_reducible refine' Aw ?h1 ?h1' ?h2 ?_);(case h1|h1'|h2=>omega);intro v' h0' h1'))
theorem mK{n:Int}{t:Nat}(h0:0<=n)(h1:0<=b):(n/b^t).toNat=n.toNat/b.toNat^t/\(n%b^t).toNat=n.toNat%b.toNat^t:=by
 obtain⟨N,rfl⟩:=eq_ofNat_of_zero_le h0;obtain⟨B,rfl⟩:=eq_ofNat_of_zero_le h1;have e:((B:Int)^t)=((B^t:Nat):Int):=by simp
 rw[e];exact⟨by rw[<- Int.natCast_ediv,toNat_natCast,toNat_natCast,toNat_natCast],by rw[<- Int.natCast_emod,toNat_natCast,toNat_natCast,toNat_natCast]⟩
theorem Dr{z:Nat}{a:LN}(h:0<a.length):gr z m (a.drop (a.length-1))=[a.getD (a.length-1) 0]:=by
 rw[fM (k:=0) h,if_neg (by omega),Nat.sub_zero,Nat.sub_zero,List.drop_length,show gr z m []=[]by unfold gr;rw[List.reverse_nil,y7 (by simp)];rfl];rfl
include Z in
theorem Km:Has P w K mg base "_law_body_by" 2 ["_law_steps","_law_spec"] (QW K):=by classical
 refine jZ Z.kn Z.cj zn λs H E hr=>⟨_,zA (aN (zx (slt K) (pv 1) (zt zK) (zt zK)) (pgt K rfl (qL (zh 2 zn.nd) (qL (zh 3 zn.nd) J5)))) (zA (aN (zx (slt K) (pv 1) (zt zK) (zt zK)) (pgt K rfl (qL (zh 4 zn.nd) (qL (zh 5 zn.nd) (qL (zh 6 zn.nd) J5))))) (zA (zF 7 zn.nd (zE (kA Z :) hr (sa2 (pw 3) (pw 2)))) (zA (zF 8 zn.nd (zE (ZB Z :) hr (pa2 (po2 qG (pw 0) (pw 7)) (pv 3)))) (zA (zF 9 zn.nd (zc jY (pv 8) (Zl xi zK))) (zA (kQ PassesOwn.never rfl (oj rfl Z.an (pa2 zK (zL za Z.am rfl qE (sa1 (pw 8))))) (zh 10 zn.nd) (zA (zb (PW.pt (QP (pt2 kz (pw 4) pwi) (y9 (zX qD (po2 z9 (pw 10) (pw 4)) zK)))) (zB (zF 9 zn.nd (po2 qA (pw 5) (pw 9)))) zM) (zB (zF 9 zn.nd (zU qA (zc jY (pv 8) (zU jP (zU jP (zL za Z.am rfl qE (sa1 (pw 8))) zK) (pv 10))) (pv 9)))))) (zA (zb (pt2 qD (pw 2) pwi) (zB (zJ (pv 9))) zM) (zA (zF 11 zn.nd (zE (ZB Z :) hr (pa2 (po2 z9 (pw 0) (pw 7)) (pv 3)))) (zB (zJ (zU qA (zU qA (po2 qA (pw 9) (pw 6)) (zU Zu (zW [48]) (zU jP (pv 2) (zL za Z.am rfl qE (sa1 (pw 11)))))) (pv 11))))))))))),?_⟩
 nofun;rintro _ Q ⟨n,p,fg,pl,b,sn,z,m,pt,wy,wd,f,x,st,rfl,hp,ok,h0,h1,q⟩;symm;unfold Qj at hp;have o1:=ok.fg1;have o2:=ok.fg2;have o3:=ok.pl1;have o4:=ok.pl2;have o5:=ok.b1;have o6:=ok.b2;have o7:=ok.z1;have o8:=ok.z2;have pw:=pw6 (b:=b) (t:=pl) o5 o6 o4;have lim:=tZ o1 o2 o3 o4 o5 o6 h0 h1;have d0:0<=n/b^pl.toNat:=Int.ediv_nonneg h0 (by omega);have d1:n/b^pl.toNat<=n:=Int.ediv_le_self _ h0;have m0:=emod_nonneg n (show b^pl.toNat≠0 by omega);have m1:=emod_lt_of_pos n (show 0<b^pl.toNat by omega);obtain⟨c1,c2⟩:=mK (t:=pl.toNat) h0 (show 0<=b by omega);have bd:=Bk (b:=b.toNat) (p:=pl.toNat) (pt:=pt) (z:=z.toNat) (m:=m) (n:=n.toNat) (by omega);rw[<- c1,<- c2]at bd;have a1:=YL (b:=b.toNat) (n:=(n/b^pl.toNat).toNat) (by omega);have a2:=JL (b:=b.toNat) (n:=(n/b^pl.toNat).toNat) (by omega) (by omega);have r1:=YL (b:=b.toNat) (n:=(n%b^pl.toNat).toNat) (by omega);have r2:=JL (b:=b.toNat) (n:=(n%b^pl.toNat).toNat) (by omega) (by omega);left;refine Vv (n:=13) hp rfl (by decide) λp1 H1 g1 e1=>?_;have e1':H1 p1=some (.tup [.int pl,.int b]):=e1;clear e1;left;refine Vv (n:=13) (g1.at hp) rfl (by decide) λp2 H2 g2 e2=>?_;have e2':H2 p2=some (.tup [.int z,.str (T [m]),.str (T [pt])]):=e2;clear e2;left;generalize yh b.toNat (n/b^pl.toNat).toNat=a at *;have gl:=dU (z:=z.toNat) (m:=m) (a:=a);refine sH (by omega) (λi σ H'=>H'=H2/\∃r:Option V,σ=[some (.int n),some (.ref p),some (.int pl),some (.int b),some (.int z),some (.str (T [m])),some (.str (T [pt])),some (.int (b^pl.toNat)),some (.str (T a)),some (.str (T (gr z.toNat m (a.drop (a.length-(i+1)))))),r,none]) ⟨rfl,none,by rw[Dr a1];rfl⟩ ?_ ?_
 .rintro i σ H' hi ⟨rfl,r,rfl⟩;have hl:=dU (z:=z.toNat) (m:=m) (a:=a.drop (a.length-(i+1)));rw[length_drop]at hl;replace hl:(gr z.toNat m (a.drop (a.length-(i+1)))).length<=480:=by omega
  have tn:=fM (z:=z.toNat) (m:=m) (a:=a) (k:=i+1) (by omega);obtain⟨Z,rfl⟩:=eq_ofNat_of_zero_le o7;have em:(1+(i:Int))%(Z:Int)=(((i+1)%Z:Nat):Int):=by rw[Int.natCast_emod,Int.natCast_add,Int.add_comm];rfl
  rw[toNat_natCast]at *;have ei:((a.length:Int)-1-(1+(i:Int))).toNat=a.length-1-(i+1):=by omega
  left
  .refine⟨rfl,some (.int (1+i)),?_⟩;rw[tn,if_pos ⟨by omega,by omega,by omega⟩,ei];rfl
  .refine⟨rfl,some (.int (1+i)),?_⟩;rw[tn,if_neg (by omega),ei];rfl
  .refine⟨rfl,some (.int (1+i)),?_⟩;rw[tn,if_neg (by omega),ei];rfl
 .rintro σ H' ⟨rfl,r,rfl⟩;rw[show a.length-(((a.length:Int)-1).toNat+1)=0 by omega,List.drop_zero];have q':=q _ (g1.trans g2);unfold bdI at q';rw[bd]at q';generalize gr z.toNat m a=ga at *;left
  .rw[if_pos (by omega)]at q';exact q'
  .rw[if_neg (by omega)]at q';unfold pz at q';generalize yh b.toNat (n%b^pl.toNat).toNat=rr at *;rw[show pl.toNat-rr.length=(pl-rr.length).toNat by omega,<- append_assoc]at q';exact q'
theorem lX{a:V}{B:LN}(h:stT sn bl=[]):some (HO.tup [a,.str (T B)])=some (.tup [a,.str (T (B++stT sn bl))]):=by rw[h,append_nil]
include Z in
theorem Yy:Has P w K mg base "_law_signed_by" 3 ["_law_steps","_law_spec"] (ZH K):=by classical
 refine jZ Z.kn Z.ck ZM λs H E hr=>⟨_,zA (zF 2 ZM.nd (zE (Km Z :) hr (pa2 (zL kS Z.aw rfl KZ (sa1 (pw 0))) (pv 1)))) (zA (zb (PW.pt (QP (zX qD (pii (ixt K) (pw 1)) qi) (y9 (pt2 Vl (pw 0) pwi)))) (zB (zJ (zY (pa2 (zW [40]) (po2 qA (pw 2) (pwl [41])))))) zM) (zA (zb (PW.pt (QP (zX qD (pii (ixt K) (pw 1)) qi) (y9 (pt2 Vl (pw 0) pwi)))) (zB (zJ (zY (pa2 (zW []) (po2 qA (pw 2) (pwl [45])))))) zM) (zA (zb (pt2 Vl (pw 0) pwi) (zB (zJ (zY (sa2 (pwl [45]) (pw 2))))) zM) (zA (zb (zX qD (pii (ixt K) (pw 1)) qi) (zB (zJ (zY (sa2 (pwl [43]) (pw 2))))) zM) (zA (zb (zX qD (pii (ixt K) (pw 1)) (zW [98,108,97,110,107])) (zB (zJ (zY (sa2 (pwl [32]) (pw 2))))) zM) (zB (zJ (zY (sa2 (pwl []) (pw 2)))))))))),?_⟩
 nofun;rintro _ Q ⟨k,p,fg,pl,b,sn,z,m,pt,wy,wd,f,x,st,rfl,hp,ok,h1,q⟩;symm;have hp0:=hp;unfold Qj at hp;left;rename_i k' hk';obtain rfl:k'=(k.natAbs:Int):=by omega
 obtain⟨nb,n2,n3,n4⟩:=QC ok h1;have n5:(bdI k.natAbs b pl pt z m).length<=400:=by
  unfold xN sg at n4;rw[length_append,length_append]at n4;omega
 refine BO hp0 ok (by omega) (by unfold Vi;rw[Int.natAbs_natCast];exact h1) λH1 g1=>?_;unfold QI at q;have hp1:=g1.at hp;generalize bdI k.natAbs b pl pt z m=B at *;clear hp;rcases ok.sn with rfl|rfl|rfl|rfl|rfl
 all_goals left
 all_goals rename_i hc p2 H2 g2 e2
 all_goals first|rw[decide_eq_true hc]at q|rw[decide_eq_false hc]at q
 all_goals refine q _ _ (g1.trans g2) (e2.trans ?_)
 all_goals first|rfl|exact lX rfl
include Z in
theorem fE:Has P w K mg base "_law_great" 1 ["_law_cell","_law_at","_law_limit"] (Xp K):=by
 refine jZ Z.kn Z.cm XQ λs H E hr=>⟨_,zA (zb (PW.pt (QP (zX kz (pv 0) (du (k:=1000000000000000000) (by unfold E3;decide) (by right))) (y9 (zX kz (zU Kv (pv 0) (zU zm zK (po2 qt pwi (pw 1)))) zK)))) (zB (zJ (zU z9 (zU Kv (pv 0) (zU zm zK (po2 qt pwi (pw 1)))) (pv 2)))) zM) (zA (zF 3 XQ.nd (zU zm (zU zm (zU z9 (pv 0) (du (k:=10000000000000000000000000000000000000000) (by unfold E3;decide) (by right))) (po2 qt pwi (pw 1))) zK)) (zB (zJ (zU z9 (po2 qt (pw 3) pwi) (pv 2))))),?_⟩
 nofun;rintro _ Q ⟨c,t,m,rfl,ht,ht',hm,q⟩;symm;left;all_goals exact q _ (emod_nonneg _ (by omega)) (emod_lt_of_pos _ hm)
inductive Kd(H:Hp)(p:Addr)(wd:Int)(f:Nat)(x:Str)(st:Bool):Fd->Prop
 |num {fg pl b:Int} {sn:Str} {z:Int} {m pt:Nat} {wy:Str} (e:H p=some (.tup [.str "number",.int fg,.int pl,.int b,.str sn,.int z,.str (T [m]),.str (T [pt]),.str wy,.int wd,.str (T [f]),.str x,.bl st])) (ok:QY fg pl b sn z m pt wy wd f x):Kd H p wd f x st (.num fg pl b sn z m pt wy)
 |word {sg:LN} {lo hi:Int} (e:H p=some (.tup [.str "word",.str (T sg),.int lo,.int hi,.int wd,.str (T [f]),.str x,.bl st])) (ok:WdS sg lo hi wd f x):Kd H p wd f x st (.word sg lo hi)
 |cho {L:Addr} {ns:Ce} (e:H p=some (.tup [.str "choice",.ref L,.int wd,.str (T [f]),.str x,.bl st])) (eL:H L=some (.lst (tsV ns))) (ok:ChS ns wd f x):Kd H p wd f x st (.cho ns)
theorem Kd.same{d:Fd}(g:zR H H')(h:Kd H p wd f x st d):Kd H' p wd f x st d:=by
 cases h with
 |num e ok=>exact .num (g.at e) ok
 |word e ok=>exact .word (g.at e) ok
 |cho e eL ok=>exact .cho (g.at e) (g.at eL) ok
theorem oN(P:Int->Prop)(e:H p=some (.lst xs))(h0:0<=i)(h1:i<xs.length)(hx:∀v∈xs,∃k,v=.int k/\P k)(q:∀k,P k->Q (.int k) H):Aa K (.ref p) (.int i) H Q:=
 jF (SqL.of e) h0 h1 λx hi=>by
  obtain⟨k,rfl,hk⟩:=hx x (mem_of_getElem? hi);exact q k hk
local macro_rules|`(tactic|walk_at "rd1")=>`(tactic|first|((with_reducible refine' FE ?h ?hi (fun hi'=>?_) (fun hi'=>?_));(case h=>k_extra "hp");(case hi=>omega))|fail "none")
def Q0(K:W.Frag):Sp:=λvs H Q _=>∃(ld rs:LN)(p:Addr)(wd:Int)(f:Nat)(x:Str)(st:Bool)(d:Fd),vs=[.str (T ld),.str (T rs),.ref p]/\Kd H p wd f x st d/\ld.length<=2/\rs.length<=200/\∀H',zR H H'->Q (.str (T (JM ld (ld++rs) wd f x))) H'
theorem oJ{d:Fd}(h1:Kd H p wd f x st d)(h3:ld.length<=2)(h4:rs.length<=200)(q:∀H',zR H H'->Q (.str (T (JM ld (ld++rs) wd f x))) H'):Q0 K ([.str (T ld),.str (T rs),.ref p]++[]) H Q E:=⟨ld,rs,p,wd,f,x,st,d,rfl,h1,h3,h4,q⟩
theorem Kd.bd{d:Fd}(h:Kd H p wd f x st d):VZ x/\0<=wd/\wd<=40/\f<127:=by
 cases h with
 |num e ok=>exact⟨ok.x,ok.wd1,ok.wd2,ok.f⟩
 |word e ok=>exact⟨.inl ok.x,ok.wd1,ok.wd2,ok.f⟩
 |cho e eL ok=>exact⟨.inl ok.x,ok.wd1,ok.wd2,ok.f⟩
theorem Bg{d:Fd}(S:Kd H p wd f x st d)(q:Q (.int wd) H):AJ K (.ref p) (.int (-4)) H Q:=by
 cases S with
 |num e=>exact Q4 e rfl q
 |word e=>exact Q4 e rfl q
 |cho e=>exact Q4 e rfl q
theorem Gp{d:Fd}(S:Kd H p wd f x st d)(q:Q (.str (T [f])) H):AJ K (.ref p) (.int (-3)) H Q:=by
 cases S with
 |num e=>exact Q4 e rfl q
 |word e=>exact Q4 e rfl q
 |cho e=>exact Q4 e rfl q
theorem GX{d:Fd}(S:Kd H p wd f x st d)(q:Q (.str x) H):AJ K (.ref p) (.int (-2)) H Q:=by
 cases S with
 |num e=>exact Q4 e rfl q
 |word e=>exact Q4 e rfl q
 |cho e=>exact Q4 e rfl q
theorem EF{d:Fd}(S:Kd H p wd f x st d)(q:Q (.bl st) H):AJ K (.ref p) (.int (-1)) H Q:=by
 cases S with
 |num e=>exact Q4 e rfl q
 |word e=>exact Q4 e rfl q
 |cho e=>exact Q4 e rfl q
include Z in
theorem cV:Has P w K mg base "_law_filled" 1 ["_law_lead","_law_rest","_law_spec"] (Q0 K):=by classical
 refine jZ Z.kn Z.cl yB λs H E hr=>⟨_,zA (CM (i:=3) (j:=4) (k:=5) rfl yB.nd rfl rfl rfl rfl rfl rfl (pa3 (zc (ixt K) (pv 2) (Zl xi zK)) (zc (ixt K) (pv 2) (Zl xi zK)) (zc (ixt K) (pv 2) (Zl xi zK))) rfl) (zA (zF 6 yB.nd (zL (QF rfl) Z.aq rfl gX (pa2 zK (zU jP (zU jP (pv 3) (zL za Z.am rfl qE (sa1 (pw 0)))) (zL za Z.am rfl qE (sa1 (pw 1))))))) (zA (zb (pt2 qD (pw 5) pws) (zB (zJ (zU qA (zU qA (pv 0) (po2 Zu (pw 4) (pw 6))) (pv 1)))) zM) (zA (zF 7 yB.nd (zc (ixl K) (ze (pa3 zK (pv 6) (po2 qG (pw 6) pwi))) (pbk K PySem.F.plainAttrs_list PySem.F.slot_list_index PySem.F.type_list_index lQ (ze (sa3 pws pws pws)) (sa1 (pw 5))))) (zB (zJ (zU qA (zU qA (zU qA (po2 Zu (pw 4) (pw 7)) (pv 0)) (pv 1)) (zU Zu (pv 4) (po2 jP (pw 6) (pw 7))))))))),?_⟩
 nofun;rintro _ Q ⟨ld,rs,p,wd,f,x,st,d,rfl,D0,h1,h2,q⟩;symm;obtain⟨sx0,w0,w1,_⟩:=D0.bd;have lt:((ld++rs).length:Int)=ld.length+rs.length:=by rw[length_append];omega
 have bl:=Jz (ld++rs).length wd (by omega) w1;have bi:=Jz rs.length (wd-ld.length) (by omega) (by omega);unfold JM at q;left;refine Bg D0 ?_;left;refine Gp D0 ?_;left;refine GX D0 ?_;left
 .rename_i k' hk' hc;rw[if_pos hc,drop_left]at q;have e1:k'=lk rs.length (wd-ld.length):=by omega
  have q':=q _ (zR.refl _);unfold pad at q';rw[show pB "right" rs.length (wd-ld.length)=0 by unfold pB;rw[pAr];omega,pAr]at q';subst e1;rw[show Int.toNat 0=0 from rfl,List.replicate_zero,append_nil,<- append_assoc]at q';exact q'
 .rename_i k0 hk0 hc q2 H2 g2 n2 e2 q3 H3 g3 n3 e3;have sx:Zd x:=sx0.elim id λz=>absurd z hc;have pb:=yb (n:=(ld++rs).length) sx (by omega) w1;have hk:k0=lk (ld++rs).length wd:=by omega
  clear hk0;subst hk;have fin:∃j:Nat,(["left","right","middle"]:List Str)[j]?=some x/\(∀m,m<j->(["left","right","middle"]:List Str)[m]?≠some x)/\j<1000/\atI [V.int 0,V.int (lk (ld++rs).length wd),V.int (lk (ld++rs).length wd/2)] j=some (.int (pA x (ld++rs).length wd)):=by
   rcases sx with rfl|rfl|rfl
   .exact⟨0,rfl,λm hm=>absurd hm (Nat.not_lt_zero m),by decide,by rw[pAl];rfl⟩
   .exact⟨1,rfl,λm hm=>by rw[show m=0 by omega];right,by decide,by rw[pAr];rfl⟩
   .exact⟨2,rfl,λm hm=>by rcases(show m=0\/m=1 by omega)with rfl|rfl<;>right,by decide,by rw[pAm];rfl⟩
  obtain⟨j,j1,j2,j3,j4⟩:=fin;obtain⟨b1,b2,b3,_⟩:=pb;have e4:pB x (ld++rs).length wd=lk (ld++rs).length wd-pA x (ld++rs).length wd:=rfl;refine tW (zs:=["left","right","middle"]) j e3 j1 j2 j3 ?_;refine iX (SqL.of (g3.at e2)) j4 ?_;have q':=q _ (g2.trans g3);rw[if_neg hc]at q';unfold pad at q';rw[e4,<- append_assoc]at q';clear q j4 e2 bi;generalize pA x ((ld++rs).length:Int) wd=A at *;generalize lk ((ld++rs).length:Int) wd=L at *;left;exact q'
def DvA(v:V):Fd->Vc->Prop
 |.num _ _ _ _ _ _ _ _,.n k=>v=.int k
 |.word _ _ _,.t t=>v=.str (T t)
 |.cho _,.t t=>v=.str (T t)
 |_,_=>False
def JT(K:W.Frag):Sp:=λvs H Q _=>∃(p:Addr)(c j wd:Int)(f:Nat)(x:Str)(st:Bool)(d:Fd),vs=[.ref p,.int c,.int j]/\Kd H p wd f x st d/\0<=j/\j<5/\∀v cc H',zR H H'->DvA v d cc->Vok d cc->Q v H'
include Z in
theorem XA:Has P w K mg base "_law_drawn_value" 2 ["_law_spec","_law_cell","_law_j"] (JT K):=by classical
 refine jZ Z.kn Z.cn qj λs H E hr=>⟨_,zA (zF 3 qj.nd (zE (zN Z :) hr (pa3 (pv 1) (po2 zm pwi (pw 2)) zK))) (zA (zb (zX qD (pii (ixt K) (pw 0)) (zW [99,104,111,105,99,101])) (zB (zJ (zc (ixl K) (pii (ixt K) (pw 0)) (zE (zN Z :) hr (pa3 (pv 1) (po2 zm pwi (pw 2)) (zL (lnN K) Z.am rfl qE (pa1 (pii (ixt K) (pw 0))))))))) zM) (zA (zb (zX qD (pii (ixt K) (pw 0)) (zW [119,111,114,100])) (zA (zF 4 qj.nd (zc (ixl K) (ze (pa3 (pii (ixt K) (pw 0)) (pii (ixt K) (pw 0)) (zU zm (pii (ixt K) (pw 0)) (zE (zN Z :) hr (pa3 (pv 1) (po2 zm pwi (pw 2)) (zU zm (zU jP (pii (ixt K) (pw 0)) (pii (ixt K) (pw 0))) zK)))))) (po2 z9 (pw 3) pwi))) (zB (zJ (pbk K PySem.F.plainAttrs_str PySem.F.slot_str_join PySem.F.type_str_join (jnT K) (zW []) (pa1 (xH (cl:=[("_law_spec",s.heap.objs.size+1+0),("_law_j",s.heap.objs.size+1+2),("_law_cell",s.heap.objs.size+1+1)]) (fr:=["_law_cell","_law_j","_law_spec"]) (is:=[1,2,0]) rfl rfl ⟨rfl,⟨rfl,⟨rfl,trivial⟩⟩⟩ rfl ⟨⟨rfl,rfl,Or.inl rfl⟩,⟨⟨rfl,rfl,Or.inl rfl⟩,⟨⟨rfl,rfl,Or.inl rfl⟩,trivial⟩⟩⟩ (by decide) (by right) rfl (by right) rfl (jW rfl Z.an (sa1 (pw 4))) (λ_ _ _ _=>xI) (λ_ _ _ _=>zc jY (pii (ixt K) (pw 3)) (zE (zN Z :) hr (pa3 (pv 1) (zU zm (zU zm zK (po2 qt pwi (pw 2))) (pv 0)) (zL za Z.am rfl qE (pa1 (pii (ixt K) (pw 3))))))))))))) zM) (zA (zF 5 qj.nd (zE (kA Z :) hr (pa2 (pii (ixt K) (pw 0)) (zU zm (pii (ixt K) (pw 0)) (pii (ixt K) (pw 0)))))) (zA (zF 6 qj.nd (zc (ixl K) (ze (pa3 (zU z9 (zE (zN Z :) hr (pa3 (pv 1) (po2 zm pwi (pw 2)) zK)) (pv 5)) (po2 jP (pw 5) pwi) (zE (fE Z :) hr (sa3 (pw 1) (pw 2) (pw 5))))) (po2 z9 (pw 3) pwi))) (zB (zJ (zc (ixl K) (ze (pa2 (pv 6) (Zl xi (pv 6)))) (po2 qG (pw 3) pwi)))))))),?_⟩
 nofun;rintro _ Q ⟨p,c,j,wd,f,x,st,d,rfl,D0,j0,j5,q⟩;symm;cases D0 with
 |@num fg pl b sn z m pt wy e ok=>
  have o1:=ok.fg1;have o2:=ok.fg2;have o3:=ok.pl1;have o4:=ok.pl2;have o5:=ok.b1;have o6:=ok.b2;have pL:=nM o5 o6 (fg+pl).toNat;have pM:=fP (n:=(fg+pl).toNat) (m:=18) (by omega);have p18:(16:Int)^18=4722366482869645213696:=by decide
  have pn:((b.toNat^(fg+pl).toNat:Nat):Int)=b^(fg+pl).toNat:=by rw[natCast_pow,Int.toNat_of_nonneg (by omega)]
  have em:∀a:Int,0<=a%b^(fg+pl).toNat/\a%b^(fg+pl).toNat<b^(fg+pl).toNat:=λa=>⟨emod_nonneg a (by omega),emod_lt_of_pos a (by omega)⟩
  have fin:∀(k:Int)(H':Hp),zR H H' ->-(b^(fg+pl).toNat)<k->k<b^(fg+pl).toNat->Q (.int k) H':=λk H' g a1 a2=>q _ (.n k) _ g rfl (by show Vi fg pl b k;unfold Vi;omega);left;rename_i v2 a0 a1 v1 b0 b1 v0 c0 c1 p1 H1 g1 n1 e1;have em1:=em v1;refine oN (λk=>0<=k/\k<b^(fg+pl).toNat) e1 (by omega) (by show _<(3:Int);omega) (by simp only[mem_cons,not_mem_nil,or_false];rintro v (rfl|rfl|rfl)<;>exact⟨_,rfl,by omega,by omega⟩) λk hk=>?_;clear e1;left;all_goals exact fin _ _ (by k_extra "sm") (by omega) (by omega)
 |@word sg lo hi e ok=>
  have o1:=ok.s1;have o2:=ok.s2;have o3:=ok.lo1;have o4:=ok.lo2;have o5:=ok.hi2;left;rename_i v1 b0 b1 v0 c0 c1 p1 H1 g1 n1 e1;refine oN (λk=>lo<=k/\k<=hi) e1 (by omega) (by show _<(3:Int);omega) (by simp only[mem_cons,not_mem_nil,or_false];rintro v (rfl|rfl|rfl)<;>exact⟨_,rfl,by omega,by omega⟩) λk1 hk=>?_;have e2:=g1.at e;left;refine mQ (by omega) (by omega) (Nat.le_of_lt (qu (by omega))) (λi ys H'=>H'=H1/\∃cs:LN,cs.length=i/\(∀c∈cs,c∈sg)/\ys=tsV (cs.map λc=>[c])) ⟨rfl,[],rfl,(λ_ h=>absurd h not_mem_nil),rfl⟩ (λi ys H' _ zz=>by obtain⟨_,cs,h,_,e⟩:=zz;rw[e,qJ,length_map,h];omega) ?_ ?_
  .rintro i ys H' hi ⟨rfl,cs,l1,l2,rfl⟩;left;rename_i v2 _ _;refine nxC hi ⟨rfl,cs++[sg.getD v2.toNat 0],by rw[length_append,l1];rfl,?_,?_⟩
   .intro c hc;rcases List.mem_append.mp hc with h|h
    .exact l2 c h
    .rw[List.mem_singleton.mp h,getD_eq_getElem?_getD,getElem?_eq_getElem (by omega)];exact getElem_mem _
   .rw[map_append,<- xv];rfl
  .rintro ys H' ⟨rfl,cs,l1,l2,rfl⟩ p2 H2 g2 n2 e2;left;refine Z6 e2 (by rw[fl1,length_map];show cs.length+cs.length*0<=_;omega) ?_;rw[show Lt (T [])=[]from rfl,mO,fl1];exact q _ (.t cs) _ (g1.trans g2) rfl ⟨⟨by omega,by omega⟩,l2⟩
 |@cho L ns e eL ok=>
  have o1:=ok.n1;have o2:=ok.n2;left;refine oS (by omega) (by rw[qJ];omega) λv h0 h1=>?_;rw[qJ]at h1;refine jF (SqL.of eL) h0 (by rw[qJ];exact h1) λy hy=>?_;obtain⟨t,ht,rfl⟩:=k8 hy;exact q _ (.t t) _ (zR.refl _) rfl (mem_of_getElem? ht)
def J9(K:W.Frag):Sp:=λvs H Q _=>∃(p:Addr)(v:V)(cc:Vc)(wd:Int)(f:Nat)(x:Str)(st:Bool)(d:Fd),vs=[.ref p,v]/\Kd H p wd f x st d/\DvA v d cc/\Vok d cc/\∀q r v' H',zR H H'->H' q=some (.tup [v',.ref r])->H' r=some (.tup [.str (T (pr d cc).1),.str (T (pr d cc).2)])->VcN H' v' d cc->Q (.ref q) H'
include Z in
theorem Xy:Has P w K mg base "_law_value_pair" 4 ["_law_spec","_law_value"] (J9 K):=by
 refine jZ Z.kn Z.co Js λs H E hr=>⟨_,zA (zb (zX ZV (pii (ixt K) (pw 0)) (zW [110,117,109,98,101,114])) (zB (zJ (zY (pa2 (pv 1) (zY (sa2 (pwl []) (pw 1))))))) zM) (zB (zJ (zY (pa2 (zE (Wl Z :) hr (pa2 (pv 1) (zE (kA Z :) hr (pa2 (pii (ixt K) (pw 0)) (pii (ixt K) (pw 0)))))) (zE (Yy Z :) hr (sa2 (pw 1) (pw 0))))))),?_⟩
 nofun;rintro _ Q ⟨p,v,cc,wd,f,x,st,d,rfl,D0,V0,ov,q⟩;symm;cases D0 with
 |@num fg pl b sn z m pt wy e ok=>
  cases cc with
  |t t=>exact V0.elim
  |n k=>
   cases V0;have o1:=ok.fg1;have o2:=ok.fg2;have o3:=ok.pl1;have o4:=ok.pl2;have o5:=ok.b1;have o6:=ok.b2;have pw:=pw6 (b:=b) (t:=pl) o5 o6 o4;left;refine sY (by omega) (by omega) λp1 H1 g1 e1=>?_;left;refine Cy (g1.at e) ok ov λp2 H2 g2 e2=>?_;left;rename_i p3 H3 g3 e3;exact q _ _ _ _ (g1.trans (g2.trans g3)) e3 (g3.at e2) ⟨p1,rfl,g3.at (g2.at e1)⟩
 |@word sg lo hi e ok=>
  cases cc with
  |n k=>exact V0.elim
  |t t=>
   cases V0;left;rename_i p1 H1 g1 e1 p2 H2 g2 e2;exact q _ _ _ _ (g1.trans g2) e2 (g2.at e1) rfl
 |@cho L ns e eL ok=>
  cases cc with
  |n k=>exact V0.elim
  |t t=>
   cases V0;left;rename_i p1 H1 g1 e1 p2 H2 g2 e2;exact q _ _ _ _ (g1.trans g2) e2 (g2.at e1) rfl
theorem iy{w:Str}{P:Int}(hb:0<b)(h:a*P=b*k):hG w a b P=k:=by
 unfold hG;rw[h,Int.mul_emod_right,if_neg (λz=>absurd z.1 (by decide)),Int.mul_ediv_cancel_left _ (by omega)]
theorem iG{w:Str}(hS:0<S):hG w (Ji k S) (Jp k S) S=k:=by
 refine iy (Kx hS) ?_;have h1:=gi k S;have h2:=K7 k S;have e1:Ji k S*S=Ji k S*(Jp k S*WP k S):=by rw[h2]
 have e2:Jp k S*k=Jp k S*(Ji k S*WP k S):=by rw[h1]
 rw[e1,e2];ac_rfl
theorem Ck(hS:0<S)(h1:S<10000000000000000000000000000000000000000000000000000000000000000000000000000000000000000000000000000000000000000000000000000000000000000000000000000000000000000000000000000000000000000000000)(h2:-10000000000000000000000000000000000000000000000000000000000000000000000000000000000000000000000000000000000000000000000000000000000000000000000000000000000000000000000000000000000000000000000<k)(h3:k<10000000000000000000000000000000000000000000000000000000000000000000000000000000000000000000000000000000000000000000000000000000000000000000000000000000000000000000000000000000000000000000000):GrB (Ji k S) (Jp k S):=DM hS h1 h2 h3
theorem HK{K:PySem.W.Frag}{d:Fd}(F:Yn K H o cN cW cC wd f x st d)(W:VlA H v d ld rs):CoA K H o v cN cW cC wd f x st (ld++rs) ld:=by
 have ok:=W.ok F.okS;cases W with
 |@num p fg pl b sn z m pt wy k hv hp lim=>
  cases F with
  |num F ok=>
   have o1:=ok.fg1;have o2:=ok.fg2;have o3:=ok.pl1;have o4:=ok.pl2;have o5:=ok.b1;have o6:=ok.b2;have pw:=pw6 (b:=b) (t:=pl) o5 o6 o4;have lm:=tZ (n:=(k.natAbs:Int)) o1 o2 o3 o4 o5 o6 (by omega) (by unfold Vi at *;rw[Int.natAbs_natCast];exact lim);rw[<- yK];exact .num hv F ok hp (Ck (by omega) (by omega) (by omega) (by omega)) (tH (by omega)) (iG (by omega)) lim
 |@word sg lo hi t hv iw=>
  cases F with
  |word F o=>exact .word hv F (by simp;omega) iw o.x
 |@cho ns t hv hm=>
  cases F with
  |cho F e o=>exact .cho hv F e (by simp;omega) hm o.x
theorem IT{d:Fd}{m:Str}{sN sW sC:Sp}{σc:St}{t:TA}(D:Yn K H o cN cW cC wd f x st d)(hm:m∉bns++(nns++(wns++cns)))(wk:Wk σc σ)
  (hta:∀Q':VK,Q' (.ref o) H->ta σ H Q') (ht:∀Q':List V->Hp->Prop,Q' vs H->t σ H Q') (h:M3 d (sN (.ref o::(vs++[])) H Q E) (sW (.ref o::(vs++[])) H Q E) (sC (.ref o::(vs++[])) H Q E)):
  sE (gj cN m sN E σc ta t) (sE (gj cW m sW E σc ta t) (gj cC m sC E σc ta t)) σ H Q:=
 or3 (sN:=λvs H Q E=>Wk σc σ/\sN vs H Q E) (sW:=λvs H Q E=>Wk σc σ/\sW vs H Q E) (sC:=λvs H Q E=>Wk σc σ/\sC vs H Q E) D hm hta ht (by cases d<;>exact⟨wk,h⟩)
def AI(wd:Int)(st:Bool)(d:Fd)(c:Vc):Bool:=st&&decide (wd<(((pr d c).1++(pr d c).2).length:Int))
def ptx(wd:Int)(f:Nat)(x:Str)(d:Fd)(c:Vc):LN:=JM (pr d c).1 ((pr d c).1++(pr d c).2) wd f x
def KA(K:W.Frag)(cN cW cC:Addr):Sp:=λvs H Q _=>∃(o:Addr)(v:V)(wd:Int)(f:Nat)(x:Str)(st:Bool)(d:Fd)(c:Vc),vs=[.ref o,v]/\Yn K H o cN cW cC wd f x st d/\VcN H v d c/\Vok d c/\(AI wd st d c=true->∀H',zR H H'->Q (.str "wide") H')/\(AI wd st d c=false->∀p H',zR H H'->H' p=some (.tup [.str "text",.str (T (ptx wd f x d c))])->Q (.ref p) H')
include Z in
theorem Yr:Has P w K mg base "_law_put" 7 ["_law_form","_law_value"] (KA K zD zG zH):=by classical
 have eT:Exc K qC:=Z.cx;have xT:W.exmOne K (.ref qC) (.ref xY)=some true:=Z.Tx;have kT:W.kitOne K (.ref qC) (.ref qC)=some true:=Z.Tk;refine jZ Z.kn Z.cp Jw λs H E hr=>⟨_,zA (tE (i:=3) rfl rfl rfl (λ_ _ _=>zB (zF 2 Jw.nd (xQ (Vg (qw (XH Z) in0 :) Z.cC hr (pv 0) (sa1 (pw 1))) (xQ (Vg (qw (XH Z) in1 :) Z.cF hr (pv 0) (sa1 (pw 1))) (Vg (qw (XH Z) in2 :) Z.cI hr (pv 0) (sa1 (pw 1))))))) rfl Z.ab Jw.nd rfl rfl (λ_=>zB (zJ (zc (ixl K) (ze (sa2 pws pws)) (zo yE rfl Z.au Yt (pa1 (zL (mM (K:=K) rfl) Z.ao rfl qK (pa2 (pv 3) (qg rfl Z.ag (v:=.ref qC) rfl))))))))) (zB (zJ (zY (sa2 pws (pw 2))))),?_⟩
 nofun;rintro _ Q ⟨o,v,wd,f,x,st,d,c,rfl,D0,V0,ov,q1,q2⟩;symm;obtain⟨_,_,_,sx,w0,w1⟩:=D0.bd;have co:=HK D0 (V0.vl ov);left;refine BV [some (.ref o),some v,none,none] ?_;left;refine IT (vs:=[v]) D0 (by right) (by k_extra "wk") (λQ' h=>by left; exact h) (λQ' h=>by left; exact h) (uS ⟨o,v,wd,f,x,st,_,_,rfl,co,w1,λh H1 g1=>?_,λh H1 g1=>⟨qC,rfl,eT,xT,λy hy=>?_⟩⟩)
 .left;exact q2 h _ _ (by k_extra "sm") (by assumption)
 .have g3:zR H1 (upd H1 y (.ext (ExC y qC))):=qz hy _;have ey:upd H1 y (.ext (ExC y qC)) y=some (.ext (ExC y qC)):=zO;generalize upd H1 y (.ext (ExC y qC))=H3 at g3 ey ⊢;left;rename_i p4 H4 g4 n4 e4;refine En (g4.at ey) eT (.inr ⟨_,rfl⟩) kT ?_;left
  .rename_i hc;exact absurd hc (by decide)
  .exact q1 h _ (g1.trans (g3.trans g4))
def EA(K:W.Frag):R2:=λx y H Q=>∃d ds,Dt K H x d/\Dt K H y (.list ds)/\d∈ds/\PyData.canLayAll0 ds=true/\d.canLay0=true/\d.depth<=19/\Q (.bl false) H
theorem Co(hu:X.A.units+20<cLine):OpR X (compareOp .NotIn) (EA X.K):=by
 intro pins s σ H x y v u Q I rx ry h;obtain⟨d,ds,h1,h2,hm,c2,c,dp,q⟩:=h;obtain⟨as,r1⟩:=ko I h1 rx;obtain⟨bs,r2⟩:=ko I h2 ry;refine SeqAt.notIn_list_reads r2 r1 c2 c (by have:=Nat.min_le_right (PyData.depthAll ds) d.depth;omega) ⟨.bl _,H,I,rfl,?_⟩;rw[show(ds.any λy=>y.eqv d)=true from List.any_eq_true.mpr ⟨d,hm,SeqAt.eqv_refl d c⟩];exact q
def vdc:Fd->Vc->PyData
 |.num _ pl b _ _ _ _ _,.n k=>rD (b^pl.toNat) k
 |_,.t t=>sD t
 |_,_=>.none
theorem AW{d:Fd}{c:Vc}(h:VcN H v d c):Dt K H v (vdc d c):=by
 cases d with
 |num fg pl b sn z m pt wy=>cases c with
  |n k=>obtain⟨p,rfl,e⟩:=h;exact .tup (SqT.of e) (.cons (.int _) (.cons (.int _) .nil))
  |t t=>exact h.elim
 |word sg lo hi=>cases c with
  |n k=>exact h.elim
  |t t=>cases h;exact .str _
 |cho ns=>cases c with
  |n k=>exact h.elim
  |t t=>cases h;exact .str _
theorem oA{d:Fd}{c:Vc}(D:okS wd f x d)(o:Vok d c):(vdc d c).canLay0=true/\(vdc d c).depth<=2:=by
 have a:=(o.ok D).2.2.2;cases c with
 |n k=>cases d with
  |num=>exact⟨by simp[vdc,rD,PyData.canLay0,PyData.canLayAll0],by simp[vdc,rD,PyData.depth,PyData.depthAll]⟩
  |word=>exact o.elim
  |cho=>exact o.elim
 |t t=>
  have tx:Asc t->(sD t).canLay0=true/\(sD t).depth<=2:=λa=>by
   have:=Hm a;exact⟨by simp[sD,PyData.canLay0,this],by simp[sD,PyData.depth]⟩
  cases d with
  |num=>exact o.elim
  |word=>exact tx a
  |cho=>exact tx a
theorem Fc{d:Fd}{cs:List Vc}(al:Al (λv c=>VcN H v d c) us cs):Dts K H us (cs.map (vdc d)):=by
 induction al with
 |nil=>exact .nil
 |cons h _ ih=>exact .cons (AW h) ih
theorem mY{d:Fd}:∀{cs:List Vc},(∀c∈cs,(vdc d c).canLay0=true)->PyData.canLayAll0 (cs.map (vdc d))=true
 |[],_=>by simp[PyData.canLayAll0]
 |c::cs,h=>by simp only[map_cons,PyData.canLayAll0,h c (mem_cons_self ..),mY λq hq=>h q (mem_cons_of_mem _ hq),Bool.and_true]
theorem Dh{d:Fd}{c:Vc}{l:Addr}{cs:List Vc}(D:okS wd f x d)(e:H l=some (.lst us))(al:Al (λv c=>VcN H v d c) us cs)(ok:∀c∈cs,Vok d c)(vc:VcN H v d c)(hc:c∈cs)(q:Q (.bl false) H):EA K v (.ref l) H Q:=
 ⟨_,_,AW vc,.lst (SqL.of e) (Fc al),List.mem_map.mpr ⟨c,hc,rfl⟩,mY λc h=>(oA D (ok c h)).1,(oA D (ok c hc)).1,by have:=(oA D (ok c hc)).2;omega,q⟩
theorem uN{p':Addr}{t:LN}(a:Asc t)(e:H p=some (.tup [.str "text",.str (T t)]))(e':H p'=some (.tup [.str "text",.str (T t)]))(q:Q (.bl false) H):GE K (.ref p) (.ref p') H Q:=by
 have dt:∀{p},H p=some (.tup [.str "text",.str (T t)])->Dt K H (.ref p) (.tuple [.str "text",.str (T t)]):=λe=>.tup (SqT.of e) (.cons (.str _) (.cons (.str _) .nil));have o1:=Hm a;have o2:(PyData.str "text").canLay0=true:=by right
 rw[PyData.canLay0]at o2;exact HL (dt e) (dt e') (by simp only[PyData.canLay0,PyData.canLayAll0,o1,o2,Bool.and_true]) (by simp[PyData.depth,PyData.depthAll]) q
theorem Lik.pr{d:Fd}(h:Lik d d')(c:Vc):pr d' c=pr d c:=by
 cases h with
 |@num fg pl b sn z m m' pt wy h l=>
  by_cases hz:0<z
  .rw[h hz]
  .have z0:z.toNat=0:=by omega
   cases c with
   |t t=>rfl
   |n k=>
    show(stL sn _,QI pl b sn z m' pt k)=(stL sn _,QI pl b sn z m pt k);unfold QI bdI bdy;rw[z0,Zy,Zy]
 |word=>rfl
 |cho=>rfl
theorem Lik.vn{d:Fd}{c:Vc}(h:Lik d d')(x:Vok d c/\VcN H v d c):Vok d' c/\VcN H v d' c:=by
 cases h<;>cases c<;>exact x
theorem Br{d:Fd}{c:Vc}(D:Yn K H o cN cW cC wd f x st d)(V0:VcN H v d c)(ov:Vok d c)(q1:AI wd st d c=true->∀H',zR H H'->Q (.str "wide") H')(q2:AI wd st d c=false->∀p H',zR H H'->H' p=some (.tup [.str "text",.str (T (ptx wd f x d c))])->Q (.ref p) H'):KA K cN cW cC ([.ref o,v]++[]) H Q E:=⟨o,v,wd,f,x,st,d,c,rfl,D,V0,ov,q1,q2⟩
def Yz(K:W.Frag)(cN cW cC:Addr):Sp:=λvs H Q _=>∃(o p:Addr)(c j wd:Int)(f:Nat)(x:Str)(st:Bool)(d d':Fd),vs=[.ref o,.ref p,.int c,.int j]/\Yn K H o cN cW cC wd f x st d'/\Kd H p wd f x st d/\Lik d d'/\0<=j/\j<5/\∀H',zR H H'->Q (.bl true) H'
include Z in
theorem V1:Has P w K mg base "_law_puts" 8 ["_law_form","_law_spec","_law_cell","_law_j"] (Yz K zD zG zH):=by classical
 refine jZ Z.kn Z.cq yN λs H E hr=>⟨_,zA (aN (zE (Xy Z :) hr (pa2 (pv 1) (zE (XA Z :) hr (sa3 (pw 1) (pw 2) (pw 3))))) (pgt K rfl (qL (zh 4 yN.nd) (qL (zh 5 yN.nd) J5)))) (zA (zF 6 yN.nd (zE (cV Z :) hr (pa3 (pii (ixt K) (pw 5)) (pii (ixt K) (pw 5)) (pv 1)))) (zA (zb (PW.pt (QP (z7 (zc (ixt K) (pv 1) (Zl xi zK))) (y9 (zX kz (zL za Z.am rfl qE (pa1 (zU qA (pii (ixt K) (pw 5)) (pii (ixt K) (pw 5))))) (zc (ixt K) (pv 1) (Zl xi zK)))))) (zB (zJ (jT (FY (F7 hr)) (zE (Yr Z :) hr (sa2 (pw 0) (pw 4))) qi))) zM) (zA (zb (PW.pt (kE (zX (AT (F7 hr)) (zE (Yr Z :) hr (sa2 (pw 0) (pw 4))) (zY (sa2 pws (pw 6)))) (jc (Jr (Co (F7 hr)) (pv 4) (xQ (zQ (qw (xB Z) in0 :) Z.cC zd hr (pv 0) (sa1 (pw 6))) (xQ (zQ (qw (xl Z) in0 :) Z.cF zd hr (pv 0) (sa1 (pw 6))) (zQ (qw (j8 Z) in0 :) Z.cI zd hr (pv 0) (sa1 (pw 6))))) (by with_unfolding_all rfl))))) (zB (zJ QK)) zM) (zA (kQ PassesOwn.never rfl (pil K (xQ (zQ (qw (xB Z) in0 :) Z.cC zd hr (pv 0) (sa1 (pw 6))) (xQ (zQ (qw (xl Z) in0 :) Z.cF zd hr (pv 0) (sa1 (pw 6))) (zQ (qw (j8 Z) in0 :) Z.cI zd hr (pv 0) (sa1 (pw 6)))))) (zh 7 yN.nd) (zB (zb (zX (AT (F7 hr)) (zE (Yr Z :) hr (sa2 (pw 0) (pw 7))) (zY (sa2 pws (pw 6)))) (zB (zJ QK)) zM))) (zB (zJ QK)))))),?_⟩
 nofun;rintro _ Q ⟨o,p,c,j,wd,f,x,st,d,d',rfl,D0,S0,L0,j0,j5,q⟩;symm;obtain⟨sx,w0,w1,f1⟩:=S0.bd;left;refine⟨p,c,j,wd,f,x,st,d,rfl,S0,j0,j5,λv cc H1 g1 dv ov=>?_⟩;refine⟨p,v,cc,wd,f,x,st,d,rfl,S0.same g1,dv,ov,λq2 r2 v' H2 g2 e2 e2' vn=>?_⟩;rw[<- L0.pr]at e2';obtain⟨ov',vn'⟩:=L0.vn ⟨ov,vn⟩;have D2:=D0.same (g1.trans g2);have S2:=S0.same (g1.trans g2);obtain⟨l1,l2,a1,a2⟩:=ov'.ok D0.okS;obtain⟨fa,fl⟩:=Bm sx w0 w1 f1 l1 l2 a1 a2;have lt:(((pr d' cc).1++(pr d' cc).2).length:Int)=(pr d' cc).1.length+(pr d' cc).2.length:=by rw[length_append];omega
 have q':∀H',zR H2 H'->Q (.bl true) H':=λH' g=>q H' (g1.trans (g2.trans g));have hT:AI wd st d' cc=(st&&decide (wd<(((pr d' cc).1++(pr d' cc).2).length:Int))):=rfl;have hX:ptx wd f x d' cc=JM (pr d' cc).1 ((pr d' cc).1++(pr d' cc).2) wd f x:=rfl;clear dv ov vn q g1 g2;left;refine oJ S2 l1 l2 λH3 g3=>?_;rw[<- hX]at fa fl ⊢;have S3:=S2.same g3;have D3:=D2.same g3;have e3:=g3.at e2';have vn3:=vn'.same g3;have q3:∀H',zR H3 H'->Q (.bl true) H':=λH' g=>q' H' (g3.trans g);clear hX D0 S0 e2 vn' D2 S2 q' g3 e2';generalize ht:ptx wd f x d' cc=t at *;by_cases hw:AI wd st d' cc=true
 .have hw':=hw;rw[hT,Bool.and_eq_true,decide_eq_true_iff]at hw';obtain⟨rfl,hl⟩:=hw';left;refine EF S3 ?_;left;refine Bg S3 ?_;left;refine Br D3 vn3 ov' (λ_ H4 g4=>?_) (λz=>absurd (hw.symm.trans z) (by decide));left;exact GF (.str _) (.str _) (by right) (by decide) (q3 _ g4)
 .have hw0:AI wd st d' cc=false:=by simpa using hw
  refine qV (λσ' H'=>σ'=[some (.ref o),some (.ref p),some (.int c),some (.int j),some v',some (.ref r2),some (.str (T t)),none]/\H'=H3) ?j3 (λR hR=>?j2);case j2=>
   left;refine EF S3 ?_;cases st with
   |false=>
    left;exact hR _ _ ⟨rfl,rfl⟩
   |true=>
    rw[hT,Bool.true_and,decide_eq_false_iff_not]at hw0;left;refine Bg S3 ?_;left;exact hR _ _ ⟨rfl,rfl⟩
  rintro σ' H3 ⟨rfl,rfl⟩;have wide:∀c',Tld wd f x st t d' c'->¬AI wd st d' c'=true:=λc' h z=>absurd (h.2.1.symm.trans z) (by decide);have mem:Tld wd f x st t d' cc:=⟨ov',hw0,ht⟩
  left;refine Br D3 vn3 ov' (λz=>absurd z hw) (λ_ p4 H4 g4 e4=>?_);rw[ht]at e4;left;rename_i p5 H5 g5 e5;refine uN fa (g5.at e4) e5 ?_;have g35:=g4.trans g5;clear e4 e5 g4 g5;left;refine AY (D3.same g35) fa (by omega) (λQ' h=>by left; exact h) (λQ' h=>by left; exact h) λl6 H6 us cs g6 e6 al td=>?_;refine Dh D3.okS e6 al (λc hc=>((td.mem c).mp hc).1) (vn3.same (g35.trans g6)) ((td.mem _).mpr mem) ?_;have g36:=g35.trans g6;clear al e6 td g35 g6;left;refine AY (D3.same g36) fa (by omega) (λQ' h=>by left; exact h) (λQ' h=>by left; exact h) λl7 H7 us7 cs7 g7 e7 al td=>?_;have g37:=g36.trans g7;clear g36 g7;left;refine ls (SqL.of e7) (λi σ H'=>zR H7 H'/\∃a,σ=[some (.ref o),some (.ref p),some (.int c),some (.int j),some v',some (.ref r2),some (.str (T t)),a]) ⟨zR.refl _,_,rfl⟩ (λi σ H' hi z=>SqL.of (z.1.at e7)) ?_ ?_
  .rintro i u σ H8 hu ⟨g8,a,rfl⟩;obtain⟨c',hc',vc'⟩:=al.get hu;have tc:=(td.mem c').mp (mem_of_getElem? hc');left;refine Br (D3.same (g37.trans g8)) (vc'.same g8) tc.1 (λz=>absurd z (wide _ tc)) (λ_ p9 H9 g9 e9=>?_);rw[show ptx wd f x d' c'=t from tc.2.2]at e9;left;rename_i pA HA gA eA;refine uN fa (gA.at e9) eA ?_;left;exact⟨g8.trans (g9.trans gA),_,rfl⟩
  .rintro σ H8 ⟨g8,a,rfl⟩;left;exact q3 _ (g37.trans g8)
theorem WT.sh(h:WT ws 400 30):Sh ws:=⟨h.2.1,h.2.2⟩
theorem AX{sg:LN}(h:SgD sg):sgB (decide (32∈sg)) (wo 32 sg)=sg:=by
 match sg,h with
 |[],_=>rfl
 |c::r,h=>
  have hc:=AV (h.sgn c (mem_cons_self ..));have lt:=(List.pairwise_cons.mp h.up).1;have nr:∀d∈r,(d != 32)=true:=λd hd=>by
   have:=lt d hd;have:d≠32:=by omega
   simpa using this
  have fr:wo 32 r=r:=List.filter_eq_self.mpr nr;by_cases z:c=32
  .subst z;have w0:wo 32 (32::r)=r:=by
    rw[show wo 32 (32::r)=wo 32 r from filter_cons_of_neg (by decide)];exact fr
   rw[w0,decide_eq_true (mem_cons_self ..)];rfl
  .have w0:wo 32 (c::r)=c::r:=by
    rw[show wo 32 (c::r)=c::wo 32 r from filter_cons_of_pos (by simpa using z),fr]
   have n32:32∉c::r:=λm=>by
    rcases List.mem_cons.mp m with e|e
    .exact z e.symm
    .have:=lt 32 e;omega
   rw[w0,decide_eq_false n32];rfl
theorem D1{sg:LN}(h:SgE sg):SgW (swd (wo 32 sg)) (wo 32 sg):=by
 have l2:(wo 32 sg).length<=200:=le_trans (length_filter_le _ _) h.d.s2;have up:=DZ h.d;have ne:=h.ne;generalize wo 32 sg=rs at *;rcases Classical.em (∃n v,X7 n v/\rs=Lt v)with⟨n,v,k,rfl⟩|no
 .exact .inl ⟨n,v,k,Kh k,rfl⟩
 .rw[Kl λn v k e=>no ⟨n,v,k,e⟩];exact .inr ⟨rfl,ne,l2,up⟩
theorem cl0{e:Prop}[Decidable e]:Cl 0 (!decide e) e:=by
 by_cases h:e
 .rw[decide_eq_true h];exact⟨λ_=>h,(λ_ z=>by cases z)⟩
 .rw[decide_eq_false h];exact⟨(λz=>by cases z),λ_ _=>h⟩
theorem ox{K:PySem.W.Frag}{CN CF CC:Addr}{W:Int->LL->Prop}{dd:Str}(h:SpA H p wd f x st W dd):∃d,Kd H p wd f x st d /\
  (∀(bits:Int)(ws:LL)(cf cs:Bool)(H1:Hp)(Q:VK)(E:XK),W bits ws->Cl bits cf (f=32)->Cl bits cs (x=dd)->(∀o d' H',zR H1 H'->Yn K H' o CN CF CC wd f x st d'->Lik d d'->Q (.ref o) H')->Xg K CN CF CC ([.str (T (jn [32] (ws++jk wd f x cf cs st)))]++[]) H1 Q E) /\
  (∀(o:Addr)(d':Fd)(H1:Hp)(Q:VK)(E:XK),Yn K H1 o CN CF CC wd f x st d'->Lik d d'->(∀H' ws cf cs,zR H1 H'->W 0 ws->Cl 0 cf (f=32)->Cl 0 cs (x=dd)->Q (.str (T (jn [32] (ws++jk wd f x cf cs st)))) H')->Xu K CN CF CC ([.ref o]++[]) H1 Q E):=by
 have wt:=λ{bits:Int}{ws:LL}(w:W bits ws)(cf cs:Bool)=>h.wt w cf cs;rcases h with⟨fg,pl,b,sn,z,m,pt,wy,hp,ok,sg3,hs,rfl,rfl⟩|⟨sg,lo,hi,hp,se,wr,hs,rfl,rfl⟩|⟨L0,ns,hp,hL,nm,n1,n12,wc,hs,rfl,rfl⟩
 .have hss:∀m',m'<127->(st&&decide (wd<((xN pl b sn z m' pt 0).length:Int)))=false:=λm' _=>by
   cases st with
   |false=>rfl
   |true=>
    have:=hs rfl;rw[oZ ok.b1 ok.sn];unfold Wi at this;simp only[Bool.true_and,decide_eq_false_iff_not];omega
  refine⟨_,.num hp ok,λbits ws cf cs H1 Q E w1 i5 i6 q=>?_,λo d' H1 Q E F L q=>?_⟩
  .have WT1:=wt w1 cf cs;obtain⟨cb,cg,cp,cw,i1,i2,i3,i4,rfl⟩:=w1;rw[eN]at *;obtain⟨j1,j2,j4⟩:=Ch WT1;exact⟨_,wd,f,x,st,_,rfl,.num ok i1.1 i2.1 i3.1 i4.1 i5.1 i6.1,j4,j1,le_trans j2 (by decide),le_trans WT1.2.2 (by decide),hss,q⟩
  .have w0:WN fg pl b sn z m pt wy 0 _:=⟨_,_,_,_,cl0,cl0,cl0,cl0,rfl⟩
   have WT1:=wt w0 (!decide (f=32)) (!decide (x="right"));have q':=λH' g=>q H' _ _ _ g w0 cl0 cl0;rw[eN]at WT1 q';cases L with
   |@num _ _ _ _ _ _ m' _ _ hm l=>
    cases F with
    |num F ok'=>exact .inl ⟨o,fg,pl,b,sn,z,m',pt,wy,wd,f,x,st,rfl,F,ok',by unfold dN;rw[Wn hm];exact WT1.sh,λH' g=>by unfold dN;rw[Wn hm];exact q' H' g⟩
 .have ok:WdS sg lo hi wd f x:={ s1:=se.d.s1,s2:=se.d.s2,lo1:=wr.lo1,lo2:=wr.lo2,hi2:=wr.hi2,wd1:=wr.wd1,wd2:=wr.wd2,x:=wr.x,sa:=λc hc=>VS (se.d.sgn c hc),f:=VS wr.f }
  refine⟨_,.word hp ok,λbits ws cf cs H1 Q E w1 i5 i6 q=>?_,λo d' H1 Q E F L q=>?_⟩
  .have WT1:=wt w1 cf cs;obtain⟨w,hw,_,rfl⟩:=w1;obtain⟨j1,j2,j4⟩:=Ch WT1;have T1:Wds wd f x st _ _:=.word (cb:=decide (32∈sg)) (sg:=wo 32 sg) (lo:=lo) (hi:=hi) (x:=x) hw (by rw[AX se.d];exact ok) i5.1 i6.1;rw[AX se.d]at T1;exact⟨_,wd,f,x,st,_,rfl,T1,j4,j1,le_trans j2 (by decide),le_trans WT1.2.2 (by decide),hs,q⟩
  .have w0:WW sg lo hi 0 _:=⟨_,D1 se,λ_=>rfl,rfl⟩
   have WT1:=wt w0 (!decide (f=32)) (!decide (x="left"));cases L with
   |word=>
    cases F with
    |word F ok'=>exact .inr (.inl ⟨o,sg,lo,hi,wd,f,x,st,rfl,F,se,wr,WT1.sh,λH' g=>q H' _ _ _ g w0 cl0 cl0⟩)
 .have ok:ChS ns wd f x:={ n1:=n1,n2:=n12,len:=nm.len,wd1:=wc.wd1,wd2:=wc.wd2,x:=wc.x,ta:=λt ht c hc=>VS (.inr (nm.sgn t ht c hc)),nd:=nm.nd,f:=VS wc.f }
  refine⟨_,.cho hp hL ok,λbits ws cf cs H1 Q E w1 i5 i6 q=>?_,λo d' H1 Q E F L q=>?_⟩
  .have WT1:=wt w1 cf cs;cases w1;obtain⟨j1,j2,j4⟩:=Ch WT1;exact⟨_,wd,f,x,st,_,rfl,.cho ok i5.1 i6.1,j4,j1,le_trans j2 (by decide),le_trans WT1.2.2 (by decide),hs,q⟩
  .have w0:WC ns 0 _:=rfl;have WT1:=wt w0 (!decide (f=32)) (!decide (x="left"));cases L with
   |cho=>
    cases F with
    |cho F e ok'=>exact .inr (.inr ⟨o,_,ns,wd,f,x,st,rfl,F,e,n1,n12,wc,WT1.sh,λH' g=>q H' _ _ _ g w0 cl0 cl0⟩)
theorem u9{j:Int}{d:Fd}(F:Yn K H o cN cW cC wd f x st d')(S:Kd H p wd f x st d)(L:Lik d d')(j0:0<=j)(j5:j<5)(q:∀H',zR H H'->Q (.bl true) H'):Yz K cN cW cC ([.ref o,.ref p,.int c,.int j]++[]) H Q E:=⟨o,p,c,j,wd,f,x,st,d,d',rfl,F,S,L,j0,j5,q⟩
def Xc(K:W.Frag):Sp:=λvs H Q _=>∃c o:Int,vs=[.int c,.int o]/\∀H',zR H H'->Q (.bl true) H'
include Z in
theorem dq:Has P w K mg base "_law_right" 9 ["_law_cell","_law_other"] (Xc K):=by classical
 refine jZ Z.kn Z.cr xo λs H E hr=>⟨_,zA (zF 2 xo.nd (zE (Vn Z :) hr (pa3 (pv 0) (pv 1) (zE (zN Z :) hr (sa3 (pw 0) pwi pwi))))) (zA (zF 3 xo.nd (zE (VL Z :) hr (pa1 (zE (Y7 Z :) hr (pa2 (pv 2) (zE (zN Z :) hr (sa3 (pw 1) pwi pwi))))))) (zA (zF 4 xo.nd (zE (VL Z :) hr (pa1 (zE (fG Z :) hr (sa1 (pw 3)))))) (zA (kQ PassesOwn.never rfl (jW rfl Z.an (sa1 pwi)) (zh 5 xo.nd) (zB (zb (PW.pt (kE (qx (z7 (zE (V1 Z :) hr (sa4 (pw 3) (pw 2) (pw 0) (pw 5))))) (jc (qx (z7 (zE (V1 Z :) hr (sa4 (pw 4) (pw 2) (pw 0) (pw 5)))))))) (zB (zJ QK)) zM))) (zB (zJ QK))))),?_⟩
 nofun;rintro _ Q ⟨c,o,rfl,q⟩;symm;left;rename_i v v0 v3;refine⟨c,o,v,rfl,v0,v3,λp H1 wd f x st W dd g1 hA=>?_⟩;obtain⟨d,S1,rd,sh⟩:=ox (K:=K) (CN:=zD) (CF:=zG) (CC:=zH) hA;left;refine⟨p,_,wd,f,x,st,W,dd,rfl,hA,λH2 ws cf cs g2 w1 i5 i6=>?_⟩;left;refine rd _ _ _ _ _ _ _ w1 i5 i6 λo1 d1 H3 g3 F3 L1=>?_;left;refine sh _ _ _ _ _ F3 L1 λH4 ws4 cf4 cs4 g4 w4 i54 i64=>?_;left;refine rd _ _ _ _ _ _ _ w4 i54 i64 λo2 d2 H5 g5 F5 L2=>?_;have g25:=g2.trans (g3.trans (g4.trans g5));have q':∀H',zR H5 H'->Q (.bl true) H':=λH' g=>q H' (g1.trans (g25.trans g));have S5:=S1.same g25;have F35:=F3.same (g4.trans g5);clear q hA g1 rd sh S1 w1 w4 i5 i6 i54 i64 F3;left;refine Ql (by omega) (by omega) (λi σ H'=>zR H5 H'/\∃r:Option V,σ=[some (.int c),some (.int o),some (.ref p),some (.ref o1),some (.ref o2),r]) ⟨zR.refl _,none,rfl⟩ ?_ ?_
 .rintro i σ H6 hlt ⟨gg,r,rfl⟩;left;refine u9 (F35.same gg) (S5.same gg) L1 (by omega) (by omega) λH7 g7=>?_;left;refine u9 (F5.same (gg.trans g7)) (S5.same (gg.trans g7)) L2 (by omega) (by omega) λH8 g8=>?_;left;exact⟨gg.trans (g7.trans g8),_,rfl⟩
 .rintro σ H6 ⟨gg,r,rfl⟩;left;exact q' _ gg
def gJ(K:W.Frag):Sp:=λvs H Q _=>∃(a:Addr)(ns:List Int),vs=[.ref a]/\SqL K H a (ns.map V.int)/\ns.length<=63/\∀H',Q (.bl true) H'
theorem BP{o:Int}(q:∀H',zR H H'->Q (.bl true) H'):Xc K ([.int c,.int o]++[]) H Q E:=⟨c,o,rfl,q⟩
include Z in
theorem D7{fq:Addr}{fd:FuncData}(F:Fun K "law" "law" fL fq fd):yX P w K mg base CX0 10 fq fd ["_law_script"] (gJ K):=by
 refine F.ok tu (λvs H Q E=>?_) (λ_ _ _ s H vs Q E hr h=>?_)
 .k_extra "ln"
 obtain⟨a,ns,rfl,hS,h63,k⟩:=h;refine⟨_,zA (kQ PassesOwn.never rfl (jW rfl Z.an (pa1 (zL (QF rfl) Z.aq rfl gX (pa2 zK (zL (QA rfl) Z.ar rfl dO (pa2 zK (zU qG (zL (lnN K) Z.am rfl qE (sa1 (pw 0))) zK))))))) (zh 1 tu.nd) (zB (zb (qx (z7 (zE (dq Z :) hr (pa2 (zE (JW Z :) hr (pa2 (pv 0) (po2 qt pwi (pw 1)))) (zE (JW Z :) hr (pa2 (pv 0) (zU zm (po2 qt pwi (pw 1)) zK))))))) (zB (zJ QK)) zM))) (zB (zJ QK)),?_⟩;symm;left;rename_i k1 hk1 k0 hk0;rw[length_map]at hk1;refine Ql (by omega) (by omega) (λi σ H'=>zR H H'/\∃r:Option V,σ=[some (.ref a),r]) ⟨zR.refl _,none,rfl⟩ ?_ ?_
 .rintro i σ H1 hlt ⟨gg,r,rfl⟩;have hS1:=gg.seq hS;left;refine BP λH2 g2=>?_;left;exact⟨gg.trans g2,_,rfl⟩
 .rintro σ H1 ⟨gg,r,rfl⟩;left;exact k _
end
theorem all_mk{l:W.OpenLaw}{mg:Str->Option Value}{fa xY zg qF qc qp qC ZL zD zG zH zP jg z6 jU Xn:Addr}{Z5 xp jd:Tok}(hfa:mg "law"=some (.ref fa))(Z:Zs w K mg xY zg qF qc qp qC ZL zD zG zH zP jg z6 jU Xn Z5 xp jd):
  ∃fd:FuncData,(∀(s:Shared)(v:Value),BindsTo s fd ⟨[v],[]⟩ [("_law_script",v)])/\∀base:Heap,K.In base->base.Ns mainGlobals mg->yX l.prog w K mg base CX0 10 fa fd ["_law_script"] (gJ K):=by
 obtain⟨h,X,G⟩:=Z.kn;obtain⟨f,oc,od,kV,dc,pm,an,cd,ct,sl,a,l',c,k⟩:=Z.cs;have e:=hfa.symm.trans (W.mg_of X G a);cases e;exact⟨W.fnOf "law" "law" (qM fL) (zp fL) (zC fL) .none kV dc pm an cd ct,λs v=>.of_eq rfl,λbase _ _=>D7 Z (mB (st:=fL) l' c k)⟩
theorem walk {l:W.OpenLaw} {q:Program} {loose:List Str} {XP:(Str->Option Value)->Heap->Prop} {YP:World->Heap->Prop} {d:DefRec} {K:Params->W.Frag} (hn:l.most=some 63) (hdf:d.params.defaults=[])
  (hY : ∀ (w:World) (h:Heap),YP w h->(K w.params).In h)
  (F : ∀ (w:World) (mg:Str->Option Value) (fa:Addr) (h:Heap),(K w.params).In h->h.Ns mainGlobals mg->mg d.name=some (.ref fa) ->
   ∃ fd:FuncData,(∀ (s:Shared) (u:Value),BindsTo s fd ⟨[u],[]⟩ [("_law_script", u)]) /\ ∀ base:Heap,(K w.params).In base->base.Ns mainGlobals mg->yX l.prog w (K w.params) mg base CX0 10 fa fd ["_law_script"] (gJ (K w.params))) :
  W.WalkO q loose XP YP l.row.toRowW d [] (fun f vs=>PySem.call f vs):=
 L2.walk_of (n:=63) (k:=10) (x:="_law_script") (CX:=fun _=>CX0) (sp:=fun w=>gJ (K w.params)) hn (by decide) hdf ⟨rfl,by decide,by decide⟩ hY F (fun _ _ a ns hl _ hS=>⟨a,ns,rfl,hS,hl,fun _=>rfl⟩) fun _ _ _ _ _ z=>z
end Pw
namespace PySem.W.Fast
def tw7155519057809271189:=Nat
def tw16345174996278160443:=Nat
def tw8780496819183857347:=Nat
def tw1191625387151073614:=Nat
def tw9412850268425161453:=Nat
def tw13462018261642307258:=Nat
def tw4780318174389586458:=Nat
def tw6760245355716771555:=Nat
def tw705634624376074035:=Nat
def tw1307362125243568785:=Nat
def tw14446164659475586461:=Nat
def tw14363435759554331843:=Nat
def tw5698992020970506103:=Nat
def tw4525754219147710898:=Nat
def tw7142155644056379005:=Nat
def tw2747854457291578793:=Nat
def tw12450969321227066160:=Nat
def tw1412814405532997363:=Nat
def tw11899660170976690141:=Nat
def tw3369013966854233756:=Nat
def tw9425126177174007154:=Nat
def tw10950605720942885115:=Nat
def tw2615219376539218823:=Nat
def tw489728123982115752:=Nat
def tw7765670374209660156:=Nat
def tw13587786782347927201:=Nat
def tw11509944816590287092:=Nat
def tw6813785911346839043:=Nat
def tw16394856470168140114:=Nat
def tw1263414668338012372:=Nat
def tw18334102911420388630:=Nat
def tw9549072087508470574:=Nat
def tw11466374382382792664:=Nat
def tw12689124974813596140:=Nat
def tw949297960643922520:=Nat
def tw4593994607114956069:=Nat
def tw7675930251533983770:=Nat
def tw11965158011973205242:=Nat
def tw8744577645421174767:=Nat
def tw14191139933158331199:=Nat
def tw10211527512150394760:=Nat
def tw4123509892202022514:=Nat
def tw9738305183726566312:=Nat
def tw11550413385609925618:=Nat
def tw4763578350563560123:=Nat
def tw3348315826873504291:=Nat
def tw18255875585607694404:=Nat
def tw14621639280934350874:=Nat
def tw6156303836222427813:=Nat
def tw7462541916886482123:=Nat
def tw18171066927771226251:=Nat
def tw14794973295660074998:=Nat
def tw2019598612314885473:=Nat
def tw9665138832261030365:=Nat
def tw27736548439488690:=Nat
def tw8567528465201925182:=Nat
def tw4387590642253252197:=Nat
def tw14996948036903252104:=Nat
def tw13290496102262950964:=Nat
def tw6722595594412773219:=Nat
def tw14117390595204454765:=Nat
def tw14528228780339683595:=Nat
def tw14638597537549112389:=Nat
def tw5504632831076526467:=Nat
def tw12361979043793760297:=Nat
def tw2015532531810404878:=Nat
def tw10381107308925287464:=Nat
def tw2531625981996387495:=Nat
def tw2764604432356555236:=Nat
def tw11621236470163593522:=Nat
def tw8415149961398118154:=Nat
def tw15468840638408269052:=Nat
def tw7001930464379620327:=Nat
def tw14842267872431752873:=Nat
def tw10372242668356579134:=Nat
def tw2412877370044593804:=Nat
def tw165509733075210265:=Nat
def tw3605279005358072289:=Nat
def tw5551869052438459875:=Nat
def tw5283855121555629783:=Nat
def tw2341512016233866466:=Nat
def tw14247433156030202428:=Nat
def tw3401396921507059467:=Nat
def tw6435946866997778905:=Nat
def tw15477847597259172231:=Nat
def tw11237586355819493547:=Nat
def tw5979203736848175124:=Nat
def tw16609696739066641516:=Nat
def tw8367208942037616144:=Nat
def tw11814054503007524522:=Nat
def tw2841421811324112083:=Nat
def tw4166643940714058032:=Nat
def tw1872934793834926845:=Nat
def tw18054231217961705279:=Nat
def tw10694380041263819646:=Nat
def tw11941361751749049551:=Nat
def tw6545687655771290346:=Nat
def tw6008026080826437150:=Nat
def tw150465995044114584:=Nat
def tw4064978540715252614:=Nat
def tw8645513436967602778:=Nat
def tw7915052269526998538:=Nat
def tw5263433988700108053:=Nat
def tw14998872724200326750:=Nat
def tw12007512377826795769:=Nat
def tw12151588550357956707:=Nat
def tw16852824640240460838:=Nat
def tw6690365399566788725:=Nat
def tw5540957548877938017:=Nat
def tw8394458628158112800:=Nat
def tw6461585283814153024:=Nat
def tw15281608139410240324:=Nat
def tw11528457201777578492:=Nat
def tw1615474734415935585:=Nat
def tw2998795522010857336:=Nat
def tw12783260440986040789:=Nat
def tw8156461841430919039:=Nat
def tw8807865569536647146:=Nat
def tw17028402365528077372:=Nat
def tw17767033718886780207:=Nat
def tw11416444065497559772:=Nat
def tw613475018680827344:=Nat
def tw8618622386033066939:=Nat
def tw13505214817498898794:=Nat
def tw14402893687989553495:=Nat
def tw450800847225973602:=Nat
def tw15709428262851422624:=Nat
def tw9649949539841532916:=Nat
def tw17876420571659763324:=Nat
def tw10346975479415365864:=Nat
def tw5976398749687378336:=Nat
def tw1856792814044368079:=Nat
def tw13161456464853443537:=Nat
def tw3831254176531895446:=Nat
def tw17343374928978426122:=Nat
def tw14126011642503374893:=Nat
def tw2351603722540082725:=Nat
def tw3179221350522296472:=Nat
def tw3491944705018161388:=Nat
def tw1549525320543249826:=Nat
def tw14345897899834689875:=Nat
def tw13728738818903341186:=Nat
def tw3134809938709329838:=Nat
def tw1985396102867730130:=Nat
def tw6284048535615879080:=Nat
def tw6607343753716335119:=Nat
def tw5739168295458099939:=Nat
def tw3039247701491159873:=Nat
def tw13692812460616332963:=Nat
def tw12295816906823642830:=Nat
def tw7708104781016519752:=Nat
def tw2762114134559035047:=Nat
def tw1581782185302430077:=Nat
def tw4422402806980818989:=Nat
def tw8414693234398899057:=Nat
def tw13840505391546329201:=Nat
def tw16256727945275060314:=Nat
def tw7812989353381033772:=Nat
def tw5465921048478230896:=Nat
def tw678658640939603246:=Nat
def tw14417260802223038196:=Nat
def tw2083031707117014665:=Nat
def tw14037596736587001742:=Nat
def tw1793555877934114265:=Nat
def tw9816708188671833016:=Nat
def tw134902618621429297:=Nat
def tw4375578772067966310:=Nat
def tw227195918535707702:=Nat
def tw12348917792061908375:=Nat
def tw9683676467840903884:=Nat
def tw1212220448862652785:=Nat
def tw11846948097278688170:=Nat
def tw7441848003586692805:=Nat
def tw188840877547794926:=Nat
def tw2861859677014665269:=Nat
def tw7057416995679343321:=Nat
def tw15769091154343112785:=Nat
def tw14596805559601576098:=Nat
def tw11521130799383741083:=Nat
def tw3593827715040278298:=Nat
def tw3986129227213263802:=Nat
def tw706989506183937773:=Nat
def tw16068731801805918824:=Nat
def tw15672501009258285269:=Nat
def tw7077818378901824327:=Nat
def tw13511669859075120259:=Nat
def tw12770149681808366127:=Nat
def tw14746564612816418476:=Nat
def tw1760366133559094037:=Nat
def tw6793360691418073288:=Nat
def tw11306483315092652385:=Nat
def tw9892007889004945877:=Nat
def tw716349022875455077:=Nat
def tw2119062975198908218:=Nat
def tw1798821207439591714:=Nat
def tw1435392647752738117:=Nat
def tw10656850625925843939:=Nat
def tw9003285705418326734:=Nat
def tw12145377705703414218:=Nat
def tw6257776084599181648:=Nat
def tw8814936776276424803:=Nat
def tw9936627489023779036:=Nat
def tw6393865593783111141:=Nat
def tw4967721623632318477:=Nat
def tw15791590197831098412:=Nat
def tw68193283875812686:=Nat
def tw4267734672371076030:=Nat
def tw4764442680582983449:=Nat
def tw12798996780971895930:=Nat
def tw14880623244687818193:=Nat
def tw12074227017024432398:=Nat
def tw7599523945702672426:=Nat
def tw11088729887562435259:=Nat
def tw9813062165402424086:=Nat
def tw14710688947580412478:=Nat
def tw972306813465677467:=Nat
def tw5217094422728909059:=Nat
def tw6718464166247346037:=Nat
def tw7596851449030173786:=Nat
def tw18077348128329239229:=Nat
def tw15134205919770067572:=Nat
def tw16964951155981458538:=Nat
def tw15933361506757834492:=Nat
def tw3670123557249820235:=Nat
def tw15656530301623559408:=Nat
def tw13914795692163403655:=Nat
def tw13582010634475456154:=Nat
def tw13028963538557830093:=Nat
def tw5009496702711462719:=Nat
def tw14934215891463907919:=Nat
def tw13115631227163157237:=Nat
def tw3332714090725448972:=Nat
def tw14687299348193883408:=Nat
def tw4785112937452288736:=Nat
def tw13274515893371930361:=Nat
def tw7189584812733710349:=Nat
def tw3611240515974896867:=Nat
def tw16807189774472910107:=Nat
def tw7787898327345285014:=Nat
def tw18355958720427527949:=Nat
def tw13542576716357415604:=Nat
def tw1185306631991142291:=Nat
def tw5443567689273204437:=Nat
def tw9888369576580148524:=Nat
def tw13078940601824748083:=Nat
def tw16982446787292242009:=Nat
def tw15722651161518670900:=Nat
def tw2823055236115420767:=Nat
def tw4698689778445262821:=Nat
def tw7958924564635051603:=Nat
def tw214399371757501104:=Nat
def tw11724924831953647467:=Nat
def tw5925850733136897300:=Nat
def tw17626104420406289978:=Nat
def tw56267903154322787:=Nat
def tw11373422373703154652:=Nat
def tw15929362194426590784:=Nat
def tw3484746800451395346:=Nat
def tw15317876594502795020:=Nat
def tw6267345842854660003:=Nat
def tw3599228990749746307:=Nat
def tw4632155295009277873:=Nat
def tw16249005142732122515:=Nat
def tw7997482524479367700:=Nat
def tw12171950208796241487:=Nat
def tw8910487819623633564:=Nat
def tw14681592364154331119:=Nat
def tw15333327430324700908:=Nat
def tw4133024233338454901:=Nat
def tw5776523117398557282:=Nat
def tw4677309071152381541:=Nat
def tw18036473039575253092:=Nat
def tw3994478021423536754:=Nat
def tw8984369879428146638:=Nat
def tw4609511158574858598:=Nat
def tw2521467984469920103:=Nat
def tw12315412099785173930:=Nat
def tw12223070914827156223:=Nat
def tw17456131930623225982:=Nat
def tw16195332944917687099:=Nat
def tw13745716224186851879:=Nat
def tw11547054849865335061:=Nat
def tw143383628845790665:=Nat
def tw16485655786207939540:=Nat
def tw17104327817148576140:=Nat
def tw3713867860203438007:=Nat
def tw15833934100514196505:=Nat
def tw4207416327042674880:=Nat
def tw498520904274373811:=Nat
def tw10653664883092164894:=Nat
def tw671685724369802301:=Nat
def tw10105637269795563958:=Nat
def tw7307884680391921195:=Nat
def tw4545829362602087706:=Nat
def tw6936413392414878843:=Nat
def tw5017243524383384452:=Nat
def tw10409366684359006072:=Nat
def tw8867117354397795531:=Nat
def tw16960682122257003060:=Nat
def tw14261478173217231365:=Nat
def tw12726017339361032306:=Nat
def tw17413235875977413428:=Nat
def tw2057302520476814629:=Nat
def tw3090852675237873873:=Nat
def tw16234904200595674421:=Nat
def tw10221115072311309244:=Nat
def tw12369167962258931279:=Nat
def tw16101166948385915272:=Nat
def tw6340727854607359776:=Nat
def tw16520488358220369295:=Nat
def tw264643912053750991:=Nat
def tw17909530482570535315:=Nat
def tw2013204590969009250:=Nat
def tw6244780275276374437:=Nat
def tw1376120220378343299:=Nat
def tw16437282185458284275:=Nat
def tw8688064101928715960:=Nat
def tw14553901706843779370:=Nat
def tw11683167016287133310:=Nat
def tw15825183230022789210:=Nat
def tw16326573252920734515:=Nat
def tw541913918209309123:=Nat
def tw15589978143964120639:=Nat
def tw14602787861311601888:=Nat
def tw14099187884889314082:=Nat
def tw11878318650310893725:=Nat
def tw5534578601587701598:=Nat
def tw14351055111872677358:=Nat
def tw12605431878831552881:=Nat
def tw17217534600551739641:=Nat
def tw10535071080102770945:=Nat
def tw2977528785875346890:=Nat
def tw9617699314322713061:=Nat
def tw8498210667234458435:=Nat
def tw4272607879731870469:=Nat
def tw11385176016321966287:=Nat
def tw16463423561519373691:=Nat
def tw16358802027397393654:=Nat
def tw18116841759195149771:=Nat
def tw3847076492203114445:=Nat
def tw8359974701215579512:=Nat
def tw14263950875988155959:=Nat
def tw18160187310393391437:=Nat
def tw3134277533750479581:=Nat
def tw15240701183957013346:=Nat
def tw727509036314431552:=Nat
def tw11237512459552192594:=Nat
def tw12130211504151328632:=Nat
def tw16230848318598586934:=Nat
def tw11663083865519943130:=Nat
def tw14650648189338373251:=Nat
def tw13957656121937452733:=Nat
def tw17742991382073707232:=Nat
def tw11339095194870806778:=Nat
def tw13094331402847002403:=Nat
def tw14654731660959586493:=Nat
def tw600056530566988544:=Nat
def tw16391311840186177602:=Nat
def tw15731531461267676428:=Nat
def tw17991343154668342078:=Nat
def tw2160867636388991916:=Nat
def tw15985992702045844425:=Nat
def tw14547137630158644075:=Nat
def tw11016301135404084570:=Nat
def tw18333909541454353207:=Nat
def tw3737566498899174831:=Nat
def tw16761515861417323280:=Nat
def tw6032964520471973700:=Nat
def tw13291522286948397679:=Nat
def tw14066819869864718587:=Nat
def tw11851036600771040055:=Nat
def tw12012090092967421048:=Nat
def tw11946915958586589991:=Nat
def tw9763021210167253611:=Nat
def tw17628678578165068621:=Nat
def tw4390140328049668463:=Nat
def tw8424888150831613891:=Nat
def tw7763133306809575784:=Nat
def tw4994615979766517789:=Nat
def tw10070027551460970414:=Nat
def tw10965353083758348378:=Nat
def tw15138814788830653127:=Nat
def tw913034091890941849:=Nat
def tw13263607154585843650:=Nat
def tw1480200272249193142:=Nat
def tw2092936551026402594:=Nat
def tw15437025151828790420:=Nat
def tw7704830411786525219:=Nat
def tw1556875607216186960:=Nat
def tw16661423738068233395:=Nat
def tw16830240777557862520:=Nat
def tw14704030903901917460:=Nat
def tw6686944035469679771:=Nat
def tw15653628114691777515:=Nat
def tw6774658415829659870:=Nat
def tw14626039157643664101:=Nat
def tw5456977196270769661:=Nat
def tw7324733516796482577:=Nat
def tw4462751689910690332:=Nat
def tw11386972496651124407:=Nat
def tw5895778892657744440:=Nat
def tw4650270857277892026:=Nat
def tw9481682588172719405:=Nat
def tw14656252258821894830:=Nat
def tw13930431417180429073:=Nat
def tw10493687626002458076:=Nat
def tw2936958370389730610:=Nat
def tw3870537649266037296:=Nat
def tw4628191023687205297:=Nat
def tw7056989874985537902:=Nat
def tw6522423405982399235:=Nat
def tw13356787780176262875:=Nat
def tw17045057582215336840:=Nat
def tw3058973700536649083:=Nat
def tw3309588179084045645:=Nat
def tw10503355206183748707:=Nat
def tw11216233923350266901:=Nat
def tw16765898074834192932:=Nat
def tw5114144769776957652:=Nat
def tw11161998379849303482:=Nat
def tw9523286295374209042:=Nat
def tw1011119778950311303:=Nat
def tw7942490697252080123:=Nat
def tw16692812627337027703:=Nat
def tw7876463306741372253:=Nat
def tw2365022106767670990:=Nat
def tw9681898594600902275:=Nat
def tw10808172249542005370:=Nat
def tw12941896381141112183:=Nat
def tw7160147515972797426:=Nat
def tw3077316185073963928:=Nat
def tw10185579978341223576:=Nat
def tw10042920544246748818:=Nat
def tw1279431140646428353:=Nat
def tw7284361806295316991:=Nat
def tw16637461335382496849:=Nat
def tw16904783650062270353:=Nat
def tw737408939066999267:=Nat
def tw1365400118771127926:=Nat
def tw10379284390364962949:=Nat
def tw13307395642346602481:=Nat
def tw13544389382413497866:=Nat
def tw864732657910645686:=Nat
def tw15474437040442980339:=Nat
def tw15141332693641971897:=Nat
def tw5404646185408537457:=Nat
def tw14088875346950556228:=Nat
def tw157974826744114912:=Nat
def tw3373800065472736654:=Nat
def tw10035049366911847443:=Nat
def tw13095349568797511668:=Nat
def tw14790976808714228229:=Nat
def tw11309023552897366803:=Nat
def tw5747046437742476653:=Nat
def tw14590013110126300981:=Nat
def tw17314239095800719546:=Nat
def tw2432994889974629697:=Nat
def tw8653539836862140491:=Nat
def tw12878205692407326857:=Nat
def tw7723870411333500174:=Nat
def tw15136205257089559240:=Nat
def tw9266444797088792356:=Nat
def tw11067191381514569811:=Nat
def tw8277136380696746854:=Nat
def tw11528076578256150572:=Nat
def tw5216492908991876086:=Nat
def tw10316665961801241141:=Nat
def tw8871782599587329521:=Nat
def tw9690134335005801486:=Nat
def tw4610782192207653091:=Nat
def tw12290602838134181895:=Nat
def tw11747181391171659142:=Nat
def tw16192761918570452009:=Nat
def tw5382395331941158932:=Nat
def tw10950126146861535133:=Nat
def tw1952022066795930862:=Nat
def tw8354320537911880181:=Nat
def tw15473014946166221263:=Nat
def tw9187523500536867352:=Nat
def tw8044282567622705681:=Nat
def tw8688360404925979580:=Nat
def tw3192563742023788194:=Nat
def tw4780458779312583671:=Nat
def tw11631704991057008045:=Nat
def tw4643914329646509378:=Nat
def tw10377087891822643773:=Nat
def tw508625987377306638:=Nat
def tw3672934363390854297:=Nat
def tw4612466136214632997:=Nat
def tw10395658913500690325:=Nat
def tw347285601321739823:=Nat
def tw14177913000438766316:=Nat
def tw543101745339451537:=Nat
def tw16990969094232630479:=Nat
def tw11480753516073219267:=Nat
def tw4002867077376903446:=Nat
def tw7004865739173841018:=Nat
def tw17071115874546282324:=Nat
def tw698447912689783375:=Nat
def tw14866460492504397323:=Nat
def tw4945985813453867881:=Nat
def tw3871211346636360490:=Nat
def tw18066465878055667996:=Nat
def tw6434085917660066158:=Nat
def tw956048099788209310:=Nat
def tw7373925002624130556:=Nat
def tw8876301131058455380:=Nat
def tw14469899415700214577:=Nat
def tw1129704581850367702:=Nat
def tw18097811823260203091:=Nat
def tw14134161226046553564:=Nat
def tw2184677805389393615:=Nat
def tw9001238290543483542:=Nat
def tw1116835944144202140:=Nat
def tw11949358219084510314:=Nat
def tw13575054795745980245:=Nat
def tw7112700802836174228:=Nat
def tw14519663531533821745:=Nat
def tw18161811483188570764:=Nat
def tw15607063749053412881:=Nat
def tw13788402820578743953:=Nat
def tw9229803987555834895:=Nat
def tw18379320895151747756:=Nat
def tw9289676004441218693:=Nat
def tw3418977382600496895:=Nat
def tw10875397225418996492:=Nat
def tw4933388975217916118:=Nat
def tw6192308151433331003:=Nat
def tw2788747274199120769:=Nat
def tw15429084125999965375:=Nat
def tw1093809030289215156:=Nat
def tw9644666276225076569:=Nat
def tw822977448342139180:=Nat
def tw10427807011671508835:=Nat
def tw11348493935013402270:=Nat
def tw13013575802020462319:=Nat
def tw6419228864327889673:=Nat
def tw6828684508575081497:=Nat
def tw6892263529791975478:=Nat
def tw15490114552512203713:=Nat
def tw18160985344734984622:=Nat
def tw12029286984679432987:=Nat
def tw7934294124396859075:=Nat
def tw6545540558600200009:=Nat
def tw11932784107279077977:=Nat
def tw13728174616195269098:=Nat
def tw18027837496125264066:=Nat
def tw10623985789834697074:=Nat
def tw13307486622078822254:=Nat
def tw3315796081166770318:=Nat
def tw10181818379342210558:=Nat
def tw10122007919289453578:=Nat
def tw2925939422826133979:=Nat
def tw650996275010402278:=Nat
def tw5346002217896470130:=Nat
def tw4264420984099104323:=Nat
def tw8955888194191349735:=Nat
def tw3512005029750554421:=Nat
def tw15604132326398741246:=Nat
def tw17926432019195712605:=Nat
def tw11026416114920383412:=Nat
def tw15944249423272476683:=Nat
def tw5055536182155933964:=Nat
def tw17830341147161286958:=Nat
def tw6648837633414585927:=Nat
def tw7835782287226944485:=Nat
def tw11060527536338786476:=Nat
def tw2308200451239378915:=Nat
def tw10671045297790521959:=Nat
def tw8089655729105641981:=Nat
def tw3431161344782033250:=Nat
def tw1072405170416997106:=Nat
def tw15928099068894740207:=Nat
def tw12661277905232285330:=Nat
def tw6963145482599393301:=Nat
def tw5638400425659922155:=Nat
def tw10033920951942271430:=Nat
def tw309182196743126997:=Nat
def tw18197785244534411804:=Nat
def tw14550952523775945296:=Nat
def tw5462960355392124198:=Nat
def tw2302138531039311375:=Nat
def tw13559311945473172756:=Nat
def tw9561952892335539085:=Nat
def tw9867750416705902681:=Nat
def tw17901235206790680297:=Nat
def tw13985805643983373243:=Nat
def tw11867351067738777308:=Nat
def tw12562476068597889883:=Nat
def tw1756332308989846381:=Nat
def tw18248635093430285010:=Nat
def tw17588725948857201356:=Nat
def tw8026721996895956592:=Nat
def tw2122138412271477930:=Nat
def tw18302339929589369034:=Nat
def tw7254366944139215770:=Nat
def tw14330930523990796970:=Nat
def tw17894187902220929495:=Nat
def tw11964349132228662550:=Nat
def tw16542132593201545088:=Nat
def tw7265384251989660637:=Nat
def tw7179739824224028851:=Nat
def tw6601793740016948291:=Nat
def tw13415869653227190587:=Nat
def tw7164113915978452369:=Nat
def tw14425814953349099000:=Nat
def tw8103739356323689631:=Nat
def tw9145296567494920896:=Nat
def tw13684306620821298759:=Nat
def tw18002568356709956050:=Nat
def tw9292588836264028313:=Nat
def tw1087291114249465810:=Nat
def tw7077816386182390044:=Nat
def tw3063069363283853134:=Nat
def tw12177252547802010153:=Nat
def tw10023823643374606168:=Nat
def tw16382177994838193328:=Nat
def tw5539085667365984720:=Nat
def tw12581563479929695969:=Nat
def tw12598706176395260223:=Nat
def tw13602124466166716960:=Nat
def tw18390656377478322052:=Nat
def tw2603852132734855436:=Nat
def tw3806452768139596228:=Nat
def tw16228794861482066531:=Nat
def tw13393078180204739109:=Nat
def tw13774822271824602028:=Nat
def tw7009163220456023853:=Nat
def tw5897853584198933044:=Nat
def tw6523907780889253242:=Nat
def tw2541244561048605780:=Nat
def tw10714829674361664090:=Nat
def tw16778856590056175092:=Nat
def tw7342925105445077547:=Nat
def tw12834189651749274237:=Nat
def tw10980349550401858157:=Nat
def tw11763644003464614778:=Nat
def tw6240537532712917699:=Nat
def tw16134054498032805918:=Nat
def tw3515893007893946833:=Nat
def tw3794549269625997216:=Nat
def tw1150208108218281570:=Nat
def tw17394965303548534686:=Nat
def tw14247736903478053059:=Nat
def tw10709154620498161813:=Nat
def tw16252617877937081941:=Nat
def tw6967596182842285705:=Nat
def tw16754960052649416052:=Nat
def tw12816820781329953570:=Nat
def tw300437912344601067:=Nat
def tw3279205892925229863:=Nat
def tw10824926096056449929:=Nat
def tw12074512057989217500:=Nat
def tw14327366998011913698:=Nat
def tw14143601949129860427:=Nat
def tw6247172648956233240:=Nat
def tw505553667743969209:=Nat
def tw362581506753954126:=Nat
def tw12414265883873098782:=Nat
def tw6925348428420237631:=Nat
def tw1718678604529101854:=Nat
def tw13217489788495963297:=Nat
def tw13261631331385761832:=Nat
def tw6339976326063987734:=Nat
def tw10208992242314256743:=Nat
def tw4328550774559971538:=Nat
def tw10100169098224495267:=Nat
def tw523117459990989891:=Nat
def tw9539498149719147820:=Nat
def tw3918294305940360309:=Nat
def tw16745284702909205743:=Nat
def tw7016643043095177166:=Nat
def tw1435788034582094947:=Nat
def tw3416111226449357594:=Nat
end PySem.W.Fast
open PySem PySem.W PyProof.Rows
local macro_rules | `(tactic| walk_at "df")=>`(tactic| ((refine' L2.dfx_mk ?a ?l ?c ?k);(case a|l|c|k=>k_is)))
local macro_rules | `(tactic| walk_at "na")=>`(tactic| repeat (first | exact trivial | ((refine' And.intro ?_ ?_);next=>first | k_is | (show _=_;k_is))))
local macro_rules | `(tactic| walk_at "dm")=>`(tactic| ((refine' L2.dmx_mk ?a ?l ?c ?k ?n ?i);(case a|l|c|k|n=>k_is);(case i=>walk_at "na")))
local macro_rules | `(tactic| walk_at "dd")=>`(tactic| ((refine' L2.ddx_mk ?a ?l ?c ?k ?n ?d ?s ?i);(case a|l|c|k|n|d=>k_is);(case s=>rfl);(case i=>walk_at "na")))
local macro_rules | `(tactic| walk_at "dc")=>`(tactic| ((refine' L2.dcx_mk ?a ?l ?c ?k ?n ?d ?e ?f);(case a|l|c|k|n|d|e|f=>k_is)))
local macro_rules | `(tactic| walk_at "ex")=>`(tactic| ((refine' L2.Exc.mk ?x ?a ?b ?c ?d ?e ?f ?g ?h);(case x=>k_exc);(case a|b|c|d|e|f|g|h=>k_is)))
local macro_rules | `(tactic| walk_at "cl")=>`(tactic| ((refine' L2.Cls.mk ?a ?b ?c ?d);(case a|b|c|d=>k_is)))
local macro_rules | `(tactic| walk_at "mi")=>`(tactic| ((refine' And.intro ?a ?b);(case a|b=>k_is)))
set_option maxRecDepth 100000 in
set_option maxHeartbeats 0 in
theorem PySem.Challenge.cw_padwright_k55_whole_told_forms_put_holds : PySem.Challenge.rw_padwright_k55_whole_told_forms_put.Holds := by
 w_on;o_law;k_head;(case hw=>w_witness2)
 k_fill
 refine Pw.walk (l:=PySem.Challenge.rw_padwright_k55_whole_told_forms_put) rfl rfl (fun w h Y=>PySem.W.kIn_of Y) ?F
 case F =>
  intro w mg fa h KX G hmg
  refine' Pw.all_mk hmg (Pw.Zs.mk ⟨_,KX,G⟩ (PySem.W.mg_of KX G ?va) (PySem.W.mg_of KX G ?vb) (PySem.W.mg_of KX G ?vc) (PySem.W.mg_of KX G ?vd) (PySem.W.mg_of KX G ?ve) (PySem.W.mg_of KX G ?vf) (PySem.W.mg_of KX G ?vg) (PySem.W.mg_of KX G ?vh) (PySem.W.mg_of KX G ?vi) (PySem.W.mg_of KX G ?vj) (PySem.W.mg_of KX G ?vk) (PySem.W.mg_none_of KX G ?vl) (PySem.W.mg_none_of KX G ?vm) (PySem.W.mg_none_of KX G ?vn) (PySem.W.mg_none_of KX G ?vo) (PySem.W.mg_none_of KX G ?vp) (PySem.W.mg_none_of KX G ?vq) (PySem.W.mg_none_of KX G ?vr) (PySem.W.mg_none_of KX G ?vs) (PySem.W.mg_none_of KX G ?vt) (PySem.W.mg_none_of KX G ?vu) (PySem.W.mg_none_of KX G ?vv) (PySem.W.mg_none_of KX G ?vw) (PySem.W.mg_none_of KX G ?vx) (PySem.W.mg_of KX G ?vy) (PySem.W.mg_of KX G ?vz) (PySem.W.mg_of KX G ?vA) (PySem.W.mg_of KX G ?vB) (PySem.W.mg_of KX G ?vC) (PySem.W.mg_of KX G ?vD) (PySem.W.mg_of KX G ?vE) ?vF ?f0 ?f1 ?f2 ?f3 ?f4 ?f5 ?f6 ?f7 ?f8 ?f9 ?vG ?vH ?vI ?vJ ?vK ?vL ?vM ?vN ?vO ?vP ?vQ ?vR ?vS ?vT ?vU ?vV ?vW ?vX ?vY ?vZ ?v0 ?v1 ?v2 ?v3 ?v4 ?v5 ?v6 ?v7 ?v8 ?v9 ?wa ?wb ?wc ?wd ?we ?wf ?wg ?wh ?wi ?wj ?wk ?wl ?wm ?wn ?wo ?wp ?wq ?wr ?ws ?wt ?wu ?wv ?ww ?wx ?wy ?wz ?wA ?wB ?wC ?wD ?wE ?wF ?wG ?wH ?wI ?wJ ?wK ?wL ?wM ?wN ?wO ?wP ?wQ ?wR ?wS ?wT ?wU ?wV ?wW ?wX ?wY ?wZ ?w0 ?w1 ?w2 ?w3 ?w4 ?w5 ?w6 ?w7 ?w8 ?w9 ?ua ?ub ?uc ?ud ?ue ?uf ?ug ?uh ?ui ?uj ?vb ?vc ?vd ?ve ?uk ?ul ?um ?un ?uo ?up ?uq ?ur ?us ?ut ?uu ?uv ?uw ?hW ?ss ?ks ?hS ?xg ?xf ?xc ?xb ?ux ?Tx ?Tk ?uy ?uz ?uA ?uB ?uC ?uD ?uE ?uF ?uG ?uH ?uI ?uJ ?uK ?uL)
  (case va|vb|vc|vd|ve|vf|vg|vh|vi|vj|vk=>first | k_is | (show _=_;k_is))
  (case vl|vm|vn|vo|vp|vq|vr|vs|vt|vu|vv|vw|vx|vy|vz|vA|vB|vC|vD|vE|uy|uz|uA|uB|uE|uF|uI|uJ=>first | k_is | (show _=_;k_is))
  (case vF=>(refine' L2.sty_mk ?d ?hp0 ?ha0 ?hb0 ?hp1 ?ha1 ?hb1 ?hp2 ?ha2 ?hb2 ?hp3 ?ha3 ?hb3 ?hp4 ?ha4 ?hb4);(case d=>k_is);(case hp0=>k_is);(case ha0=>k_is);(case hb0=>k_is);(case hp1=>k_is);(case ha1=>k_is);(case hb1=>k_is);(case hp2=>k_is);(case ha2=>k_is);(case hb2=>k_is);(case hp3=>k_is);(case ha3=>k_is);(case hb3=>k_is);(case hp4=>k_is);(case ha4=>k_is);(case hb4=>k_is))
  (case f0|f1|f2|f3|f4|f5|f6|f7|f8|f9|vG|vH|vI|vJ|vK|vL|vM|vN|vO|vP|vQ|vR|vZ|v6|v8|v9|wb|wl|wp|wq|wt|wu|wz|wA|wB|wC|wD|wE|wF|wG|wH|wI|wJ|wK|wL|wM|wN|wO|wP|wQ|wR|wS|wT|wU|wV|wW|wX|wY|wZ|w0|w1|w2|w3|w4|w5|w6|w7|w8|w9|ua|ub|uc|ud|ue=>walk_at "df")
  (case vS=>walk_at "dc")
  (case vT|vU|vV=>walk_at "dd")
  (case vW|vX|vY|v0|v1|v2|v3|v4|v5|v7|wa|wc|wd|we|wf|wg|wh|wi|wj|wk|wm|wn|wo|wr|ws|wv|ww|wx|wy=>walk_at "dm")
  (case uf|ug|uh|ui|uj=>walk_at "ex")
  (case uk|un|uq|ut=>walk_at "cl")
  (case ul|uo|ur|uu=>walk_at "na")
  (case um|up|us|uv=>walk_at "mi")
  (case uw=>(refine' L2.kds_sty ?lo ?hd;(case lo=>rfl);(case hd=>k_is)))
  (case hW=>(refine' Pw.sqm_ways ?h;(case h=>k_is)))
  (case ss=>(refine' Pw.sgsets_mk ?lo ?h;(case lo=>rfl);(case h=>k_is)))
  (case ks=>(refine' Pw.kds_sets ?lo ?hd;(case lo=>rfl);(case hd=>k_is)))
  (case hS=>(refine' Pw.sqm_sides ?h;(case h=>k_is)))
  (case xg|xf|xc|xb|ux|Tx=>kts_exm)
  (case Tk|uC|uD|uG|uH|uK|uL=>kit_is)
